import PyProof.Rows.All
import Wide.All
import OpenK.AllK
import Wide.FinOn
import Lean
import PyProof.EqAt
import PyProof.EqKinds
import PyProof.TupleCall
import KE.KRevIter
import PyProof.ListRange
import PyProof.TupleOfGen
import PyProof.Draws
import PyProof.EnumMake
import PyProof.EnumFor
import PyProof.NeKinds
import KE.KDictList
import PyProof.Rows.TupDisplay
import PyProof.ZipIter
import PyProof.Rows.ZipGen
import KE.KItemsList
import PyProof.Rows.SumAny
import PyProof.StrWalks
import PyProof.StrCalls
import PyProof.StrCalls3
import PyProof.StrLawsFirst
import PyProof.StrLawsIn
import PyProof.SliceStr2
import PyProof.StrBlockI
import PyProof.Rows.StrWeight2
import PyProof.ListNew
import PyProof.DictRoadsH
import PyProof.WalkInts
import PyProof.Rows.MinMaxN
import KE.KDictLaws
import PyProof.StrCalls2
import PyProof.StrLawsChain
import KE.KIntText
import KE.KxText
import KE.KMinKey
import KE.KPairComp
import PyProof.MaxThree
import PyProof.DictValues
import OpenK.KCls
import PyProof.Rows.SortShellK
import KE.KSortTup
import KE.KLam
import KE.KNestM
import PyProof.AttrMissHeap
import KE.KDictOf
import PyProof.TupleKey
import PyProof.SetKind
import PyProof.IsRules
import PyProof.Rows.SetFrom
import PySem.Challenge.RW_guessroom_k57_say_asker_refuses
set_option compiler.extract_closed false
local macro_rules | `(s!$_) => `(by lia)
set_option Elab.async false
set_option linter.all false
set_option maxRecDepth 100000
namespace L2
open PySem PySem.Spec PyProof.Rows
noncomputable abbrev Key:=Sum Int Str
noncomputable def CM_:Key->Value->Bool
 |.inl k,v=>Value.isInt k v
 |.inr x,v=>Value.isStrOf x v
noncomputable def keyH (w:World):Key->Int
 |.inl k=>hashInt k
 |.inr x=>hashStr w x
theorem Ec:∀{k:Key} {v:Value},CM_ k v=true->(∃i t,k=Sum.inl i/\v=Value.int i t)\/(∃x t,k=Sum.inr x/\v=Value.str x t)
 |.inl i,v,h=>by
  obtain⟨t,e⟩:=Value.isInt_shape (k:=i) (v:=v) h
  exact .inl ⟨i,t,rfl,e⟩
 |.inr x,v,h=>by
  obtain⟨t,e⟩:=Value.isStrOf_shape (x:=x) (v:=v) h
  exact .inr ⟨x,t,rfl,e⟩
theorem DL_ (i:Int)(t:Tok):CM_ (.inl i) (.int i t)=true:=by simp[CM_,Value.isInt]
theorem DM_ (x:Str)(t:Tok):CM_ (.inr x) (.str x t)=true:=by simp[CM_,Value.isStrOf]
theorem IY_ (a b:Int):decide ((Sum.inl a:Key)=Sum.inl b)=(a==b):=by
 by_cases e:a=b
 ·subst e;simp
 ·have h:¬ (Sum.inl a:Key)=Sum.inl b:=fun q=>e (Sum.inl.inj q)
  rw[decide_eq_false h]
  exact (beq_eq_false_iff_ne.mpr e).symm
theorem IZ_ (a b:Str):decide ((Sum.inr a:Key)=Sum.inr b)=decide (a=b):=by
 by_cases e:a=b
 ·subst e;simp
 ·have h:¬ (Sum.inr a:Key)=Sum.inr b:=fun q=>e (Sum.inr.inj q)
  rw[decide_eq_false h,decide_eq_false e]
theorem Ja_ (a:Int)(b:Str):decide ((Sum.inl a:Key)=Sum.inr b)=false:=decide_eq_false (fun q=>nomatch q)
theorem Jb_ (a:Str)(b:Int):decide ((Sum.inr a:Key)=Sum.inl b)=false:=decide_eq_false (fun q=>nomatch q)
noncomputable def Ed (prog:Program)(w:World):PySem.KeyKind prog w Key where
 is:=CM_
 hash:=keyH w
 inj:=fun v a b ha hb=>by
  rcases Ec ha with ⟨i,t,rfl,rfl⟩|⟨x,t,rfl,rfl⟩
  ·rcases Ec hb with ⟨j,u,rfl,e⟩|⟨y,u,rfl,e⟩
   ·injection e with e1 _;rw[e1]
   ·exact nomatch e
  ·rcases Ec hb with ⟨j,u,rfl,e⟩|⟨y,u,rfl,e⟩
   ·exact nomatch e
   ·injection e with e1 _;rw[e1]
 byValue:=fun k v h=>by
  rcases Ec h with ⟨i,t,rfl,rfl⟩|⟨x,t,rfl,rfl⟩<;>rfl
 pyHash:=fun hv h=>by
  rcases Ec hv with ⟨i,t,rfl,rfl⟩|⟨x,t,rfl,rfl⟩
  ·exact wpAny_pyHash_int h
  ·exact wpAny_pyHash_str h
 eqBool:=fun hu hv h=>by
  rcases Ec hu with ⟨i,t,rfl,rfl⟩|⟨x,t,rfl,rfl⟩
  ·rcases Ec hv with ⟨j,u,rfl,rfl⟩|⟨y,u,rfl,rfl⟩
   ·rw[IY_]at h;exact wpAny_eqBool_int h
   ·rw[Ja_]at h;exact SeqAt.EqAt.int_str i t y u _ _ _ _ h
  ·rcases Ec hv with ⟨j,u,rfl,rfl⟩|⟨y,u,rfl,rfl⟩
   ·rw[Jb_]at h;exact SeqAt.EqAt.str_int x t j u _ _ _ _ h
   ·rw[IZ_]at h;exact wpAny_eqBool_str h
 «strs» := fun k x t v h=>by
  rcases Ec h with ⟨i,u,rfl,e⟩|⟨y,u,rfl,e⟩
  ·exact nomatch e
  ·injection e with e1 _
   subst e1
   cases v<;>rfl
theorem AE_ (prog:Program)(w:World)(i:Int)(t:Tok):(Ed prog w).is (.inl i) (.int i t)=true:=DL_ i t
theorem AF_ (prog:Program)(w:World)(x:Str)(t:Tok):(Ed prog w).is (.inr x) (.str x t)=true:=DM_ x t
inductive V where
 | non|bl (b:Bool)|int (i:Int)|str (x:Str)|byt (b:Array UInt8)|flt (b:UInt64)|ref (a:Addr)|ty (n:String)
 deriving DecidableEq
noncomputable def RelV:V->Value->Prop
 |.non,u=>u=Value.none
 |.bl b,u=>u=Value.bool b
 |.int i,u=>∃t,u=Value.int i t
 |.str x,u=>∃t,u=Value.str x t
 |.byt b,u=>∃t,u=Value.bytes b t
 |.flt b,u=>∃t,u=Value.float b t
 |.ref a,u=>u=Value.ref a
 |.ty n,u=>u=Value.type n
noncomputable abbrev Vals:List V->List Value->Prop:=Paired RelV
theorem Vals.length   (r:Vals xs us):xs.length=us.length:=Paired.length r
theorem Vals.get:∀{xs:List V} {us:List Value} {i:Nat} {x:V},Vals xs us->xs[i]?=some x->∃u,us[i]?=some u/\RelV x u
 |_,_,_,_,.nil,e=>by simp at e
 |_,_,0,_,.cons r _,e=>by simp at e;subst e;exact⟨_,rfl,r⟩
 |_,_,i+1,x,.cons _ t,e=>by
  obtain⟨u,h1,h2⟩:=Vals.get (i:=i) (x:=x) t (by simpa using e)
  exact⟨u,by simpa using h1,h2⟩
theorem Vals.append:∀{xs ys:List V} {us ws:List Value},Vals xs us->Vals ys ws->Vals (xs++ys) (us++ws)
 |_,_,_,_,.nil,s=>s
 |_,_,_,_,.cons r t,s=>.cons r (Vals.append t s)
theorem Vals.take:∀{xs:List V} {us:List Value} (n:Nat),Vals xs us->Vals (xs.take n) (us.take n)
 |_,_,0,_=>.nil
 |_,_,_+1,.nil=>.nil
 |_,_,n+1,.cons r t=>.cons r (Vals.take n t)
theorem Vals.drop:∀{xs:List V} {us:List Value} (n:Nat),Vals xs us->Vals (xs.drop n) (us.drop n)
 |_,_,0,r=>r
 |_,_,_+1,.nil=>.nil
 |_,_,n+1,.cons _ t=>Vals.drop n t
noncomputable def RelO:Option V->Option Value->Prop
 |some v,some u=>RelV v u
 |none,none=>True
 |_,_=>False
noncomputable def KV {κ:Type}:List (κ×V)->List (κ×Value)->Prop:=Paired fun (p:κ×V) (q:κ×Value)=>p.1=q.1/\RelV p.2 q.2
noncomputable def kV:Key->V
 |.inl i=>.int i
 |.inr x=>.str x
inductive HO where
 | lst (xs:List V)
 | tup (xs:List V)
 | dK (kvs:List (Key×V))|dT (kvs:List (List Key×V))
 | set (S:Int->Bool) (n:Nat)
 | ins (C dx:Addr) (fs:List (Str×V))
 | own (x:Addr)
 | xd (fs:List (Str×V))
 | met (f x:Addr)
 | rng (lo hi:Int)
 | frz (o:Obj) (u:HO)
 | tbl (ps:Array Value)
 | ext (φ:Heap->Prop)
noncomputable abbrev Hp:=Addr->Option HO
noncomputable def upd (H:Hp)(a:Addr)(o:HO):Hp:=fun b=>if b=a then some o else H b
theorem Ae    : upd H a o a=some o:=by unfold upd;rw[if_pos rfl]
theorem Ah    (h:b≠a):upd H a o b=H b:=by unfold upd;rw[if_neg h]
theorem KA_ {H:Hp}{a b:Addr}{o u:HO}(h:H a=some o)(h':H b=some u)(d:o≠u):a≠b:=by
 intro e;subst e;rw[h]at h';exact d (Option.some.inj h')
theorem B9 {H:Hp}{a b:Addr}{o:HO}(h:H a=some o)(h':H b=none):a≠b:=by
 intro e;subst e;rw[h]at h';cases h'
section
variable (P:Program) (w:World)
noncomputable def C5 (H:Hp)(h:Heap)(a:Addr):HO->Prop
 |.lst xs=>xs.length<=sizeLine/\∃(its:List Value) (n:Nat),Vals xs its/\h.get? a=some {cls:=.type "list",data:=.seq its.toArray n}
 |.tup xs=>xs.length<=sizeLine/\∃its:List Value,Vals xs its/\IsTup h a its.toArray
 |.dK kvs=>kvs.length<=sizeLine/\(a==sysModules)=false/\∃vs,KV kvs vs/\h.DictOf (Ed P w) a vs
 |.dT kvs=>kvs.length<=sizeLine/\(a==sysModules)=false/\∃xs:List (List Key×Addr×Value),
   Paired (fun (p:List Key×V) (q:List Key×Addr×Value)=>p.1=q.1/\H q.2.1=some (.tup (p.1.map kV))/\RelV p.2 q.2.2) kvs xs /\
   ∃o es ep,h.get? a=some o/\o.ExactDict/\o.data=.dict es ep/\es.toList=xs.map (entryOfKey (tupleKind (Ed P w)))/\(xs.map (·.1)).Nodup
 |.set S n=>h.SetOf (intKind P w) a S n
 |.ins C dx fs=>H dx=some (.own a)/\fs.length<=1000/\dx≠a/\h.get? a=some (PySem.W.instObj C dx) /\
   ∃mA,h.Ns1 dx mA/\(∀f,RelO (fs.lookup f) (mA f))/\PySem.Within mA (fs.map (·.1))
 |.own _=>∃o,h.get? a=some o
 |.xd fs=>∃mA,h.Ns1 a mA/\∀f,RelO (fs.lookup f) (mA f)
 |.rng lo hi=>∃t u v,h.get? a=some {cls:=.type "range",data:=.fields #[.int lo t,.int hi u,.int 1 v]}
 |.frz o u=>h.get? a=some o/\C5 H h a u
 |.tbl ps=>h.get? a=some {cls:=.none,data:=.fields ps}
 |.met f x=>h.get? a=some (PySem.W.methodObj (.ref f) (.ref x))
 |.ext φ=>φ h/\(∃o,h.get? a=some o)/\∀h1 h2:Heap,φ h1->(∀o,h1.get? a=some o->h2.get? a=some o)->φ h2
noncomputable def HOk (H:Hp)(h:Heap):Prop:=∀a o,H a=some o->C5 P w H h a o
end
section
variable {P:Program} {w:World} {H H':Hp} {h h':Heap} {a:Addr} {o:HO}
theorem C5.lt (x:C5 P w H h a o):a<h.objs.size:=by
 cases o with
 |lst xs=>obtain⟨_,_,_,_,e⟩:=x;exact Heap.lt_size e
 |tup xs=>obtain⟨_,_,_,p⟩:=x;exact p.lt
 |dK kvs=>obtain⟨_,_,_,_,o,_,_,e,_⟩:=x;exact Heap.lt_size e
 |dT kvs=>obtain⟨_,_,_,_,o,_,_,e,_⟩:=x;exact Heap.lt_size e
 |set S n=>obtain⟨o,_,_,_,e,_⟩:=x;exact Heap.lt_size e
 |ins C dx fs=>obtain⟨_,_,_,e,_⟩:=x;exact Heap.lt_size e
 |own y=>obtain⟨_,e⟩:=x;exact Heap.lt_size e
 |xd fs=>obtain⟨_,⟨_,_,_,e,_⟩,_⟩:=x;exact Heap.lt_size e
 |rng lo hi=>obtain⟨_,_,_,e⟩:=x;exact Heap.lt_size e
 |frz ob u=>obtain⟨e,_⟩:=x;exact Heap.lt_size e
 |tbl ps=>exact Heap.lt_size (show h.get? a=some _ from x)
 |met f y=>exact Heap.lt_size (show h.get? a=some _ from x)
 |ext φ=>obtain⟨_,⟨_,e⟩,_⟩:=x;exact Heap.lt_size e
theorem Paired.mapP {α β:Type}{F G:α->β->Prop}:∀{l₁:List α} {l₂:List β},Paired F l₁ l₂->(∀a b,F a b->G a b)->Paired G l₁ l₂
 |_,_,.nil,_=>.nil
 |_,_,.cons r t,f=>.cons (f _ _ r) (Paired.mapP t f)
theorem C5.stay (x:C5 P w H h a o)(k:∀b u,(b=a\/H b=some (.own a))->h.get? b=some u->h'.get? b=some u)
  (ho:∀b,H b=some (.own a)->H' b=some (.own a)) (ht:∀b xs,H b=some (.tup xs)->H' b=some (.tup xs)):C5 P w H' h' a o:=by
 induction o with
 |lst xs=>obtain⟨z,its,n,r,e⟩:=x;exact⟨z,its,n,r,k _ _ (.inl rfl) e⟩
 |tup xs=>obtain⟨z,its,r,ob,e,c⟩:=x;exact⟨z,its,r,ob,k _ _ (.inl rfl) e,c⟩
 |dK kvs=>obtain⟨z,y,vs,r,ob,es,ep,e,c⟩:=x;exact⟨z,y,vs,r,ob,es,ep,k _ _ (.inl rfl) e,c⟩
 |dT kvs=>
  obtain⟨z,y,xs,r,ob,es,ep,e,c⟩:=x
  exact⟨z,y,xs,Paired.mapP r fun p q z=>⟨z.1,ht _ _ z.2.1,z.2.2⟩,ob,es,ep,k _ _ (.inl rfl) e,c⟩
 |set S n=>obtain⟨ob,es,ep,t,e,c⟩:=x;exact⟨ob,es,ep,t,k _ _ (.inl rfl) e,c⟩
 |ins C dx fs=>
  obtain⟨d,z,ne,e,mA,⟨od,es,ep,e2,c⟩,r⟩:=x
  exact⟨ho _ d,z,ne,k _ _ (.inl rfl) e,mA,⟨od,es,ep,k _ _ (.inr d) e2,c⟩,r⟩
 |own y=>obtain⟨ob,e⟩:=x;exact⟨ob,k _ _ (.inl rfl) e⟩
 |xd fs=>obtain⟨mA,⟨od,es,ep,e,c⟩,r⟩:=x;exact⟨mA,⟨od,es,ep,k _ _ (.inl rfl) e,c⟩,r⟩
 |rng lo hi=>obtain⟨t,u,v,e⟩:=x;exact⟨t,u,v,k _ _ (.inl rfl) e⟩
 |frz ob u ih=>obtain⟨e,q⟩:=x;exact⟨k _ _ (.inl rfl) e,ih q⟩
 |tbl ps=>
  have e:h.get? a=some {cls:=.none,data:=.fields ps}:=x
  show h'.get? a=some {cls:=.none,data:=.fields ps}
  exact k a _ (.inl rfl) e
 |met f y=>
  have e:h.get? a=some (PySem.W.methodObj (.ref f) (.ref y)):=x
  show h'.get? a=some (PySem.W.methodObj (.ref f) (.ref y))
  exact k a _ (.inl rfl) e
 |ext φ=>obtain⟨p,⟨o,e⟩,st⟩:=x;exact⟨st _ _ p fun o q=>k _ _ (.inl rfl) q,⟨o,k _ _ (.inl rfl) e⟩,st⟩
theorem HOk.lt (x:HOk P w H h)(e:H a=some o):a<h.objs.size:=(x a o e).lt
theorem HOk.fresh (x:HOk P w H h)(e:h.objs.size<=a):H a=none:=by
 cases q:H a with
 |none=>rfl
 |some u=>exact absurd (Nat.lt_of_lt_of_le (x.lt q) e) (Nat.lt_irrefl _)
theorem HOk.kept (x:HOk P w H h)(k:∀b u,h.get? b=some u->h'.get? b=some u):HOk P w H h':=fun a o e=>
 (x a o e).stay (fun b u _ q=>k b u q) (fun _ q=>q) fun _ _ q=>q
theorem HOk.laid (x:HOk P w H h)(k:∀b u,h.get? b=some u->h'.get? b=some u)(hp:h.objs.size<=a)(new:C5 P w (upd H a o) h' a o):HOk P w (upd H a o) h':=fun b u e=>by
 have hn:=x.fresh hp
 by_cases hb:b=a
 ·subst hb;rw[Ae]at e;cases e;exact new
 ·rw[Ah hb]at e
  exact (x b u e).stay (fun c v _ q=>k c v q) (fun c q=>by rw[Ah (B9 q hn)];exact q) fun c xs q=>by rw[Ah (B9 q hn)];exact q
end
noncomputable def Rd (H:Hp)(a:Addr)(u:HO):Prop:=H a=some u \/ ∃o,H a=some (.frz o u)
theorem Rd.ok       (r:Rd H a u)(x:HOk P w H h):C5 P w H h a u:=by
 rcases r with r|⟨o,r⟩
 ·exact x a u r
 ·obtain⟨_,q⟩:=x a _ r
  exact q
noncomputable def Mut:Option HO->Prop
 |some (.lst _)=>True
 |some (.dK _)=>True
 |some (.dT _)=>True
 |some (.set _ _)=>True
 |some (.ins _ _ _)=>True
 |some (.ext _)=>True
 |_=>False
section
variable {P:Program} {w:World} {H:Hp} {h h':Heap} {x e:Addr} {o':HO}
theorem HOk.write (ok:HOk P w H h)(mu:Mut (H x))(he:e=x\/H e=some (.own x))(k:∀b u,b≠e->h.get? b=some u->h'.get? b=some u)(heo:∃u,h'.get? e=some u)
  (new:C5 P w (upd H x o') h' x o'):HOk P w (upd H x o') h':=fun b u q=>by
 have nown:∀c y,H c=some (.own y)->c≠x:=fun c y r z=>by subst z;rw[r]at mu;exact mu
 have ntup:∀c xs,H c=some (.tup xs)->c≠x:=fun c xs r z=>by subst z;rw[r]at mu;exact mu
 by_cases hb:b=x
 ·subst hb;rw[Ae]at q;cases q;exact new
 ·rw[Ah hb]at q
  by_cases hbe:b=e
  ·have q':H b=some (.own x):=by
    rcases he with z|z
    ·exact absurd (hbe.trans z) hb
    ·rw[hbe];exact z
   rw[q]at q';cases q'
   obtain⟨v,hv⟩:=heo
   exact⟨v,by rw[hbe];exact hv⟩
  ·refine (ok b u q).stay (fun c v hc r=>k c v ?_ r) (fun c r=>by rw[Ah (nown c b r)];exact r) fun c xs r=>by rw[Ah (ntup c xs r)];exact r
   rcases hc with rfl|hc
   ·exact hbe
   ·rintro rfl
    rcases he with z|z
    ·exact nown c b hc z
    ·rw[hc]at z;cases z;exact hb rfl
end
structure Un (fs ex:List Addr)(H H':Hp)(h h':Heap):Prop where
 keep:∀b o,h.get? b=some o->H b=none->b∉fs->b∉ex->h'.get? b=some o
 slot:∀b o,h.get? b=some o->H b=none->b∈fs->b∉ex->∃sl,h'.get? b=some {o with slots:=sl}
 free:∀b o,h.get? b=some o->H b=none->b∉ex->H' b=none
 there:∀b o,h.get? b=some o->b∉ex->∃o',h'.get? b=some o'
 tups:∀b xs,H b=some (.tup xs)->H' b=some (.tup xs)
 frzs:∀b o u,H b=some (.frz o u)->H' b=some (.frz o u)
 tbls:∀b ps,H b=some (.tbl ps)->∃more,H' b=some (.tbl (ps++more))
section
variable {fs fs' ex ex':List Addr} {H H1 H2:Hp} {h h1 h2 h':Heap} {a x e:Addr} {o:HO}
theorem Un.any (u:Un fs ex H H1 h h1)   (q:h.get? b=some ob)(n:H b=none)(hx:b∉ex):∃sl,h1.get? b=some {ob with slots:=sl}:=by
 by_cases hb:b∈fs
 ·exact u.slot b ob q n hb hx
 ·exact⟨ob.slots,u.keep b ob q n hb hx⟩
theorem Un.kept (k:∀b u,h.get? b=some u->h'.get? b=some u):Un fs ex H H h h' :=
 ⟨fun b ob q _ _ _=>k b ob q,fun b ob q _ _ _=>⟨ob.slots,k b ob q⟩,fun _ _ _ n _=>n,fun b ob q _=>⟨ob,k b ob q⟩,fun _ _ q=>q,fun _ _ _ q=>q,fun _ ps q=>⟨#[],by rw[q];simp⟩⟩
theorem Un.refl:Un fs ex H H h h:=Un.kept fun _ _ q=>q
theorem Un.laid (k:∀b u,h.get? b=some u->h'.get? b=some u)(hp:h.objs.size<=a)(hn:H a=none):Un fs ex H (upd H a o) h h' where
 keep:=fun b u q _ _ _=>k b u q
 slot:=fun b u q _ _ _=>⟨u.slots,k b u q⟩
 free:=fun b u q n _=>by rw[Ah (Nat.ne_of_lt (Nat.lt_of_lt_of_le (Heap.lt_size q) hp))];exact n
 there:=fun b u q _=>⟨u,k b u q⟩
 tups:=fun b xs q=>by rw[Ah (B9 q hn)];exact q
 frzs:=fun b u xs q=>by rw[Ah (B9 q hn)];exact q
 tbls:=fun b ps q=>⟨#[],by rw[Ah (B9 q hn),q];simp⟩
theorem Un.write (mu:Mut (H x))(he:e=x\/H e=some (.own x))(k:∀b u,b≠e->h.get? b=some u->h'.get? b=some u)(heo:∃u,h'.get? e=some u):Un fs ex H (upd H x o) h h':=by
 have hx:∀b,H b=none->b≠x:=fun b n z=>by subst z;rw[n]at mu;exact mu
 have hb:∀b,H b=none->b≠e:=fun b n z=>by
  subst z
  rcases he with r|r
  ·exact hx b n r
  ·rw[n]at r;cases r
 have hm:∀b u,H b=some u->¬ Mut (some u)->b≠x:=fun b u q nm z=>by subst z;rw[q]at mu;exact nm mu
 refine⟨fun b u q n _ _=>k b u (hb b n) q,fun b u q n _ _=>⟨u.slots,k b u (hb b n) q⟩,fun b u q n _=>by rw[Ah (hx b n)];exact n,fun b u q _=>?_,
  fun b xs q=>by rw[Ah (hm b _ q fun z=>z)];exact q,fun b u xs q=>by rw[Ah (hm b _ q fun z=>z)];exact q,fun b ps q=>⟨#[],by rw[Ah (hm b _ q fun z=>z),q];simp⟩⟩
 by_cases hbe:b=e
 ·subst hbe;exact heo
 ·exact⟨u,k b u hbe q⟩
end
noncomputable def trk (h:Heap)(H:Hp):List Addr:=(List.range h.objs.size).filter fun a=>(H a).isSome
noncomputable def hidT (h:Heap)(H:Hp):Heap:=PySem.W.hideAll h (trk h H)
theorem DN_ (h:Heap)(H:Hp):(hidT h H).objs.size=h.objs.size:=PySem.W.hideAll_size _ _
theorem FJ_     (e:h.get? b=some o)(n:H b=none):(hidT h H).get? b=some o:=
 PySem.W.hideAll_get _ e fun hm=>by
  have q:(H b).isSome=true:=(List.mem_filter.mp hm).2
  rw[n]at q;simp at q
theorem HT_     (e:(hidT h H).get? b=some o):h.get? b=some o/\H b=none:=by
 have e':h.get? b=some o:=PySem.W.of_hideAll (trk h H) e
 refine⟨e',?_⟩
 cases q:H b with
 |none=>rfl
 |some x=>
  have hm:b∈trk h H:=List.mem_filter.mpr ⟨List.mem_range.mpr (Heap.lt_size e'),by simp[q]⟩
  have z:(hidT h H).get? b=none:=PySem.W.hideAll_none (trk h H) hm
  rw[z]at e;cases e
noncomputable def HU_ (g h:Heap)(L:Addr):List (Addr×Obj):=(List.range h.objs.size).filterMap fun a=>if a=L\/(g.get? a).isSome=true then none else (h.get? a).map fun o=>(a,o)
noncomputable def rest (g h:Heap)(L d:Addr):List (Addr×Obj):=(HU_ g h L).filter fun p=>decide (p.1≠d)
end L2
namespace L2
open PySem PySem.Spec PyProof.Rows
structure Mod (K:PySem.W.Frag)(mg:Str->Option Value)(base:Heap):Prop where
 kin:K.In base
 glob:base.Ns mainGlobals mg
 blt:∃mb,base.Ns builtinsNs mb/\∀x:Str,x ≠ "__name__" -> mb x=bootBuiltins x
 nolimit:base.NoLimit
structure Cx where
 prog:Program
 w:World
 K:PySem.W.Frag
 mg:Str->Option Value
 base:Heap
 A:Around
 N:List Str
 s₀:Shared
 H₀:Hp
 env:Env
 outer:List Env
 stack:List Env
 ex:List Addr
 fn:Str->Bool
 calm:Bool
 pn:List (Addr×Obj)
 xe:Value->Shared->Prop
noncomputable def frs (l:List Env):List Addr:=l.filterMap (·.frame)
noncomputable abbrev Cx.fs (X:Cx):List Addr:=frs X.outer
noncomputable def Vis (sc:Scope)(x:Str):Prop:=sc.names.lookup x=some .local\/sc.names.lookup x=some .cell\/sc.names.lookup x=some .free
noncomputable def Loc (sc:Scope)(x:Str):Prop:=sc.names.lookup x=some .local\/sc.names.lookup x=some .cell
noncomputable def Look (env:Env)(h:Heap)(m:Str->Option Value)(x:Str)(u:Value):Prop:=
 (env.kindOf x=some .local/\m x=some u)\/((env.kindOf x=some .cell\/env.kindOf x=some .free)/\∃c,env.cells.lookup x=some c/\h.IsCell c (some u))
structure Cx.Ok (X:Cx):Prop where
 mod:Mod X.K X.mg X.base
 kind:X.env.scope.kind=.function
 glob:X.env.globals=mainGlobals
 blt:X.env.builtins=builtinsNs
 above:X.s₀.heap.objs.size<=X.env.locals
 inj:∀x y c,X.env.cells.lookup x=some c->X.env.cells.lookup y=some c->x=y
 has:∀x,(X.env.kindOf x=some .cell\/X.env.kindOf x=some .free)->∃c,X.env.cells.lookup x=some c
 cab:∀x c,X.fn x=true->X.env.cells.lookup x=some c->X.s₀.heap.objs.size<=c
 hd:X.calm=true->X.A.handled=none
 frames:X.A.frames=some X.stack
 stk:X.stack=X.outer\/(X.stack=X.env::X.outer/\X.env.frame=some X.env.locals)
 exf:∀b∈X.ex,b≠X.env.locals/\∀x c,X.env.cells.lookup x=some c->c≠b
 bs:∀b o,X.base.get? b=some o->X.s₀.heap.get? b=some o/\X.H₀ b=none
 bsz:X.base.objs.size<=X.s₀.heap.objs.size
 noex:∀b o,X.base.get? b=some o->b∉X.ex
 exfs:∀b∈X.ex,b∉X.fs
 funs:X.s₀.heap.FunFrames X.base X.outer
 frf:∀b∈X.fs,X.H₀ b=none
structure Inv (X:Cx)(pins:List (Addr×Obj))(σ:List (Option V))(H:Hp)(s:Shared):Prop where
 ok:X.Ok
 os:s.os=X.s₀.os
 bare:AllBare s.gens
 base:Un X.fs X.ex X.H₀ H X.s₀.heap s.heap
 loc:∃m,s.heap.Ns X.env.locals m/\∀(i:Nat) (x:Str) (v:V),X.N[i]?=some x->σ[i]?=some (some v)->Vis X.env.scope x->∃u,RelV v u/\Look X.env s.heap m x u
 cell:∀x c,X.env.cells.lookup x=some c->∃v,s.heap.IsCell c v
 free:H X.env.locals=none
 freeC:∀x c,X.env.cells.lookup x=some c->H c=none
 pin:∀p∈X.pn++pins,s.heap.get? p.1=some p.2/\H p.1=none/\p.1≠X.env.locals/\p.1∉X.fs/\∀v,p.2.data ≠ .cell v
 hok:HOk X.prog X.w H s.heap
 len:σ.length=X.N.length
section
variable {X:Cx} {pins:List (Addr×Obj)} {σ:List (Option V)} {H H':Hp} {s:Shared} {h':Heap}
theorem Cx.Ok.nofr (ok:X.Ok)   (e:X.base.get? b=some o):b∉X.fs:=fun hb=>by
 have:=(ok.funs.mem hb).1
 rw[e]at this;cases this
theorem Inv.bs (I:Inv X pins σ H s):∀b o,X.base.get? b=some o->s.heap.get? b=some o/\H b=none:=fun b o e=>
 ⟨I.base.keep b o (I.ok.bs b o e).1 (I.ok.bs b o e).2 (I.ok.nofr e) (I.ok.noex b o e),I.base.free b o (I.ok.bs b o e).1 (I.ok.bs b o e).2 (I.ok.noex b o e)⟩
theorem Inv.bk (I:Inv X pins σ H s):∀b o,X.base.get? b=some o->s.heap.get? b=some o:=fun b o e=>(I.bs b o e).1
theorem Inv.mod (I:Inv X pins σ H s):Mod X.K X.mg X.base:=I.ok.mod
theorem Inv.kIn (I:Inv X pins σ H s):X.K.In s.heap:=I.ok.mod.kin.keeps I.bk
theorem Inv.lt (I:Inv X pins σ H s):X.env.locals<s.heap.objs.size:=let ⟨_,hn,_⟩:=I.loc;hn.lt
theorem Inv.sz (I:Inv X pins σ H s):X.s₀.heap.objs.size<=s.heap.objs.size:=Nat.le_trans I.ok.above (Nat.le_of_lt I.lt)
theorem Inv.nofs (I:Inv X pins σ H s)  (h:s.heap.objs.size<=a):a∉X.fs:=fun hb=>by
 obtain⟨_,o,ho,_⟩:=I.ok.funs.mem hb
 exact absurd (Nat.lt_of_lt_of_le (Heap.lt_size ho) (Nat.le_trans I.sz h)) (Nat.lt_irrefl _)
theorem Inv.cne (I:Inv X pins σ H s):∀x c,X.env.cells.lookup x=some c->c≠X.env.locals:=fun x c e z=>by
 obtain⟨v,o,ho,hd⟩:=I.cell x c e
 obtain⟨m,⟨o',es,ep,ho',hd',_⟩,_⟩:=I.loc
 rw[z,ho']at ho;cases ho;rw[hd']at hd;cases hd
theorem Inv.funs (I:Inv X pins σ H s):s.heap.FunFrames X.base X.outer:=by
 have all:∀(l:List Env),(∀b∈frs l,b∈X.fs)->X.s₀.heap.FunFrames X.base l->s.heap.FunFrames X.base l:=by
  intro l
  induction l with
  |nil=>intro _ _;trivial
  |cons env r ih=>
   intro hs hl
   obtain⟨hk,⟨L,o,hf,hn,ho,hd⟩,hr⟩:=hl
   have hL:L∈X.fs:=hs L (by unfold frs;rw[List.filterMap_cons,hf];exact List.mem_cons_self)
   obtain⟨sl,e⟩:=I.base.slot L o ho (I.ok.frf L hL) hL fun z=>I.ok.exfs L z hL
   exact⟨hk,⟨L,_,hf,hn,e,hd⟩,ih (fun b hb=>hs b (by unfold frs;rw[List.filterMap_cons,hf];exact List.mem_cons_of_mem _ hb)) hr⟩
 exact all X.outer (fun _ hb=>hb) I.ok.funs
theorem Inv.stack (I:Inv X pins σ H s):s.heap.FunFrames X.base X.stack:=by
 rcases I.ok.stk with e|⟨e,hf⟩
 ·rw[e];exact I.funs
 ·rw[e]
  obtain⟨m,hn,_⟩:=I.loc
  refine .cons (by rw[I.ok.kind];decide) hf hn ?_ I.funs
  exact Heap.get?_none_of_le (Nat.le_trans I.ok.bsz I.ok.above)
theorem Inv.stkSub (I:Inv X pins σ H s):∀b∈frs X.stack,b∈X.env.locals::X.fs:=fun b hb=>by
 rcases I.ok.stk with e|⟨e,hf⟩
 ·rw[e]at hb;exact List.mem_cons_of_mem _ hb
 ·rw[e]at hb
  unfold frs at hb
  rw[List.filterMap_cons,hf]at hb
  exact hb
theorem Inv.stkFree (I:Inv X pins σ H s):∀b∈frs X.stack,H b=none:=fun b hb=>by
 rcases List.mem_cons.mp (I.stkSub b hb) with e|hb
 ·rw[e];exact I.free
 ·obtain⟨_,o,ho,_⟩:=I.ok.funs.mem hb
  exact I.base.free b o ho (I.ok.frf b hb) fun z=>I.ok.exfs b z hb
theorem Inv.step {g':Array GenState}{t':Nat}{d':Drawn}{ch:List Addr}(I:Inv X pins σ H s)
  (hch:∀b∈ch,(b∈X.ex\/X.s₀.heap.objs.size<=b)/\b≠X.env.locals/\(∀x c,X.env.cells.lookup x=some c->c≠b)/\∀p∈X.pn++pins,p.1≠b)
  (keep:∀b o,b≠X.env.locals->b∉X.fs->b∉ch->s.heap.get? b=some o->H b=none->h'.get? b=some o)
  (slot:∀b o,b≠X.env.locals->b∈X.fs->b∉ch->s.heap.get? b=some o->H b=none->∃sl,h'.get? b=some {o with slots:=sl}) (free:∀b o,b∉ch->s.heap.get? b=some o->H b=none->H' b=none)
  (there:∀b o,b∉ch->s.heap.get? b=some o->∃o',h'.get? b=some o')
  (tups:∀b xs,H b=some (.tup xs)->H' b=some (.tup xs)) (frzs:∀b o u,H b=some (.frz o u)->H' b=some (.frz o u)) (tbls:∀b ps,H b=some (.tbl ps)->∃more,H' b=some (.tbl (ps++more)))
  (ns:∀m,s.heap.Ns X.env.locals m->h'.Ns X.env.locals m) (hok:HOk X.prog X.w H' h') (hg:AllBare g'):
  Inv X pins σ H' {s with heap:=h',gens:=g',drawn:=d',toks:=t' }:=by
 have neL:∀b o,X.s₀.heap.get? b=some o->b≠X.env.locals:=fun b o e=>Nat.ne_of_lt (Nat.lt_of_lt_of_le (Heap.lt_size e) I.ok.above)
 have neC:∀b o,X.s₀.heap.get? b=some o->b∉X.ex->b∉ch:=fun b o e hx hb=>by
  rcases (hch b hb).1 with z|z
  ·exact hx z
  ·exact absurd (Nat.lt_of_lt_of_le (Heap.lt_size e) z) (Nat.lt_irrefl _)
 have cellK:∀x c,X.env.cells.lookup x=some c->∀v,s.heap.IsCell c v->h'.IsCell c v:=fun x c e v ⟨o,ho,hd⟩=>by
  have nch:c∉ch:=fun z=>(hch c z).2.2.1 x c e rfl
  by_cases hc:c∈X.fs
  ·obtain⟨sl,q⟩:=slot c o (I.cne x c e) hc nch ho (I.freeC x c e)
   exact⟨_,q,hd⟩
  ·exact⟨o,keep c o (I.cne x c e) hc nch ho (I.freeC x c e),hd⟩
 refine⟨I.ok,I.os,hg,⟨fun b o e n hb hx=>?_,fun b o e n hb hx=>?_,fun b o e n hx=>?_,fun b o e hx=>?_,fun b xs e=>tups b xs (I.base.tups b xs e),fun b o xs e=>frzs b o xs (I.base.frzs b o xs e),fun b ps e=>?_⟩,?_,fun x c e=>?_,?_,fun x c e=>?_,fun p hp=>?_,hok,I.len⟩
 ·exact keep b o (neL b o e) hb (neC b o e hx) (I.base.keep b o e n hb hx) (I.base.free b o e n hx)
 ·obtain⟨sl,e1⟩:=I.base.slot b o e n hb hx
  obtain⟨sl',e2⟩:=slot b _ (neL b o e) hb (neC b o e hx) e1 (I.base.free b o e n hx)
  exact⟨sl',e2⟩
 ·obtain⟨o',e1⟩:=I.base.there b o e hx
  exact free b o' (neC b o e hx) e1 (I.base.free b o e n hx)
 ·obtain⟨o',e1⟩:=I.base.there b o e hx
  exact there b o' (neC b o e hx) e1
 ·obtain⟨m1,e1⟩:=I.base.tbls b ps e
  obtain⟨m2,e2⟩:=tbls b _ e1
  exact⟨m1++m2,by rw[e2,Array.append_assoc]⟩
 ·obtain⟨m,hn,hl⟩:=I.loc
  refine⟨m,ns m hn,fun i x v e1 e2 e3=>?_⟩
  obtain⟨u,r,l⟩:=hl i x v e1 e2 e3
  refine⟨u,r,?_⟩
  rcases l with l|⟨k,c,e,z⟩
  ·exact .inl l
  ·exact .inr ⟨k,c,e,cellK x c e _ z⟩
 ·obtain⟨v,z⟩:=I.cell x c e
  exact⟨v,cellK x c e v z⟩
 ·obtain⟨m,⟨o,_,_,ho,_⟩,_⟩:=I.loc
  exact free _ o (fun z=>(hch _ z).2.1 rfl) ho I.free
 ·obtain⟨v,o,ho,hd⟩:=I.cell x c e
  exact free c o (fun z=>(hch c z).2.2.1 x c e rfl) ho (I.freeC x c e)
 ·obtain⟨e,n,ne,nf,d⟩:=I.pin p hp
  have nch:p.1∉ch:=fun z=>(hch p.1 z).2.2.2 p hp rfl
  exact⟨keep p.1 p.2 ne nf nch e n,free p.1 p.2 nch e n,ne,nf,d⟩
theorem Inv.un  (I:Inv X pins σ H s)(u:Un X.fs [] H H' s.heap h')(hok:HOk X.prog X.w H' h'):Inv X pins σ H' {s with heap:=h',toks:=t' }:=by
 obtain⟨m,⟨o,es,ep,ho,r⟩,_⟩:=id I.loc
 obtain⟨sl,hL⟩:=u.any ho I.free (by simp)
 exact I.step (g':=s.gens) (d':=s.drawn) (ch:=[]) (fun _ z=>nomatch z) (fun b o _ hb _ e n=>u.keep b o e n hb (by simp)) (fun b o _ hb _ e n=>u.slot b o e n hb (by simp)) (fun b o _ e n=>u.free b o e n (by simp)) (fun b o _ e=>u.there b o e (by simp)) u.tups u.frzs u.tbls (fun m' hm=>by
  obtain⟨o',es',ep',ho',r'⟩:=hm
  rw[ho]at ho';cases ho'
  exact⟨_,es',ep',hL,r'⟩) hok I.bare
theorem Inv.call     (I:Inv X pins σ H s)(u:Un (frs X.stack) ch H H' s.heap h')(hok:HOk X.prog X.w H' h')(hg:AllBare g')
  (hch:∀b∈ch,(b∈X.ex\/X.s₀.heap.objs.size<=b)/\b≠X.env.locals/\(∀x c,X.env.cells.lookup x=some c->c≠b)/\∀p∈X.pn++pins,p.1≠b):
  Inv X pins σ H' {s with heap:=h',gens:=g',drawn:=d',toks:=t' }:=by
 obtain⟨m,⟨o,es,ep,ho,r⟩,_⟩:=id I.loc
 obtain⟨sl,hL⟩:=u.any ho I.free fun z=>(hch _ z).2.1 rfl
 exact I.step (ch:=ch) hch (fun b o hL hb hc e n=>u.keep b o e n (fun z=>(List.mem_cons.mp (I.stkSub b z)).elim hL hb) hc) (fun b o _ _ hc e n=>u.any e n hc) (fun b o hc e n=>u.free b o e n hc) (fun b o hc e=>u.there b o e hc) u.tups u.frzs u.tbls (fun m' hm=>by
  obtain⟨o',es',ep',ho',r'⟩:=hm
  rw[ho]at ho';cases ho'
  exact⟨_,es',ep',hL,r'⟩) hok hg
theorem Inv.turned  {it:Addr}(I:Inv X pins σ H s)(k:∀b o,b≠it->s.heap.get? b=some o->h'.get? b=some o)(hn:H it=none)(hL:it≠X.env.locals)
  (h1:it∈X.ex\/X.s₀.heap.objs.size<=it) (h2:∀x c,X.env.cells.lookup x=some c->c≠it) (h3:∀p∈X.pn++pins,p.1≠it):Inv X pins σ H {s with heap:=h',toks:=t' }:=by
 have nit:∀b u,H b=some u->b≠it:=fun b u e z=>by rw[z,hn]at e;cases e
 refine I.step (g':=s.gens) (d':=s.drawn) (ch:=[it]) (fun b hb=>?_) (fun b o _ _ hc e _=>k b o (fun z=>hc (by simp[z])) e) (fun b o _ _ hc e _=>⟨o.slots,k b o (fun z=>hc (by simp[z])) e⟩) (fun _ _ _ _ n=>n)
  (fun b o hc e=>⟨o,k b o (fun z=>hc (by simp[z])) e⟩) (fun _ _ e=>e) (fun _ _ _ e=>e) (fun b ps e=>⟨#[],by rw[e];simp⟩) (fun m hm=>?_) (fun b u e=>?_) I.bare
 ·have e:b=it:=by simpa using hb
  subst e
  exact⟨h1,hL,h2,h3⟩
 ·obtain⟨o,es,ep,ho,r⟩:=hm
  exact⟨o,es,ep,k _ o (Ne.symm hL) ho,r⟩
 ·refine (I.hok b u e).stay (fun c v hc q=>k c v ?_ q) (fun _ q=>q) fun _ _ q=>q
  rcases hc with z|z
  ·rw[z];exact nit b u e
  ·exact nit c _ z
theorem Inv.tok (I:Inv X pins σ H s)(t:Nat):Inv X pins σ H {s with toks:=t}:=I.un (h':=s.heap) (t':=t) Un.refl I.hok
theorem Inv.kept  (I:Inv X pins σ H s)(k:∀b u,s.heap.get? b=some u->h'.get? b=some u):Inv X pins σ H {s with heap:=h',toks:=t' }:=I.un (Un.kept k) (I.hok.kept k)
theorem Inv.laid    (I:Inv X pins σ H s)(k:∀b u,s.heap.get? b=some u->h'.get? b=some u)(hp:s.heap.objs.size<=a)(new:C5 X.prog X.w (upd H a o) h' a o):
  Inv X pins σ (upd H a o) {s with heap:=h',toks:=t' }:=I.un (Un.laid k hp (I.hok.fresh hp)) (I.hok.laid k hp new)
theorem Inv.write    (I:Inv X pins σ H s)(mu:Mut (H x))(he:e=x\/H e=some (.own x))(k:∀b u,b≠e->s.heap.get? b=some u->h'.get? b=some u)(heo:∃u,h'.get? e=some u)
  (new:C5 X.prog X.w (upd H x o) h' x o):Inv X pins σ (upd H x o) {s with heap:=h',toks:=t' }:=I.un (Un.write mu he k heo) (I.hok.write mu he k heo new)
theorem Inv.pins_of  (I:Inv X pins σ H s)(h:∀p∈pins',s.heap.get? p.1=some p.2/\H p.1=none/\p.1≠X.env.locals/\p.1∉X.fs/\∀v,p.2.data ≠ .cell v):Inv X pins' σ H s:=
 ⟨I.ok,I.os,I.bare,I.base,I.loc,I.cell,I.free,I.freeC,fun p hp=>(List.mem_append.mp hp).elim (fun z=>I.pin p (List.mem_append_left _ z)) (h p),I.hok,I.len⟩
theorem Wn {N:List Str}(hN:N.Nodup){i j:Nat}{x:Str}(a:N[i]?=some x)(b:N[j]?=some x):i=j:=by
 obtain⟨h1,e1⟩:=List.getElem?_eq_some_iff.mp a
 obtain⟨h2,e2⟩:=List.getElem?_eq_some_iff.mp b
 exact (List.getElem_inj hN).mp (e1.trans e2.symm)
theorem YB         (I:Inv X pins σ H s)(hN:X.N.Nodup)(hi:X.N[i]?=some x)(hx:Loc X.env.scope x)(r:RelV v u)
  (h:∀s',Inv X pins (σ.set i (some v)) H s'->(∃a,Heap.SameBut a s.heap s'.heap/\(a=X.env.locals\/X.env.cells.lookup x=some a))->Q () s') (hf:X.fn x=true\/X.env.scope.names.lookup x=some .local:=by first|exact .inl rfl|exact .inr rfl|assumption):wpAny M A (storeName X.env x u) Q E s:=by
 obtain⟨m,hn,hl⟩:=id I.loc
 have hcls:(X.env.scope.kind == .class||(X.env.scope.kind == .module&&X.env.locals != X.env.globals))=false:=by rw[I.ok.kind];rfl
 have hiσ:i<σ.length:=by rw[I.len];exact (List.getElem?_eq_some_iff.mp hi).1
 have cne:=I.cne
 have tracked:∀{a:Addr} {h':Heap},(∃o,s.heap.get? a=some o/\H a=none)->Heap.SameBut a s.heap h'->HOk X.prog X.w H h':=fun {a h'} ha hs b ob e=>by
  obtain⟨_,_,hfree⟩:=ha
  refine (I.hok b ob e).stay (fun c w' hc q=>(hs.2 c ?_).trans q) (fun _ q=>q) fun _ _ q=>q
  rintro rfl
  rcases hc with rfl|hc
  ·rw[hfree]at e;cases e
  ·rw[hfree]at hc;cases hc
 rcases hx with hk|hk
 ·refine wpAny_storeName_local hk hn (fun h' hn' hs=>?_) hcls
  obtain⟨oL,_,_,hoL,_⟩:=id hn
  refine h _ ⟨I.ok,I.os,I.bare,⟨fun b o e n hb hx=>?_,fun b o e n hb hx=>?_,I.base.free,fun b o e hx=>?_,I.base.tups,I.base.frzs,I.base.tbls⟩,⟨_,hn',fun j y v' e1 e2 e3=>?_⟩,fun y c e=>?_,I.free,I.freeC,fun p hp=>?_,tracked ⟨oL,hoL,I.free⟩ hs,by simpa using I.len⟩ ⟨_,hs,.inl rfl⟩
  ·exact (hs.2 b (Nat.ne_of_lt (Nat.lt_of_lt_of_le (Heap.lt_size e) I.ok.above))).trans (I.base.keep b o e n hb hx)
  ·obtain⟨sl,e1⟩:=I.base.slot b o e n hb hx
   exact⟨sl,(hs.2 b (Nat.ne_of_lt (Nat.lt_of_lt_of_le (Heap.lt_size e) I.ok.above))).trans e1⟩
  ·obtain⟨o',e1⟩:=I.base.there b o e hx
   exact⟨o',(hs.2 b (Nat.ne_of_lt (Nat.lt_of_lt_of_le (Heap.lt_size e) I.ok.above))).trans e1⟩
  ·by_cases hj:j=i
   ·subst hj
    rw[hi]at e1;cases e1
    rw[List.getElem?_set_self hiσ]at e2
    cases e2
    exact⟨u,r,.inl ⟨hk,by simp⟩⟩
   ·rw[List.getElem?_set_ne (Ne.symm hj)]at e2
    obtain⟨u',r',q⟩:=hl j y v' e1 e2 e3
    refine⟨u',r',?_⟩
    rcases q with ⟨k,e⟩|⟨k,c,e,z⟩
    ·refine .inl ⟨k,?_⟩
     have:y≠x:=fun e=>hj (Wn hN e1 (e ▸ hi))
     simp[this,e]
    ·exact .inr ⟨k,c,e,z.sameBut hs (cne y c e)⟩
  ·obtain⟨w',z⟩:=I.cell y c e
   exact⟨w',z.sameBut hs (cne y c e)⟩
  ·obtain⟨e,n,ne,nf,d⟩:=I.pin p hp
   exact⟨(hs.2 p.1 ne).trans e,n,ne,nf,d⟩
 ·have hfn:X.fn x=true:=by
   rcases hf with z|z
   ·exact z
   ·rw[z]at hk;cases hk
  obtain⟨c,hc⟩:=I.ok.has x (.inl hk)
  obtain⟨w',z⟩:=I.cell x c hc
  refine wpAny_storeName_cell I.ok.kind hk hc z (fun h' hc' hs=>?_)
  obtain⟨oc,hoc,hocd⟩:=id z
  refine h {s with heap:=h' } ⟨I.ok,I.os,I.bare,⟨fun b o e n hb hx=>?_,fun b o e n hb hx=>?_,I.base.free,fun b o e hx=>?_,I.base.tups,I.base.frzs,I.base.tbls⟩,⟨m,hn.sameBut hs (Ne.symm (cne x c hc)),fun j y v' e1 e2 e3=>?_⟩,fun y c' e=>?_,I.free,I.freeC,fun p hp=>?_,tracked ⟨oc,hoc,I.freeC x c hc⟩ hs,by simpa using I.len⟩ ⟨c,hs,.inr hc⟩
  ·exact (hs.2 b (Nat.ne_of_lt (Nat.lt_of_lt_of_le (Heap.lt_size e) (I.ok.cab x c hfn hc)))).trans (I.base.keep b o e n hb hx)
  ·obtain⟨sl,e1⟩:=I.base.slot b o e n hb hx
   exact⟨sl,(hs.2 b (Nat.ne_of_lt (Nat.lt_of_lt_of_le (Heap.lt_size e) (I.ok.cab x c hfn hc)))).trans e1⟩
  ·obtain⟨o',e1⟩:=I.base.there b o e hx
   exact⟨o',(hs.2 b (Nat.ne_of_lt (Nat.lt_of_lt_of_le (Heap.lt_size e) (I.ok.cab x c hfn hc)))).trans e1⟩
  ·by_cases hj:j=i
   ·subst hj
    rw[hi]at e1;cases e1
    rw[List.getElem?_set_self hiσ]at e2
    cases e2
    exact⟨u,r,.inr ⟨.inl hk,c,hc,hc'⟩⟩
   ·rw[List.getElem?_set_ne (Ne.symm hj)]at e2
    obtain⟨u',r',q⟩:=hl j y v' e1 e2 e3
    refine⟨u',r',?_⟩
    rcases q with q|⟨k,c',e,z'⟩
    ·exact .inl q
    ·refine .inr ⟨k,c',e,z'.sameBut hs ?_⟩
     rintro rfl
     exact hj (Wn hN e1 (I.ok.inj _ _ _ e hc ▸ hi))
  ·by_cases hcc:c'=c
   ·subst hcc;exact⟨_,hc'⟩
   ·obtain⟨w2,z2⟩:=I.cell y c' e
    exact⟨w2,z2.sameBut hs hcc⟩
  ·obtain⟨e,n,ne,nf,d⟩:=I.pin p hp
   refine⟨(hs.2 p.1 ?_).trans e,n,ne,nf,d⟩
   intro q
   rw[q,hoc]at e
   have q':oc=p.2:=Option.some.inj e
   exact d w' (by rw[<-q'];exact hocd)
theorem Wo         (I:Inv X pins σ H s)(hN:X.N.Nodup)(hi:X.N[i]?=some x)(hx:Loc X.env.scope x)(r:RelV v u)
  (h:∀s',Inv X pins (σ.set i (some v)) H s'->Q () s') (hf:X.fn x=true\/X.env.scope.names.lookup x=some .local:=by first|exact .inl rfl|exact .inr rfl|assumption):wpAny M A (storeName X.env x u) Q E s:=
 YB I hN hi hx r (fun s' I' _=>h s' I') hf
theorem Inv.call'   (I:Inv X pins σ H s)(ho:s'.os=s.os)(u:Un (frs X.stack) ch H H' s.heap s'.heap)(hok:HOk X.prog X.w H' s'.heap)(hg:AllBare s'.gens)
  (hch:∀b∈ch,(b∈X.ex\/X.s₀.heap.objs.size<=b)/\b≠X.env.locals/\(∀x c,X.env.cells.lookup x=some c->c≠b)/\∀p∈X.pn++pins,p.1≠b):Inv X pins σ H' s':=by
 obtain⟨h',g',d',t',o'⟩:=s'
 have e:o'=s.os:=ho
 subst e
 exact I.call (g':=g') (t':=t') (d':=d') u hok hg hch
end
noncomputable abbrev XK:=Value->Option Addr->Hp->Prop
noncomputable abbrev St:=List (Option V)
noncomputable abbrev VK:=V->Hp->Prop
noncomputable abbrev TE:=St->Hp->VK->Prop
noncomputable abbrev TT:=St->Hp->(Bool->Hp->Prop)->Prop
noncomputable abbrev TA:=St->Hp->(List V->Hp->Prop)->Prop
structure Ends where
 nx:St->Hp->Prop
 rt:VK
 bk:St->Hp->Prop:=fun _ _=>False
 ct:St->Hp->Prop:=fun _ _=>False
noncomputable abbrev TS:=Ends->St->Hp->Prop
noncomputable def EP (X:Cx)(pins:List (Addr×Obj))(σ:St)(Q:VK)(u:Value)(s':Shared):Prop:=∃v H',Inv X pins σ H' s'/\RelV v u/\Q v H'
noncomputable def TP (X:Cx)(pins:List (Addr×Obj))(σ:St)(Q:Bool->Hp->Prop)(b:Bool)(s':Shared):Prop:=∃H',Inv X pins σ H' s'/\Q b H'
noncomputable def AP (X:Cx)(pins:List (Addr×Obj))(σ:St)(Q:List V->Hp->Prop)(us:List Value)(s':Shared):Prop:=∃vs H',Inv X pins σ H' s'/\Vals vs us/\Q vs H'
noncomputable def SP (X:Cx)(pins:List (Addr×Obj))(D:Ends)(f:Flow)(s':Shared):Prop:=
 match f with
 |.next=>∃σ' H',Inv X pins σ' H' s'/\D.nx σ' H'
 |.brk=>∃σ' H',Inv X pins σ' H' s'/\D.bk σ' H'
 |.cont=>∃σ' H',Inv X pins σ' H' s'/\D.ct σ' H'
 |.ret u=>∃v σ' H',Inv X pins σ' H' s'/\RelV v u/\D.rt v H'
noncomputable def PE (X:Cx)(e:Expr)(t:TE):Prop:=
 ∀(pins:List (Addr×Obj)) (s:Shared) (σ:St) (H:Hp) (Q:VK),Inv X pins σ H s->t σ H Q->wpAny (model X.prog X.w) X.A (eval e X.env) (EP X pins σ Q) X.xe s
noncomputable def PT (X:Cx)(e:Expr)(t:TT):Prop:=
 ∀(pins:List (Addr×Obj)) (s:Shared) (σ:St) (H:Hp) (Q:Bool->Hp->Prop),Inv X pins σ H s->t σ H Q->wpAny (model X.prog X.w) X.A (isTrue e X.env (eval e X.env)) (TP X pins σ Q) X.xe s
noncomputable def PW (X:Cx)(e:Expr)(t:TT):Prop:=
 ∀(whole:Sem Value) (pins:List (Addr×Obj)) (s:Shared) (σ:St) (H:Hp) (Q:Bool->Hp->Prop),Inv X pins σ H s->t σ H Q->wpAny (model X.prog X.w) X.A (isTrue e X.env whole) (TP X pins σ Q) X.xe s
theorem PW.pt    (h:PW X e t):PT X e t:=h _
noncomputable def PA (X:Cx)(es:List Expr)(t:TA):Prop:=
 ∀(pos:Pos) (pins:List (Addr×Obj)) (s:Shared) (σ:St) (H:Hp) (Q:List V->Hp->Prop),Inv X pins σ H s->t σ H Q->wpAny (model X.prog X.w) X.A (spliced (backTo pos (starEach es X.env))) (AP X pins σ Q) X.xe s
noncomputable def PS (X:Cx)(st:Stmt)(t:TS):Prop:=
 ∀(pins:List (Addr×Obj)) (s:Shared) (σ:St) (H:Hp) (D:Ends),Inv X pins σ H s->t D σ H->wpAny (model X.prog X.w) X.A (exec st X.env) (SP X pins D) X.xe s
noncomputable def PSs (X:Cx)(st:List Stmt)(t:TS):Prop:=
 ∀(pins:List (Addr×Obj)) (s:Shared) (σ:St) (H:Hp) (D:Ends),Inv X pins σ H s->t D σ H->wpAny (model X.prog X.w) X.A (execs st X.env) (SP X pins D) X.xe s
theorem thn        (h:wpAny M A t Q E s)(hQ:∀a s,Q a s->Q' a s):wpAny M A t Q' E s:=wpAny_mono h hQ fun _ _ x=>x
end L2
namespace L2
open PySem PySem.Spec PyProof.Rows
section
variable {X:Cx}
noncomputable def tVar (i:Nat):TE:=fun σ H Q=>∃v,σ[i]?=some (some v)/\Q v H
noncomputable def tC (v:V):TE:=fun _ H Q=>Q v H
theorem Jc_    (hN:X.N[i]?=some x)(hv:Vis X.env.scope x)(hd:(x==("__debug__" : Str))=false:=by decide)(hcd:(x==("__classdict__" : Str))=false:=by decide):PE X (.Name x pos) (tVar i):=by
 intro pins s σ H Q I h
 obtain⟨v,e,h⟩:=h
 obtain⟨m,hn,hl⟩:=I.loc
 obtain⟨u,r,l⟩:=hl i x v hN e hv
 have fin:EP X pins σ Q u s:=⟨v,H,I,r,h⟩
 rcases l with ⟨hk,hm⟩|⟨hk,c,hc,hcell⟩
 ·exact wpAny_Name (wpAny_loadName_local I.ok.kind hk hn hm fin) hd
 ·rcases hk with hk|hk
  ·exact wpAny_Name (wpAny_loadName_cell I.ok.kind hk hc hcell fin) hd
  ·exact wpAny_Name (wpAny_loadName_free I.ok.kind hk hc hcell fin hcd) hd
theorem Ai {i j pos}:PE X (.Constant (.int i) j pos) (tC (.int i)):=fun _ _ _ H _ I h=>wpAny_Constant_int ⟨.int i,H,I.tok _,⟨_,rfl⟩,h⟩
theorem Jm {b j pos}:PE X (.Constant (.bool b) j pos) (tC (.bl b)):=fun _ _ _ H _ I h=>Constant_bool ⟨.bl b,H,I,rfl,h⟩
theorem F3 {j pos}:PE X (.Constant .none j pos) (tC .non):=fun _ _ _ H _ I h=>Constant_none ⟨.non,H,I,rfl,h⟩
theorem Bn {x j pos}:PE X (.Constant (.str x) j pos) (tC (.str x)):=fun _ _ _ H _ I h=>Calls.Constant_str ⟨.str x,H,I.tok _,⟨_,rfl⟩,h⟩
noncomputable def Gl (X:Cx)(x:Str):Prop:=X.env.kindOf x=some .globalImplicit
theorem PU          (I:Inv X pins σ H s)(hg:Gl X x)(hm:X.mg x=some u)(h:Q u s)
  (hd:(x==("__debug__" : Str))=false:=by decide):wpAny (model X.prog X.w) X.A (eval (.Name x pos) X.env) Q E s:=
 Calls.Name_function_global I.ok.kind hg (Calls.loadGlobal_global (by rw[I.ok.glob];exact I.mod.glob.keeps I.bk) hm h) hd
theorem SJ          (I:Inv X pins σ H s)(hg:Gl X x)(hm:X.mg x=none)(hv:bootBuiltins x=some u)(h:Q u s)
  (hn:x ≠ "__name__" := by decide) (hd:(x==("__debug__" : Str))=false:=by decide):wpAny (model X.prog X.w) X.A (eval (.Name x pos) X.env) Q E s:=by
 obtain⟨mb,h1,h2⟩:=I.mod.blt
 exact Calls.Name_function_global I.ok.kind hg (Calls.loadGlobal_builtin (by rw[I.ok.glob];exact I.mod.glob.keeps I.bk) hm (by rw[I.ok.blt];exact h1.keeps I.bk) ((h2 x hn).trans hv) h) hd
theorem Lh     (hg:Gl X x)(hm:X.mg x=some u)(r:RelV v u)(hd:(x==("__debug__" : Str))=false:=by decide):PE X (.Name x pos) (tC v):=
 fun _ _ _ H _ I h=>PU I hg hm ⟨v,H,I,r,h⟩ hd
theorem HV_     (hg:Gl X x)(hm:X.mg x=none)(hv:bootBuiltins x=some u)(r:RelV v u)(hn:x ≠ "__name__" := by decide)(hd:(x==("__debug__" : Str))=false:=by decide):PE X (.Name x pos) (tC v):=
 fun _ _ _ H _ I h=>SJ I hg hm hv ⟨v,H,I,r,h⟩ hn hd
variable {a b:Expr} {ta tb:TE} {pos:Pos}
noncomputable def PC (X:Cx)(op:CmpOp)(a b:Expr)(t:TE):Prop:=
 ∀(pins:List (Addr×Obj)) (s:Shared) (σ:St) (H:Hp) (Q:VK),Inv X pins σ H s->t σ H Q ->
  wpAny (model X.prog X.w) X.A (eval a X.env) (fun v s₁=>wpAny (model X.prog X.w) X.A (eval b X.env) (fun u s₂=>wpAny (model X.prog X.w) X.A (compareOp op v u) (EP X pins σ Q) X.xe s₂) X.xe s₁) X.xe s
noncomputable def tB (t:TE):TT:=fun σ H Q=>t σ H fun x H1=>∃c,x=.bl c/\Q c H1
theorem Nz   (h:PE X e t)(he:∀whole,isTrue e X.env whole=(do let v <- whole;standAt e.pos;holding [v] (truthy v)):=by intro _;rfl):PT X e (tB t):=by
 intro pins s σ H Q I hw
 refine isTrue_plain (thn (h pins s σ H _ I hw) fun v s1 ⟨x,H1,I1,r1,q1⟩=>?_) (he _)
 obtain⟨d,rfl,q⟩:=q1
 cases r1
 exact wpAny_truthy_bool ⟨H1,I1,q⟩
variable {tA tB':TT} {rest:List Expr}
noncomputable def tAnd (t u:TT):TT:=fun σ H Q=>t σ H fun c H1=>if c=true then u σ H1 Q else Q false H1
noncomputable def tOr (t u:TT):TT:=fun σ H Q=>t σ H fun c H1=>if c=true then Q true H1 else u σ H1 Q
noncomputable def tNot (t:TT):TT:=fun σ H Q=>t σ H fun c H1=>Q (!c) H1
theorem HW_ (ha:PT X a tA):PW X (.BoolOp .And [a] pos) tA:=by
 intro wh pins s σ H Q I h
 refine isTrue_and (thn (ha pins s σ H Q I h) fun c s1 e=>?_)
 cases c with
 |true=>exact isTrue_and_nil e
 |false=>exact e
theorem Rk (ha:PT X a tA):PW X (.BoolOp .Or [a] pos) tA:=by
 intro wh pins s σ H Q I h
 refine isTrue_or (thn (ha pins s σ H Q I h) fun c s1 e=>?_)
 cases c with
 |false=>exact isTrue_or_nil e
 |true=>exact e
theorem Jd_ (ha:PT X a tA)(hb:PW X (.BoolOp .And (b::rest) pos) tB'):PW X (.BoolOp .And (a::b::rest) pos) (tAnd tA tB'):=by
 intro wh pins s σ H Q I h
 refine isTrue_and (thn (ha pins s σ H _ I h) fun c s1 ⟨H1,I1,q1⟩=>?_)
 cases c with
 |true=>exact hb wh pins s1 σ H1 Q I1 q1
 |false=>exact⟨H1,I1,q1⟩
theorem YC (ha:PT X a tA)(hb:PW X (.BoolOp .Or (b::rest) pos) tB'):PW X (.BoolOp .Or (a::b::rest) pos) (tOr tA tB'):=by
 intro wh pins s σ H Q I h
 refine isTrue_or (thn (ha pins s σ H _ I h) fun c s1 ⟨H1,I1,q1⟩=>?_)
 cases c with
 |true=>exact⟨H1,I1,q1⟩
 |false=>exact hb wh pins s1 σ H1 Q I1 q1
theorem DO_ (ha:PT X a tA):PT X (.UnaryOp .Not a pos) (tNot tA):=by
 intro pins s σ H Q I h
 exact isTrue_not (ha pins s σ H (fun c H1=>Q (!c) H1) I h)
noncomputable def Je_ (ta tb:TE):TE:=fun σ H Q=>ta σ H fun x H1=>∃c,x=.bl c/\if c=true then tb σ H1 Q else Q (.bl false) H1
theorem Jf_ {op}  (h:PE X a t):PE X (.BoolOp op [a] pos) t:=fun pins s σ H Q I hw=>BoolOp_one (h pins s σ H Q I hw)
theorem Jg_ (ha:PE X a ta)(hb:PE X (.BoolOp .And (b::rest) pos) tb):PE X (.BoolOp .And (a::b::rest) pos) (Je_ ta tb):=by
 intro pins s σ H Q I h
 refine BoolOp_and (thn (ha pins s σ H _ I h) fun v s1 ⟨x,H1,I1,r1,q1⟩=>?_)
 obtain⟨c,rfl,q1⟩:=q1
 cases r1
 refine wpAny_truthy_bool ?_
 cases c with
 |true=>exact hb pins s1 σ H1 Q I1 q1
 |false=>exact⟨.bl false,H1,I1,rfl,q1⟩
end
end L2
namespace L2
open PySem PySem.Spec PyProof.Rows
noncomputable def SqL (K:PySem.W.Frag)(H:Hp)(a:Addr)(xs:List V):Prop:=
 Rd H a (.lst xs) \/
  ∃(o:Obj) (its:Array Value) (n:Nat),K.lookup a=some o/\o.cls=.type "list" /\ o.dict=none/\o.data=.seq its n/\its.size<=sizeLine/\Vals xs its.toList
noncomputable def SqT (K:PySem.W.Frag)(H:Hp)(a:Addr)(xs:List V):Prop:=
 Rd H a (.tup xs) \/
  ∃(o:Obj) (its:Array Value) (n:Nat),K.lookup a=some o/\o.cls=.type "tuple" /\ o.data=.seq its n/\its.size<=sizeLine/\Vals xs its.toList
noncomputable def absV:Value->Option V
 |.none=>some .non
 |.bool b=>some (.bl b)
 |.int i _=>some (.int i)
 |.str x _=>some (.str x)
 |.bytes b _=>some (.byt b)
 |.float b _=>some (.flt b)
 |.ref a=>some (.ref a)
 |.type n=>some (.ty n)
 |_=>none
theorem RelV.abs   (r:RelV x u):absV u=some x:=by
 cases x with
 |non=>cases r;rfl
 |bl _=>cases r;rfl
 |int _=>obtain⟨t,rfl⟩:=r;rfl
 |str _=>obtain⟨t,rfl⟩:=r;rfl
 |byt _=>obtain⟨t,rfl⟩:=r;rfl
 |flt _=>obtain⟨t,rfl⟩:=r;rfl
 |ref _=>cases r;rfl
 |ty _=>cases r;rfl
theorem RelV.inj   (r:RelV x u)(q:RelV y u):x=y:=Option.some.inj (r.abs.symm.trans q.abs)
theorem Vals.inj:∀{xs ys:List V} {us:List Value},Vals xs us->Vals ys us->xs=ys
 |_,_,_,.nil,.nil=>rfl
 |_,_,_,.cons r t,.cons r' t'=>by rw[r.inj r',Vals.inj t t']
section
variable {X:Cx} {pins:List (Addr×Obj)} {σ:St} {H:Hp} {s:Shared} {a:Addr} {xs ys:List V}
theorem SqL.of {K:PySem.W.Frag}(h:H a=some (.lst xs)):SqL K H a xs:=.inl (.inl h)
theorem SqT.of {K:PySem.W.Frag}(h:H a=some (.tup xs)):SqT K H a xs:=.inl (.inl h)
theorem Inv.list (I:Inv X pins σ H s)(h:SqL X.K H a xs):∃its:List Value,Vals xs its/\PlainL s.heap a its.toArray/\xs.length<=sizeLine:=by
 rcases h with h|⟨o,its,n,hk,hc,hd,hs,hz,r⟩
 ·obtain⟨z,its,n,r,e⟩:=h.ok I.hok
  exact⟨its,r,⟨_,n,e,rfl,rfl,rfl⟩,z⟩
 ·refine⟨its.toList,r,⟨o,n,I.kIn a o hk,hc,hd,by simpa using hs⟩,?_⟩
  have e:=r.length
  simp only[Array.length_toList]at e
  lia
theorem Inv.tuple (I:Inv X pins σ H s)(h:SqT X.K H a xs):∃its:List Value,Vals xs its/\IsTup s.heap a its.toArray/\xs.length<=sizeLine:=by
 rcases h with h|⟨o,its,n,hk,hc,hs,hz,r⟩
 ·obtain⟨z,its,r,p⟩:=h.ok I.hok
  exact⟨its,r,p,z⟩
 ·refine⟨its.toList,r,⟨o,I.kIn a o hk,hc,n,by simpa using hs⟩,?_⟩
  have e:=r.length
  simp only[Array.length_toList]at e
  lia
theorem Inv.list_inj (I:Inv X pins σ H s)(h:SqL X.K H a xs)(h':SqL X.K H a ys):xs=ys:=by
 obtain⟨its,r,⟨o,n,e,_,_,d⟩,_⟩:=I.list h
 obtain⟨its',r',⟨o',n',e',_,_,d'⟩,_⟩:=I.list h'
 rw[e]at e';cases e'
 rw[d]at d'
 injection d' with d1 _
 have:its=its':=by simpa using congrArg Array.toList d1
 subst this
 exact r.inj r'
theorem Inv.tuple_inj (I:Inv X pins σ H s)(h:SqT X.K H a xs)(h':SqT X.K H a ys):xs=ys:=by
 obtain⟨its,r,⟨o,e,_,n,d⟩,_⟩:=I.tuple h
 obtain⟨its',r',⟨o',e',_,n',d'⟩,_⟩:=I.tuple h'
 rw[e]at e';cases e'
 rw[d]at d'
 injection d' with d1 _
 have:its=its':=by simpa using congrArg Array.toList d1
 subst this
 exact r.inj r'
end
noncomputable abbrev Cx.wish (X:Cx)(E:Value->Shared->Prop):Cx:={X with xe:=E}
noncomputable abbrev Cx.nox (X:Cx):Cx:=X.wish fun _ _=>False
theorem Cx.Ok.wish {X:Cx}(ok:X.Ok)(E:Value->Shared->Prop):(X.wish E).Ok:=
 ⟨ok.mod,ok.kind,ok.glob,ok.blt,ok.above,ok.inj,ok.has,ok.cab,ok.hd,ok.frames,ok.stk,ok.exf,ok.bs,ok.bsz,ok.noex,ok.exfs,ok.funs,ok.frf⟩
theorem Cx.Ok.unwish {X:Cx}{E:Value->Shared->Prop}(ok:(X.wish E).Ok):X.Ok:=
 ⟨ok.mod,ok.kind,ok.glob,ok.blt,ok.above,ok.inj,ok.has,ok.cab,ok.hd,ok.frames,ok.stk,ok.exf,ok.bs,ok.bsz,ok.noex,ok.exfs,ok.funs,ok.frf⟩
section
variable {X:Cx} {pins:List (Addr×Obj)} {σ:St} {H:Hp} {s:Shared} {E:Value->Shared->Prop}
theorem Inv.wish (I:Inv X pins σ H s)(E:Value->Shared->Prop):Inv (X.wish E) pins σ H s:=⟨I.ok.wish E,I.os,I.bare,I.base,I.loc,I.cell,I.free,I.freeC,I.pin,I.hok,I.len⟩
theorem Inv.unwish (I:Inv (X.wish E) pins σ H s):Inv X pins σ H s:=⟨I.ok.unwish,I.os,I.bare,I.base,I.loc,I.cell,I.free,I.freeC,I.pin,I.hok,I.len⟩
theorem SP.unwish    (h:SP (X.wish E) pins D f s'):SP X pins D f s':=by
 cases f with
 |next=>obtain⟨σ',H',I,q⟩:=h;exact⟨σ',H',I.unwish,q⟩
 |brk=>obtain⟨σ',H',I,q⟩:=h;exact⟨σ',H',I.unwish,q⟩
 |cont=>obtain⟨σ',H',I,q⟩:=h;exact⟨σ',H',I.unwish,q⟩
 |ret u=>obtain⟨v,σ',H',I,r,q⟩:=h;exact⟨v,σ',H',I.unwish,r,q⟩
theorem PSs.nox {st:List Stmt}  (h:PSs X.nox st t):PSs X st t:=fun pins s σ H D I hw=>
 wpAny_mono (h pins s σ H D (I.wish _) hw) (fun _ _ q=>q.unwish) fun _ _ z=>False.elim z
end
section
variable {X:Cx} {st:Stmt} {rest:List Stmt} {t u:TS} {e:Expr} {te:TE} {pos:Pos}
noncomputable def Jh_:TS:=fun D σ H=>D.nx σ H
noncomputable def tSeq (t u:TS):TS:=fun D σ H=>t {D with nx:=u D} σ H
theorem AR:PSs X [] Jh_:=fun _ _ σ H _ I h=>wpAny_execs_nil ⟨σ,H,I,h⟩
theorem Ad (h1:PS X st t)(h2:PSs X rest u):PSs X (st::rest) (tSeq t u):=by
 intro pins s σ H D I h
 refine wpAny_execs_cons (thn (h1 pins s σ H {D with nx:=u D} I h) fun f s1 q=>?_)
 cases f with
 |next=>
  obtain⟨σ',H',I',q⟩:=q
  exact h2 pins s1 σ' H' D I' q
 |ret v=>exact q
 |brk=>exact q
 |cont=>exact q
theorem Ac (h1:PS X st t):PSs X [st] t:=by
 intro pins s σ H D I h
 refine wpAny_execs_cons (thn (h1 pins s σ H D I h) fun f s1 q=>?_)
 cases f with
 |next=>exact wpAny_execs_nil q
 |ret v=>exact q
 |brk=>exact q
 |cont=>exact q
theorem Inv.quiet     (I:Inv X pins σ H s):interactive X.env=false:=by simp[interactive,I.ok.kind]
noncomputable def Ji_ (te:TE):TS:=fun D σ H=>te σ H fun _ H1=>D.nx σ H1
theorem Ba (he:PE X e te)(hs:swapsWith e none pos.line X.env=pure false:=by rfl):PS X (.Expr e pos) (Ji_ te):=by
 intro pins s σ H D I h
 exact wpAny_Expr_any (thn (he pins s σ H _ I h) fun v s1 ⟨x,H1,I1,r1,q1⟩=>⟨σ,H1,I1,q1⟩) I.quiet hs
noncomputable def tRet (te:TE):TS:=fun D σ H=>te σ H D.rt
theorem As (he:PE X e te):PS X (.Return (some e) pos) (tRet te):=by
 intro pins s σ H D I h
 exact wpAny_Return_some (thn (he pins s σ H _ I h) fun v s1 ⟨x,H1,I1,r1,q1⟩=>⟨x,σ,H1,I1,r1,q1⟩)
noncomputable def tIfS (c:TT)(t u:TS):TS:=fun D σ H=>c σ H fun b H1=>if b=true then t D σ H1 else u D σ H1
theorem Cv    (hc:PT X c tc)(ha:PSs X a t)(hb:PSs X b u):PS X (.If c a b pos) (tIfS tc t u):=by
 intro pins s σ H D I h
 refine wpAny_If (thn (hc pins s σ H _ I h) fun d s1 ⟨H1,I1,q1⟩=>?_)
 cases d with
 |true=>exact ha pins s1 σ H1 D I1 q1
 |false=>exact hb pins s1 σ H1 D I1 q1
end
noncomputable abbrev TG:=V->St->Hp->(St->Hp->Prop)->Prop
noncomputable abbrev TGs:=List V->St->Hp->(St->Hp->Prop)->Prop
noncomputable def PG (X:Cx)(target:Expr)(t:TG):Prop:=
 ∀(pins:List (Addr×Obj)) (s:Shared) (σ:St) (H:Hp) (v:V) (u:Value) (Q:St->Hp->Prop),Inv X pins σ H s->RelV v u->t v σ H Q ->
  wpAny (model X.prog X.w) X.A (assign target X.env u) (fun _ s'=>∃σ' H',Inv X pins σ' H' s'/\Q σ' H') X.xe s
noncomputable def PGs (X:Cx)(ts:List Expr)(t:TGs):Prop:=
 ∀(pins:List (Addr×Obj)) (s:Shared) (σ:St) (H:Hp) (vs:List V) (us:List Value) (Q:St->Hp->Prop),Inv X pins σ H s->Vals vs us->t vs σ H Q ->
  wpAny (model X.prog X.w) X.A (assignInOrder ((assignEach ts X.env).map (·.2)) us) (fun _ s'=>∃σ' H',Inv X pins σ' H' s'/\Q σ' H') X.xe s
section
variable {X:Cx} {pos:Pos}
noncomputable def AG_ (i:Nat):TG:=fun v σ H Q=>Q (σ.set i (some v)) H
theorem B4   (hN:X.N.Nodup)(hi:X.N[i]?=some x)(hx:Loc X.env.scope x)(hf:X.fn x=true\/X.env.scope.names.lookup x=some .local:=by first|exact .inl rfl|exact .inr rfl|assumption):PG X (.Name x pos) (AG_ i):=by
 intro pins s σ H v u Q I r h
 exact wpAny_assign_Name (Wo I hN hi hx r (fun s' I'=>⟨_,H,I',h⟩) hf)
noncomputable def gNil:TGs:=fun vs σ H Q=>vs=[]/\Q σ H
noncomputable def Jj_ (t:TG)(u:TGs):TGs:=fun vs σ H Q=>∃v r,vs=v::r/\t v σ H fun σ' H'=>u r σ' H' Q
theorem AH_:PGs X [] gNil:=by
 intro pins s σ H vs us Q I r h
 obtain⟨e,h⟩:=h
 subst e
 cases r
 exact assignInOrder_nil ⟨σ,H,I,h⟩
theorem MW     (h1:PG X e t)(h2:PGs X es u)
  (hs:(assignEach (e::es) X.env).map (·.2)=assign e X.env::(assignEach es X.env).map (·.2):=by rfl):PGs X (e::es) (Jj_ t u):=by
 intro pins s σ H vs us Q I r h
 obtain⟨v,vr,e1,h⟩:=h
 subst e1
 cases r with
 |cons r rr=>
  rw[hs]
  refine assignInOrder_cons (thn (h1 pins s σ H _ _ _ I r h) fun _ s1 ⟨σ1,H1,I1,q1⟩=>?_)
  exact h2 pins s1 σ1 H1 _ _ Q I1 rr q1
noncomputable def gTup (K:PySem.W.Frag)(n:Nat)(t:TGs):TG:=fun v σ H Q=>∃a xs,v=.ref a/\SqT K H a xs/\xs.length=n/\t xs σ H Q
theorem DP_     (hc:X.calm=true)(h:PGs X es t)
  (hn:(assignEach es X.env).length=n:=by rfl) (hst:(assignEach es X.env).findIdx? (·.1)=none:=by rfl):PG X (.Tuple es k pos) (gTup X.K n t):=by
 intro pins s σ H v u Q I r hw
 obtain⟨a,xs,e1,hq,hl,hw⟩:=hw
 subst e1
 cases r
 obtain⟨its,rv,ht,hz⟩:=I.tuple hq
 refine assign_Tuple_tuple (I.ok.hd hc) ht (by simp[hn,<-hl,rv.length]) hst fun h' hx=>?_
 have I1:Inv X pins σ H {s with heap:=h' }:=I.kept (t':=s.toks) fun b o e=>hx b o (Nat.ne_of_lt (Heap.lt_size e)) e
 exact h pins _ σ H xs _ Q I1 (by simpa using rv) hw
noncomputable def tAsg (te:TE)(g:TG):TS:=fun D σ H=>te σ H fun x H1=>g x σ H1 D.nx
theorem Rl      (hN:X.N.Nodup)(hi:X.N[i]?=some x)(hx:Loc X.env.scope x)(he:PE X e te)(hs:swapsWith e (some (.Name x pos')) pos.line X.env=pure false:=by rfl)(hf:X.fn x=true\/X.env.scope.names.lookup x=some .local:=by first|exact .inl rfl|exact .inr rfl|assumption):
  PS X (.Assign [.Name x pos'] e pos) (tAsg te (AG_ i)):=by
 intro pins s σ H D I h
 refine wpAny_Assign_Name (thn (he pins s σ H _ I h) fun v s1 ⟨y,H1,I1,r1,q1⟩=>?_) hs
 exact Wo I1 hN hi hx r1 (fun s2 I2=>⟨_,H1,I2,q1⟩) hf
end
section
variable {X:Cx} {pos:Pos}
noncomputable def GN_ (c:TT)(tb:TS):TS:=fun D σ H=>∃W:Nat->St->Hp->Prop,(∃m,W m σ H)/\∀m σ H,W m σ H ->
 c σ H fun b H1=>if b=true then ∃N:St->Hp->Prop,(∀σ' H',N σ' H'->∃m',m'<m/\W m' σ' H')/\tb {D with nx:=N,ct:=N,bk:=D.nx} σ H1 else D.nx σ H1
theorem Wq     (hp:PassesOwn (model X.prog X.w) X.A X.env X.xe)(hc:PT X c tc)(hb:PSs X body tb):PS X (.While c body [] pos) (GN_ tc tb):=by
 intro pins s σ H D I h
 obtain⟨W,⟨m0,w0⟩,turn⟩:=h
 refine wpAny_While (codeAny_whileLoop (fun n s'=>∃σ' H',Inv X pins σ' H' s'/\W n σ' H') ?_ m0 ⟨σ,H,I,w0⟩)
 rintro n s1 ⟨σ1,H1,I1,w1⟩
 refine wpAny_passesOwn hp (thn (hc pins s1 σ1 H1 _ I1 (turn n σ1 H1 w1)) fun b s2 ⟨H2,I2,q2⟩=>?_)
 cases b with
 |true=>
  obtain⟨N,hN,q2⟩:=q2
  rw[if_pos rfl]
  refine wpAny_passesOwn hp (thn (hb pins s2 σ1 H2 _ I2 q2) fun f s3 q3=>?_)
  cases f with
  |next=>
   obtain⟨σ3,H3,I3,n3⟩:=q3
   obtain⟨m',hm,w3⟩:=hN σ3 H3 n3
   exact⟨m',hm,σ3,H3,I3,w3⟩
  |cont=>
   obtain⟨σ3,H3,I3,n3⟩:=q3
   obtain⟨m',hm,w3⟩:=hN σ3 H3 n3
   exact⟨m',hm,σ3,H3,I3,w3⟩
  |brk=>exact q3
  |ret v=>exact q3
 |false=>
  rw[if_neg Bool.false_ne_true]
  exact wpAny_execs_nil ⟨σ1,H2,I2,q2⟩
end
structure It where
 go:Nat->Hp->Prop
 yld:Nat->Hp->V->Hp->Prop
 stop:Nat->Hp->Prop
noncomputable def FpOk (X:Cx)(pins:List (Addr×Obj))(H:Hp)(b:Addr):Prop:=
 H b=none/\b≠X.env.locals/\b∉X.fs/\(b∈X.ex\/X.s₀.heap.objs.size<=b)/\(∀x c,X.env.cells.lookup x=some c->c≠b)/\∀p∈X.pn++pins,p.1≠b
theorem Inv.fpOk       (I:Inv X pins σ H s)(hb:s.heap.objs.size<=b)(hn:H' b=none):FpOk X pins H' b:=by
 refine⟨hn,Nat.ne_of_gt (Nat.lt_of_lt_of_le I.lt hb),I.nofs hb,.inr (Nat.le_trans I.sz hb),fun x c e z=>?_,fun p hp z=>?_⟩
 ·obtain⟨v,q⟩:=I.cell x c e
  exact absurd (Nat.lt_of_lt_of_le q.lt (by rw[z];exact hb)) (Nat.lt_irrefl _)
 ·exact absurd (Nat.lt_of_lt_of_le (Heap.lt_size (I.pin p hp).1) (by rw[z];exact hb)) (Nat.lt_irrefl _)
structure Turn (P:Program)(w:World)(K:PySem.W.Frag)(tg:Expr)(J:It)(fp:List Addr)(it:Addr)(tn:Nat->Heap->Prop):Prop where
 mem:it∈fp
 obj:∀i h,tn i h->∀b∈fp,∃o,h.get? b=some o/\∀v,o.data ≠ .cell v
 keep:∀i h h',tn i h->(∀b∈fp,∀o,h.get? b=some o->h'.get? b=some o)->tn i h'
 item:∀(X:Cx),X.prog=P->X.w=w->X.K=K->X.calm=true->∀(i:Nat) (pins:List (Addr×Obj)) (s:Shared) (σ:St) (H:Hp) (E:Value->Shared->Prop),Inv X pins σ H s->(∀b∈fp,FpOk X pins H b)->tn i s.heap->J.go i H ->
  wpAny (model P w) X.A (pyNext (.ref it)) (fun r s1=>∃u,r=some u /\
   wpAny (model P w) X.A (letOwnedTupleGo tg (.ref it) u) (fun _ s2=>∃x H',Inv X pins σ H' s2/\RelV x u/\J.yld i H x H'/\tn (i+1) s2.heap/\∀b∈fp,H' b=none) E s1) E s
 done:∀(X:Cx),X.prog=P->X.w=w->X.K=K->X.calm=true->∀(i:Nat) (pins:List (Addr×Obj)) (s:Shared) (σ:St) (H:Hp) (E:Value->Shared->Prop),Inv X pins σ H s->(∀b∈fp,FpOk X pins H b)->tn i s.heap->J.stop i H ->
  wpAny (model P w) X.A (pyNext (.ref it)) (fun r s1=>r=none/\Inv X pins σ H s1) E s
 self:∀(A:Around) (i:Nat) (s:Shared) (Q:Value->Shared->Prop) (E:Value->Shared->Prop),tn i s.heap->Q (.ref it) s->wpAny (model P w) A (pyIter (.ref it)) Q E s
noncomputable abbrev TI:=St->Hp->(It->Hp->Prop)->Prop
noncomputable def PIE (X:Cx)(pins:List (Addr×Obj))(σ:St)(tg:Expr)(R:It->Hp->Prop)(itv:Value)(s2:Shared):Prop:=
 ∃(it:Addr) (fp:List Addr) (tn:Nat->Heap->Prop) (J:It) (H':Hp),itv=.ref it/\Inv X pins σ H' s2/\Turn X.prog X.w X.K tg J fp it tn/\tn 0 s2.heap/\(∀b∈fp,FpOk X pins H' b)/\R J H'
noncomputable def PI (X:Cx)(tg iter:Expr)(wi:TI):Prop:=
 ∀(pins:List (Addr×Obj)) (s:Shared) (σ:St) (H:Hp) (R:It->Hp->Prop),Inv X pins σ H s->wi σ H R ->
  wpAny (model X.prog X.w) X.A (eval iter X.env) (fun v s1=>wpAny (model X.prog X.w) X.A (pyIter v) (PIE X pins σ tg R) X.xe s1) X.xe s
theorem FK_      {it:Addr}      (ho:s.heap.get? it=some o)(hc:o.cls=.type n)(hd:o.data=.fields vs)
    (hn:["enumerate","zip","dict_itemiterator","dict_reverseitemiterator","odict_iterator","itertools.zip_longest","itertools.pairwise"].contains n=false) (hQ:Q () s):wpAny M A (letOwnedTupleGo tg (.ref it) u) Q E s:=by
  unfold letOwnedTupleGo
  cases tg<;>first
    | exact wpAny_pure hQ
    | (cases u<;>first
        | exact wpAny_pure hQ
        | (refine wpAny_bind (wpAny_load ho ?_)
           rw[hc,hd]
           show wpAny M A (if (["enumerate","zip","dict_itemiterator","dict_reverseitemiterator","odict_iterator","itertools.zip_longest","itertools.pairwise"].contains n&&vs[0]? == some (rawInt _))=true then _ else _) Q E s
           rw[if_neg (by intro h;rw[hn,Bool.false_and]at h;cases h)]
           exact wpAny_pure hQ))
noncomputable def Itl (K:PySem.W.Frag)(a:Addr):It:=
 ⟨fun i H=>∃xs x,SqL K H a xs/\xs[i]?=some x,fun i H x H'=>H'=H/\∀xs,SqL K H a xs->xs[i]?=some x,fun i H=>∃xs,SqL K H a xs/\xs.length<=i⟩
noncomputable def Itt (K:PySem.W.Frag)(a:Addr):It:=
 ⟨fun i H=>∃xs x,SqT K H a xs/\xs[i]?=some x,fun i H x H'=>H'=H/\∀xs,SqT K H a xs->xs[i]?=some x,fun i H=>∃xs,SqT K H a xs/\xs.length<=i⟩
noncomputable def Itr (lo:Int)(n:Nat):It:=⟨fun i _=>i<n,fun i H x H'=>H'=H/\x=.int (lo+i),fun i _=>n<=i⟩
theorem DQ_ {P:Program}{w:World}{K:PySem.W.Frag}{tg:Expr}(a it:Addr):Turn P w K tg (Itl K a) [it] it (fun i h=>h.IsListIter it a i) where
 mem:=by simp
 obj:=fun i h st b hb=>by
  have e:b=it:=by simpa using hb
  subst e
  obtain⟨o,e,c,d⟩:=st
  exact⟨o,e,fun v z=>by rw[d]at z;cases z⟩
 keep:=fun i h h' st k=>st.at fun o e=>k it (by simp) o e
 item:=by
  intro X hP hw hK hc i pins s σ H E I hf st hg
  subst hP hw hK
  obtain⟨xs,x,hq,hx⟩:=hg
  obtain⟨its,rv,p,hz⟩:=I.list hq
  obtain⟨u,hu,ru⟩:=rv.get hx
  obtain⟨f0,f1,f2,f3,f4,f5⟩:=hf it (by simp)
  refine wpAny_pyNext_list_item st p.isList (x:=u) (by simpa using hu) fun h' st' sb=>?_
  have I1:Inv X pins σ H {s with heap:=h' }:=I.turned (t':=s.toks) (fun b o hb e=>(sb.2 b hb).trans e) f0 f1 f3 f4 f5
  obtain⟨o,e,c,d⟩:=id st'
  exact⟨u,rfl,FK_ (s:={s with heap:=h' }) e c d (by decide) ⟨x,H,I1,ru,⟨rfl,fun ys hy=>by rw[I.list_inj hy hq];exact hx⟩,st',fun b hb=>(hf b hb).1⟩⟩
 done:=by
  intro X hP hw hK hc i pins s σ H E I hf st hg
  subst hP hw hK
  obtain⟨xs,hq,hx⟩:=hg
  obtain⟨its,rv,p,hz⟩:=I.list hq
  obtain⟨f0,f1,f2,f3,f4,f5⟩:=hf it (by simp)
  have hl:=rv.length
  exact wpAny_pyNext_list_end (I.ok.hd hc) st p.isList (by simp;lia) fun h' eb=>⟨rfl,I.turned (t':=s.toks) (fun b o hb e=>eb b o hb e) f0 f1 f3 f4 f5⟩
 self:=fun _ _ _ _ _ st h=>wpAny_pyIter_listiter st h
theorem CN_ {P:Program}{w:World}{K:PySem.W.Frag}{tg:Expr}(a it:Addr):Turn P w K tg (Itt K a) [it] it (fun i h=>h.IsTupleIter it a i) where
 mem:=by simp
 obj:=fun i h st b hb=>by
  have e:b=it:=by simpa using hb
  subst e
  obtain⟨o,e,c,d⟩:=st
  exact⟨o,e,fun v z=>by rw[d]at z;cases z⟩
 keep:=fun i h h' st k=>st.at fun o e=>k it (by simp) o e
 item:=by
  intro X hP hw hK hc i pins s σ H E I hf st hg
  subst hP hw hK
  obtain⟨xs,x,hq,hx⟩:=hg
  obtain⟨its,rv,p,hz⟩:=I.tuple hq
  obtain⟨u,hu,ru⟩:=rv.get hx
  obtain⟨f0,f1,f2,f3,f4,f5⟩:=hf it (by simp)
  refine wpAny_pyNext_tuple_item st (show s.heap.IsTuple a its.toArray from p) (x:=u) (by simpa using hu) fun h' st' sb=>?_
  have I1:Inv X pins σ H {s with heap:=h' }:=I.turned (t':=s.toks) (fun b o hb e=>(sb.2 b hb).trans e) f0 f1 f3 f4 f5
  obtain⟨o,e,c,d⟩:=id st'
  exact⟨u,rfl,FK_ (s:={s with heap:=h' }) e c d (by decide) ⟨x,H,I1,ru,⟨rfl,fun ys hy=>by rw[I.tuple_inj hy hq];exact hx⟩,st',fun b hb=>(hf b hb).1⟩⟩
 done:=by
  intro X hP hw hK hc i pins s σ H E I hf st hg
  subst hP hw hK
  obtain⟨xs,hq,hx⟩:=hg
  obtain⟨its,rv,p,hz⟩:=I.tuple hq
  obtain⟨f0,f1,f2,f3,f4,f5⟩:=hf it (by simp)
  have hl:=rv.length
  exact wpAny_pyNext_tuple_end (I.ok.hd hc) st (show s.heap.IsTuple a its.toArray from p) (by simp;lia) fun h' eb=>⟨rfl,I.turned (t':=s.toks) (fun b o hb e=>eb b o hb e) f0 f1 f3 f4 f5⟩
 self:=fun _ _ _ _ _ st h=>wpAny_pyIter_tupleiter st h
theorem CO_ {P:Program}{w:World}{K:PySem.W.Frag}{tg:Expr}(it:Addr)(lo:Int)(n:Nat):Turn P w K tg (Itr lo n) [it] it (fun i h=>IsRangeIter h it (lo+(i:Nat)*1) ((n:Int)-(i:Nat)) 1) where
 mem:=by simp
 obj:=fun i h st b hb=>by
  have e:b=it:=by simpa using hb
  subst e
  exact⟨_,st,fun v z=>by
   have z':Data.fields _=Data.cell v:=z
   cases z'⟩
 keep:=fun i h h' st k=>k it (by simp) _ st
 item:=by
  intro X hP hw hK hc i pins s σ H E I hf st hg
  subst hP hw hK
  obtain⟨f0,f1,f2,f3,f4,f5⟩:=hf it (by simp)
  have W:=Walks.range (prog:=X.prog) (w:=X.w) (I.ok.hd hc) it lo 1 n
  refine W.item i s _ _ hg st fun v h' tk hv st' kk=>?_
  obtain⟨t,rfl⟩:=hv
  have I1:Inv X pins σ H {s with heap:=h',toks:=tk}:=I.turned (fun b o hb e=>kk b o (by simpa using hb) e) f0 f1 f3 f4 f5
  refine⟨_,rfl,FK_ (s:={s with heap:=h',toks:=tk}) (n := "range_iterator") st' rfl rfl (by decide) ⟨.int (lo+i),H,I1,⟨t,?_⟩,⟨rfl,rfl⟩,st',fun b hb=>(hf b hb).1⟩⟩
  rw[Int.mul_one]
 done:=by
  intro X hP hw hK hc i pins s σ H E I hf st hg
  subst hP hw hK
  obtain⟨f0,f1,f2,f3,f4,f5⟩:=hf it (by simp)
  exact wpAny_pyNext_range_end (I.ok.hd hc) st (by have:n<=i:=hg;lia) fun h' eb=>⟨rfl,I.turned (t':=s.toks) (fun b o hb e=>eb b o hb e) f0 f1 f3 f4 f5⟩
 self:=fun _ _ _ _ _ st h=>wpAny_pyIter_rangeiter st h
end L2
namespace L2
open PySem PySem.Spec PyProof.Rows
section
variable {X:Cx} {tg:Expr}
noncomputable def Jk_ (K:PySem.W.Frag)(tl:TE):TI:=fun σ H R=>tl σ H fun x H1=>∃a,x=.ref a/\(∃xs,SqL K H1 a xs)/\R (Itl K a) H1
noncomputable def iTup (K:PySem.W.Frag)(tl:TE):TI:=fun σ H R=>tl σ H fun x H1=>∃a,x=.ref a/\(∃xs,SqT K H1 a xs)/\R (Itt K a) H1
theorem Gq   (hl:PE X l tl):PI X tg l (Jk_ X.K tl):=by
 intro pins s σ H R I h
 refine thn (hl pins s σ H _ I h) fun v s1 ⟨x,H1,I1,r1,q1⟩=>?_
 obtain⟨a,e,⟨xs,hq⟩,q⟩:=q1
 subst e
 cases r1
 obtain⟨its,rv,p,hz⟩:=I1.list hq
 refine wpAny_pyIter_list p.isList ?_
 refine⟨s1.heap.objs.size,[s1.heap.objs.size],_,_,H1,rfl,I1.kept (t':=s1.toks) fun b o e=>Heap.get?_push_of_some _ e,DQ_ a _,⟨_,Heap.get?_push_size _ rfl,rfl,rfl⟩,fun b hb=>?_,q⟩
 have e:b=s1.heap.objs.size:=by simpa using hb
 subst e
 exact I1.fpOk (Nat.le_refl _) (I1.hok.fresh (Nat.le_refl _))
theorem DR_   (hl:PE X l tl):PI X tg l (iTup X.K tl):=by
 intro pins s σ H R I h
 refine thn (hl pins s σ H _ I h) fun v s1 ⟨x,H1,I1,r1,q1⟩=>?_
 obtain⟨a,e,⟨xs,hq⟩,q⟩:=q1
 subst e
 cases r1
 obtain⟨its,rv,p,hz⟩:=I1.tuple hq
 refine wpAny_pyIter_tuple (show s1.heap.IsTuple a its.toArray from p) ?_
 refine⟨s1.heap.objs.size,[s1.heap.objs.size],_,_,H1,rfl,I1.kept (t':=s1.toks) fun b o e=>Heap.get?_push_of_some _ e,CN_ a _,⟨_,Heap.get?_push_size _ rfl,rfl,rfl⟩,fun b hb=>?_,q⟩
 have e:b=s1.heap.objs.size:=by simpa using hb
 subst e
 exact I1.fpOk (Nat.le_refl _) (I1.hok.fresh (Nat.le_refl _))
theorem Cf_       {lo hi:Int}   (I:Inv X pins σ H s)(h1 : -(2 ^ 62)<=lo)(h2:lo<2 ^ 62)(h3 : -(2 ^ 62)<=hi)(h4:hi<2 ^ 62)
  (q:R (Itr lo (hi-lo).toNat) H):wpAny (model X.prog X.w) X.A (pyIter (.ref s.heap.objs.size)) (PIE X pins σ tg R) E {s with heap:=s.heap.push {cls:=.type "range",data:=.fields #[.int lo t,.int hi u,.int 1 v]},toks:=tk}:=by
 refine wpAny_pyIter_range (IsRange.new ..) (small_one h1 h2 h3 h4) ?_
 have I1:Inv X pins σ H {s with heap:=s.heap.push {cls:=.type "range",data:=.fields #[.int lo t,.int hi u,.int 1 v]},toks:=tk}:=I.kept fun b o e=>Heap.get?_push_of_some _ e
 refine⟨(s.heap.push {cls:=.type "range",data:=.fields #[.int lo t,.int hi u,.int 1 v]}).objs.size,[(s.heap.push {cls:=.type "range",data:=.fields #[.int lo t,.int hi u,.int 1 v]}).objs.size],_,_,H,rfl,
  I1.kept (t':=tk) fun b o e=>Heap.get?_push_of_some _ e,CO_ _ lo (hi-lo).toNat,?_,fun b hb=>?_,q⟩
 ·have e1:lo+((0:Nat):Int)*1=lo:=by simp
  have e2:(((hi-lo).toNat:Nat):Int)-((0:Nat):Int)=Builtin.Range.rangeSize lo hi 1:=by rw[rangeSize_one];split<;>lia
  show IsRangeIter _ _ (lo+((0:Nat):Int)*1) ((((hi-lo).toNat:Nat):Int)-((0:Nat):Int)) 1
  rw[e1,e2]
  exact Heap.get?_push_size _ rfl
 ·have e:b=(s.heap.push {cls:=.type "range",data:=.fields #[.int lo t,.int hi u,.int 1 v]}).objs.size:=by simpa using hb
  subst e
  exact I1.fpOk (Nat.le_refl _) (I1.hok.fresh (Nat.le_refl _))
noncomputable def Jl_ (ta:TA):TI:=fun σ H R=>ta σ H fun vs H1=>∃j:Int,vs=[.int j] /\ -(2 ^ 62)<=j/\j<2 ^ 62/\R (Itr 0 j.toNat) H1
noncomputable def Jm_ (ta:TA):TI:=fun σ H R=>ta σ H fun vs H1=>∃i j:Int,vs=[.int i,.int j]/\(-(2 ^ 62)<=i/\i<2 ^ 62 /\ -(2 ^ 62)<=j/\j<2 ^ 62)/\R (Itr i (j-i).toNat) H1
theorem Li    (hg:Gl X "range")(hm:X.mg "range"=none)(ha:PA X [a] ta)(hs:starEach [a] X.env=[(false,eval a X.env)]:=by rfl):PI X tg (.Call (.Name "range" p) [a] [] pos) (Jl_ ta):=by
 intro pins s σ H R I h
 refine Call_ (SJ I hg hm boot_range (PyProof.Rows.callWith_type1 (thn (ha pos pins s σ H _ I h) fun us s1 ⟨vs,H1,I1,r1,q1⟩=>?_) hs rfl))
 obtain⟨j,e,q1,q2,q⟩:=q1
 subst e
 cases r1 with
 |cons r rr=>
  cases rr
  obtain⟨t,rfl⟩:=r
  exact call_range_1 (Cf_ I1 s!"" s!"" q1 q2 (by simpa using q))
theorem DS_    (hg:Gl X "range")(hm:X.mg "range"=none)(ha:PA X [a,b] ta)(hs:starEach [a,b] X.env=[(false,eval a X.env),(false,eval b X.env)]:=by rfl)(hs2:starEach [b] X.env=[(false,eval b X.env)]:=by rfl):
  PI X tg (.Call (.Name "range" p) [a,b] [] pos) (Jm_ ta):=by
 intro pins s σ H R I h
 refine Call_ (SJ I hg hm boot_range (PyProof.Rows.callWith_type1 (thn (ha pos pins s σ H _ I h) fun us s1 ⟨vs,H1,I1,r1,q1⟩=>?_) (by rw[hs,hs2]) (by rw[hs2];rfl)))
 obtain⟨i,j,e,⟨q1,q2,q3,q4⟩,q⟩:=q1
 subst e
 cases r1 with
 |cons r rr=>
  cases rr with
  |cons r' rr=>
   cases rr
   obtain⟨t,rfl⟩:=r
   obtain⟨t',rfl⟩:=r'
   exact call_range_2 (Cf_ I1 q1 q2 q3 q4 q)
noncomputable def tFor (wi:TI)(g:TG)(tb:TS):TS:=fun D σ H=>wi σ H fun J H1=>∃W:Nat->Nat->St->Hp->Prop,(∃m,W 0 m σ H1)/\∀i m σ H,W i m σ H ->
 (J.stop i H/\D.nx σ H)\/(J.go i H/\∃N:St->Hp->Prop,(∀σ' H',N σ' H'->∃m',m'<m/\W (i+1) m' σ' H')/\∀x H',J.yld i H x H'->g x σ H' fun σ2 H2=>tb {D with nx:=N,ct:=N,bk:=D.nx} σ2 H2)
noncomputable def YD (fp:List Addr)(h:Heap):List (Addr×Obj):=fp.filterMap fun b=>(h.get? b).map fun o=>(b,o)
theorem MX     (hb:b∈fp)(e:h.get? b=some o):(b,o)∈YD fp h:=List.mem_filterMap.mpr ⟨b,hb,by rw[e];rfl⟩
theorem DT_    (hp:p∈YD fp h):p.1∈fp/\h.get? p.1=some p.2:=by
 obtain⟨b,hb,e⟩:=List.mem_filterMap.mp hp
 cases q:h.get? b with
 |none=>rw[q]at e;cases e
 |some o=>
  rw[q]at e
  have e':(b,o)=p:=Option.some.inj e
  subst e'
  exact⟨hb,q⟩
theorem Inv.pinned      (I:Inv X pins σ H s)(hf:∀b∈fp,FpOk X pins H b)(ho:∀b∈fp,∃o,s.heap.get? b=some o/\∀v,o.data ≠ .cell v):Inv X (pins++YD fp s.heap) σ H s:=
 I.pins_of fun p hp=>(List.mem_append.mp hp).elim (fun z=>I.pin p (List.mem_append_right _ z)) fun z=>by
  obtain⟨hb,e⟩:=DT_ z
  obtain⟨f0,f1,f2,_⟩:=hf p.1 hb
  obtain⟨o,e',d⟩:=ho p.1 hb
  rw[e]at e';cases e'
  exact⟨e,f0,f1,f2,d⟩
theorem Inv.unpinned     (I:Inv X (pins++pl) σ H s):Inv X pins σ H s:=I.pins_of fun p hp=>I.pin p (List.mem_append_right _ (List.mem_append_left _ hp))
theorem Hl {iter:Expr}  {wi:TI}    (hp:PassesOwn (model X.prog X.w) X.A X.env X.xe)(hc:X.calm=true)(hi:PI X tg iter wi)(hg:PG X tg g)(hb:PSs X body tb)
  (hs:∀x,foldedSetIterable iter X.env x=pure x:=by intro _;rfl):PS X (.For tg iter body [] pos) (tFor wi g tb):=by
 intro pins s σ H D I h
 refine wpAny_For (thn (hi pins s σ H _ I h) fun v s1 h1=>thn h1 fun itv s2 h2=>?_) hs
 obtain⟨it,fp,tn,J,H2,e,I2,T,st2,f2,W,⟨m0,w0⟩,turn⟩:=h2
 subst e
 -- what stays true of the iterator's objects through the loop
 have stat:∀{H':Hp},(∀b∈fp,H' b=none)->∀b∈fp,FpOk X pins H' b:=fun hn b hb=>⟨hn b hb,(f2 b hb).2⟩
 refine codeAny_forLoop_any (fun n s'=>∃i σ' H',Inv X pins σ' H' s'/\tn i s'.heap/\(∀b∈fp,H' b=none)/\W i n σ' H') ?_ m0 ⟨0,σ,H2,I2,st2,fun b hb=>(f2 b hb).1,w0⟩
 rintro n s3 ⟨i,σ3,H3,I3,st3,fr3,w3⟩
 rcases turn i n σ3 H3 w3 with ⟨stop,qn⟩|⟨go,N,hN,step⟩
 ·refine wpAny_passesOwn hp (thn (T.done X rfl rfl rfl hc i pins s3 σ3 H3 X.xe I3 (stat fr3) st3 stop) fun r s4 ⟨hr,I4⟩=>?_)
  subst hr
  exact wpAny_execs_nil ⟨σ3,H3,I4,qn⟩
 ·refine wpAny_passesOwn hp (thn (T.item X rfl rfl rfl hc i pins s3 σ3 H3 X.xe I3 (stat fr3) st3 go) fun r s4 ⟨u,hr,h4⟩=>?_)
  subst hr
  refine wpAny_passesOwn hp (thn h4 fun _ s5 ⟨x,H5,I5,r5,y5,st5,fr5⟩=>?_)
  have I5':=I5.pinned (stat fr5) (T.obj _ _ st5)
  refine wpAny_passesOwn hp (thn (hg _ s5 σ3 H5 x u _ I5' r5 (step x H5 y5)) fun _ s6 ⟨σ6,H6,I6,q6⟩=>?_)
  refine wpAny_passesOwn hp (thn (hb _ s6 σ6 H6 _ I6 q6) fun f s7 q7=>?_)
  have again:∀{σ7:St} {H7:Hp},Inv X (pins++YD fp s5.heap) σ7 H7 s7->N σ7 H7->∃m,m<n/\∃i σ' H',Inv X pins σ' H' s7/\tn i s7.heap/\(∀b∈fp,H' b=none)/\W i m σ' H':=fun {σ7 H7} I7 n7=>by
   obtain⟨m',hm,w7⟩:=hN σ7 H7 n7
   refine⟨m',hm,i+1,σ7,H7,I7.unpinned,T.keep _ _ _ st5 fun b hb o e=>(I7.pin (b,o) (List.mem_append_right _ (List.mem_append_right _ (MX hb e)))).1,fun b hb=>?_,w7⟩
   obtain⟨o,e,d⟩:=T.obj _ _ st5 b hb
   exact (I7.pin (b,o) (List.mem_append_right _ (List.mem_append_right _ (MX hb e)))).2.1
  cases f with
  |next=>obtain⟨σ7,H7,I7,n7⟩:=q7;exact again I7 n7
  |cont=>obtain⟨σ7,H7,I7,n7⟩:=q7;exact again I7 n7
  |brk=>obtain⟨σ7,H7,I7,q7⟩:=q7;exact⟨σ7,H7,I7.unpinned,q7⟩
  |ret v=>obtain⟨x7,σ7,H7,I7,r7,q7⟩:=q7;exact⟨x7,σ7,H7,I7.unpinned,r7,q7⟩
end
theorem FL_ {K:PySem.W.Frag}{a:Addr}{xs:List V}{g:TG}{tb:TS}{D:Ends}{σ:St}{H:Hp}(Pv:Nat->St->Hp->Prop)(h0:Pv 0 σ H)(hl:∀i σ H,i<=xs.length->Pv i σ H->SqL K H a xs)
  (hs:∀i x σ H,xs[i]?=some x->Pv i σ H->g x σ H fun σ2 H2=>tb {D with nx:=Pv (i+1),ct:=Pv (i+1),bk:=D.nx} σ2 H2) (hd:∀σ H,Pv xs.length σ H->D.nx σ H):
  ∃W:Nat->Nat->St->Hp->Prop,(∃m,W 0 m σ H)/\∀i m σ H,W i m σ H ->
   ((Itl K a).stop i H/\D.nx σ H)\/((Itl K a).go i H/\∃N:St->Hp->Prop,(∀σ' H',N σ' H'->∃m',m'<m/\W (i+1) m' σ' H')/\∀x H',(Itl K a).yld i H x H'->g x σ H' fun σ2 H2=>tb {D with nx:=N,ct:=N,bk:=D.nx} σ2 H2):=by
 refine⟨fun i m σ H=>m=xs.length-i/\i<=xs.length/\Pv i σ H,⟨xs.length,by simp,Nat.zero_le _,h0⟩,?_⟩
 rintro i m σ H ⟨rfl,hi,p⟩
 have q:=hl i σ H hi p
 by_cases hlt:i<xs.length
 ·refine .inr ⟨⟨xs,xs[i],q,by simp[hlt]⟩,Pv (i+1),fun σ' H' p'=>⟨xs.length-(i+1),by lia,rfl,hlt,p'⟩,fun x H' y=>?_⟩
  obtain⟨e,y⟩:=y
  subst e
  exact hs i x σ _ (y xs q) p
 ·have e:i=xs.length:=by lia
  subst e
  exact .inl ⟨⟨xs,q,Nat.le_refl _⟩,hd σ H p⟩
theorem HX_ {K:PySem.W.Frag}{a:Addr}{xs:List V}{g:TG}{tb:TS}{D:Ends}{σ:St}{H:Hp}(Pv:Nat->St->Hp->Prop)(h0:Pv 0 σ H)(hl:∀i σ H,i<=xs.length->Pv i σ H->SqT K H a xs)
  (hs:∀i x σ H,xs[i]?=some x->Pv i σ H->g x σ H fun σ2 H2=>tb {D with nx:=Pv (i+1),ct:=Pv (i+1),bk:=D.nx} σ2 H2) (hd:∀σ H,Pv xs.length σ H->D.nx σ H):
  ∃W:Nat->Nat->St->Hp->Prop,(∃m,W 0 m σ H)/\∀i m σ H,W i m σ H ->
   ((Itt K a).stop i H/\D.nx σ H)\/((Itt K a).go i H/\∃N:St->Hp->Prop,(∀σ' H',N σ' H'->∃m',m'<m/\W (i+1) m' σ' H')/\∀x H',(Itt K a).yld i H x H'->g x σ H' fun σ2 H2=>tb {D with nx:=N,ct:=N,bk:=D.nx} σ2 H2):=by
 refine⟨fun i m σ H=>m=xs.length-i/\i<=xs.length/\Pv i σ H,⟨xs.length,by simp,Nat.zero_le _,h0⟩,?_⟩
 rintro i m σ H ⟨rfl,hi,p⟩
 have q:=hl i σ H hi p
 by_cases hlt:i<xs.length
 ·refine .inr ⟨⟨xs,xs[i],q,by simp[hlt]⟩,Pv (i+1),fun σ' H' p'=>⟨xs.length-(i+1),by lia,rfl,hlt,p'⟩,fun x H' y=>?_⟩
  obtain⟨e,y⟩:=y
  subst e
  exact hs i x σ _ (y xs q) p
 ·have e:i=xs.length:=by lia
  subst e
  exact .inl ⟨⟨xs,q,Nat.le_refl _⟩,hd σ H p⟩
theorem DU_ {lo:Int}{n:Nat}{g:TG}{tb:TS}{D:Ends}{σ:St}{H:Hp}(Pv:Nat->St->Hp->Prop)(h0:Pv 0 σ H)
  (hs:∀i σ H,i<n->Pv i σ H->g (.int (lo+i)) σ H fun σ2 H2=>tb {D with nx:=Pv (i+1),ct:=Pv (i+1),bk:=D.nx} σ2 H2) (hd:∀σ H,Pv n σ H->D.nx σ H):
  ∃W:Nat->Nat->St->Hp->Prop,(∃m,W 0 m σ H)/\∀i m σ H,W i m σ H ->
   ((Itr lo n).stop i H/\D.nx σ H)\/((Itr lo n).go i H/\∃N:St->Hp->Prop,(∀σ' H',N σ' H'->∃m',m'<m/\W (i+1) m' σ' H')/\∀x H',(Itr lo n).yld i H x H'->g x σ H' fun σ2 H2=>tb {D with nx:=N,ct:=N,bk:=D.nx} σ2 H2):=by
 refine⟨fun i m σ H=>m=n-i/\i<=n/\Pv i σ H,⟨n,by simp,Nat.zero_le _,h0⟩,?_⟩
 rintro i m σ H ⟨rfl,hi,p⟩
 by_cases hlt:i<n
 ·refine .inr ⟨hlt,Pv (i+1),fun σ' H' p'=>⟨n-(i+1),by lia,rfl,hlt,p'⟩,fun x H' y=>?_⟩
  obtain⟨e,y⟩:=y
  subst e y
  exact hs i σ _ hlt p
 ·have e:i=n:=by lia
  subst e
  exact .inl ⟨Nat.le_refl _,hd σ H p⟩
end L2
namespace L2
open PySem PySem.Spec PyProof.Rows
noncomputable abbrev R2:=V->V->Hp->VK->Prop
noncomputable def OpR (X:Cx)(f:Value->Value->Sem Value)(r:R2):Prop:=
 ∀(pins:List (Addr×Obj)) (s:Shared) (σ:St) (H:Hp) (x y:V) (v u:Value) (Q:VK),Inv X pins σ H s->RelV x v->RelV y u->r x y H Q ->
  wpAny (model X.prog X.w) X.A (f v u) (EP X pins σ Q) X.xe s
noncomputable def UnR (X:Cx)(f:Value->Sem Value)(r:V->Hp->VK->Prop):Prop:=
 ∀(pins:List (Addr×Obj)) (s:Shared) (σ:St) (H:Hp) (x:V) (v:Value) (Q:VK),Inv X pins σ H s->RelV x v->r x H Q ->
  wpAny (model X.prog X.w) X.A (f v) (EP X pins σ Q) X.xe s
noncomputable def NR (X:Cx)(f:Value)(r:List V->Hp->VK->Prop):Prop:=
 ∀(pins:List (Addr×Obj)) (s:Shared) (σ:St) (H:Hp) (xs:List V) (us:List Value) (Q:VK),Inv X pins σ H s->Vals xs us->r xs H Q ->
  wpAny (model X.prog X.w) X.A (call f us) (EP X pins σ Q) X.xe s
noncomputable def tOp (r:R2)(ta tb:TE):TE:=fun σ H Q=>ta σ H fun x H1=>tb σ H1 fun y H2=>r x y H2 Q
noncomputable def tUn (r:V->Hp->VK->Prop)(ta:TE):TE:=fun σ H Q=>ta σ H fun x H1=>r x H1 Q
noncomputable def rI (C:Int->Int->Prop)(g:Int->Int->V):R2:=fun x y H Q=>∃i j,x=.int i/\y=.int j/\C i j/\Q (g i j) H
noncomputable def rI0 (g:Int->Int->V):R2:=fun x y H Q=>∃i j,x=.int i/\y=.int j/\Q (g i j) H
noncomputable def rU (g:Int->V):V->Hp->VK->Prop:=fun x H Q=>∃i,x=.int i/\Q (g i) H
section
variable {X:Cx} {a b c:Expr} {ta tb tc:TE} {pos:Pos}
theorem binT (ha:PE X a ta)(hb:PE X b tb){pins:List (Addr×Obj)}{s:Shared}{σ:St}{H:Hp}{R:V->V->Hp->Prop}(I:Inv X pins σ H s)
  (h:ta σ H fun x H1=>tb σ H1 fun y H2=>R x y H2) {Q:Value->Shared->Prop} {f:Value->Value->Sem Value}
  (hf:∀v u s2 x y H2,Inv X pins σ H2 s2->RelV x v->RelV y u->R x y H2->wpAny (model X.prog X.w) X.A (f v u) Q X.xe s2):
  wpAny (model X.prog X.w) X.A (eval a X.env) (fun v s₁=>wpAny (model X.prog X.w) X.A (eval b X.env) (fun u s₂=>wpAny (model X.prog X.w) X.A (f v u) Q X.xe s₂) X.xe s₁) X.xe s:=by
 refine thn (ha pins s σ H _ I h) fun v s1 ⟨x,H1,I1,r1,q1⟩=>?_
 refine thn (hb pins s1 σ H1 _ I1 q1) fun u s2 ⟨y,H2,I2,r2,q2⟩=>?_
 exact hf v u s2 x y H2 I2 r1 r2 q2
theorem Bu   (ho:OpR X (binaryOp op) r)(ha:PE X a ta)(hb:PE X b tb):PE X (.BinOp a op b pos) (tOp r ta tb):=by
 intro pins s σ H Q I h
 exact wpAny_BinOp (binT ha hb I h fun v u s2 x y H2 I2 rx ry q=>ho pins s2 σ H2 x y v u Q I2 rx ry q)
theorem AI_   (ho:UnR X (unaryOp op) r)(ha:PE X a ta):PE X (.UnaryOp op a pos) (tUn r ta):=by
 intro pins s σ H Q I h
 exact UnaryOp_ (thn (ha pins s σ H _ I h) fun v s1 ⟨x,H1,I1,r1,q1⟩=>ho pins s1 σ H1 x v Q I1 r1 q1)
theorem opI {f:Value->Value->Sem Value}{C:Int->Int->Prop}{g:Int->Int->Int}
  (rule:∀(i j:Int) (t u:Tok) (s:Shared) (Q:Value->Shared->Prop) (E:Value->Shared->Prop),C i j->Q (.int (g i j) s.toks) {s with toks:=s.toks+1}->wpAny (model X.prog X.w) X.A (f (.int i t) (.int j u)) Q E s):
  OpR X f (rI C fun i j=>.int (g i j)):=by
 intro pins s σ H x y v u Q I rx ry h
 obtain⟨i,j,rfl,rfl,hc,q⟩:=h
 obtain⟨t,rfl⟩:=rx
 obtain⟨t',rfl⟩:=ry
 exact rule i j t t' s _ _ hc ⟨.int (g i j),H,I.tok _,⟨_,rfl⟩,q⟩
theorem opI0 {f:Value->Value->Sem Value}{g:Int->Int->Int}
  (rule:∀(i j:Int) (t u:Tok) (s:Shared) (Q:Value->Shared->Prop) (E:Value->Shared->Prop),Q (.int (g i j) s.toks) {s with toks:=s.toks+1}->wpAny (model X.prog X.w) X.A (f (.int i t) (.int j u)) Q E s):
  OpR X f (rI0 fun i j=>.int (g i j)):=by
 intro pins s σ H x y v u Q I rx ry h
 obtain⟨i,j,rfl,rfl,q⟩:=h
 obtain⟨t,rfl⟩:=rx
 obtain⟨t',rfl⟩:=ry
 exact rule i j t t' s _ _ ⟨.int (g i j),H,I.tok _,⟨_,rfl⟩,q⟩
theorem opB0 {f:Value->Value->Sem Value}{g:Int->Int->Bool}
  (rule:∀(i j:Int) (t u:Tok) (s:Shared) (Q:Value->Shared->Prop) (E:Value->Shared->Prop),Q (.bool (g i j)) s->wpAny (model X.prog X.w) X.A (f (.int i t) (.int j u)) Q E s):
  OpR X f (rI0 fun i j=>.bl (g i j)):=by
 intro pins s σ H x y v u Q I rx ry h
 obtain⟨i,j,rfl,rfl,q⟩:=h
 obtain⟨t,rfl⟩:=rx
 obtain⟨t',rfl⟩:=ry
 exact rule i j t t' s _ _ ⟨.bl (g i j),H,I,rfl,q⟩
noncomputable def CDiv (i j:Int):Prop:=0<j/\j<1073741824
noncomputable def CPow (i j:Int):Prop:=0<=j/\j<=1000000/\i.natAbs<2 ^ 64
noncomputable def CMul (i j:Int):Prop:=(-(2 ^ 64)<i/\i<2 ^ 64)\/(-(2 ^ 64)<j/\j<2 ^ 64)
theorem CMul.ok  (h:CMul i j):IntMulOk i j:=by
 rcases h with ⟨h1,h2⟩|⟨h1,h2⟩
 ·exact .of_left (intBits_le_64 h1 h2)
 ·exact .of_right (intBits_le_64 h1 h2)
theorem FE:OpR X (binaryOp .Add) (rI0 fun i j=>.int (i+j)):=opI0 fun _ _ _ _ _ _ _ q=>add_int q
theorem DV_:OpR X (binaryOp .Sub) (rI0 fun i j=>.int (i-j)):=opI0 fun _ _ _ _ _ _ _ q=>sub_int q
theorem YE:OpR X (binaryOp .Mult) (rI CMul fun i j=>.int (i*j)):=opI fun _ _ _ _ _ _ _ hc q=>mul_int q hc.ok
theorem PV:OpR X (binaryOp .FloorDiv) (rI CDiv fun i j=>.int (i / j)):=opI fun i j _ _ _ _ _ hc q=>by
 have h1:(0:Int)<j:=hc.1
 have h2:j<1073741824:=hc.2
 exact floordiv_int s!"" (by rw[Int.fdiv_eq_ediv_of_nonneg i s!""];exact q) (.inl (PyProof.noPylong_small s!""))
theorem Fm:OpR X (binaryOp .Mod) (rI (fun _ j=>0<j) fun i j=>.int (i%j)):=opI fun i j _ _ _ _ _ hc q=>by
 have h1:(0:Int)<j:=hc
 exact mod_int' s!"" (by rw[Int.fmod_eq_emod_of_nonneg i s!""];exact q)
theorem GO_:OpR X (binaryOp .Pow) (rI CPow fun i j=>.int (i ^ j.toNat)):=opI fun _ _ _ _ _ _ _ hc q=>pow_int_small hc.1 hc.2.1 hc.2.2 q
theorem unI {f:Value->Sem Value}{g:Int->Int}
  (rule:∀(i:Int) (t:Tok) (s:Shared) (Q:Value->Shared->Prop) (E:Value->Shared->Prop),Q (.int (g i) s.toks) {s with toks:=s.toks+1}->wpAny (model X.prog X.w) X.A (f (.int i t)) Q E s):
  UnR X f (rU fun i=>.int (g i)):=by
 intro pins s σ H x v Q I rx h
 obtain⟨i,rfl,q⟩:=h
 obtain⟨t,rfl⟩:=rx
 exact rule i t s _ _ ⟨.int (g i),H,I.tok _,⟨_,rfl⟩,q⟩
theorem SK:UnR X (unaryOp .USub) (rU fun i=>.int (-i)):=unI fun _ _ _ _ _ q=>neg_int q
end
noncomputable def scal:V->V->Bool
 |.non,.non=>true | .non,.int _=>true | .int _,.non=>true | .non,.bl _=>true | .bl _,.non=>true | .non,.str _=>true | .str _,.non=>true
 |.int _,.int _=>true | .bl _,.bl _=>true | .str _,.str _=>true | .byt _,.byt _=>true
 |.int _,.str _=>true | .str _,.int _=>true | .bl _,.str _=>true | .str _,.bl _=>true
 |_,_=>false
noncomputable def rEq:R2:=fun x y H Q=>scal x y=true/\Q (.bl (decide (x=y))) H
noncomputable def rNe:R2:=fun x y H Q=>scal x y=true/\Q (.bl (!decide (x=y))) H
theorem DW_  : decide (V.int i=V.int j)=(i==j):=by
 rw[Bool.eq_iff_iff]
 simp
theorem GP_  : decide (V.bl i=V.bl j)=(i==j):=by
 rw[Bool.eq_iff_iff]
 simp
theorem DX_  : decide (V.str i=V.str j)=(i==j):=by
 rw[Bool.eq_iff_iff]
 simp
theorem DY_  : decide (V.byt i=V.byt j)=(i.toList==j.toList):=by
 rw[Bool.eq_iff_iff]
 cases i
 cases j
 simp
section
variable {X:Cx} {a b c:Expr} {ta tb tc:TE} {pos:Pos}
theorem CF       (I:Inv X pins σ H s)(q:Q (.bl k) H)(e:k=k'):EP X pins σ Q (.bool k') s:=by
 subst e
 exact⟨.bl k,H,I,rfl,q⟩
theorem NS:OpR X (compareOp .Eq) rEq:=by
 intro pins s σ H x y v u Q I rx ry h
 obtain⟨hs,q⟩:=h
 cases x with
 |non=>
  cases rx
  cases y with
  |non=>cases ry;exact PySem.EqNone.eq_none_none (CF I q (by simp))
  |bl j=>cases ry;exact PySem.EqNone.eq_none_bool (CF I q (by simp))
  |int j=>obtain⟨t',rfl⟩:=ry;exact PySem.EqNone.eq_none_int (CF I q (by simp))
  |str j=>obtain⟨t',rfl⟩:=ry;exact PySem.EqNone.eq_none_str (CF I q (by simp))
  |_=>exact absurd (show false=true from hs) Bool.false_ne_true
 |bl i=>
  cases rx
  cases y with
  |non=>cases ry;exact PySem.EqNone.eq_bool_none (CF I q (by simp))
  |bl j=>cases ry;exact eq_bool (CF I q GP_)
  |str j=>obtain⟨t',rfl⟩:=ry;exact PySem.EqMixed.eq_bool_str (CF I q (by simp))
  |_=>exact absurd (show false=true from hs) Bool.false_ne_true
 |int i=>
  obtain⟨t,rfl⟩:=rx
  cases y with
  |non=>cases ry;exact PySem.EqNone.eq_int_none (CF I q (by simp))
  |int j=>obtain⟨t',rfl⟩:=ry;exact eq_int (CF I q DW_)
  |str j=>obtain⟨t',rfl⟩:=ry;exact PySem.EqMixed.eq_int_str (CF I q (by simp))
  |_=>exact absurd (show false=true from hs) Bool.false_ne_true
 |str i=>
  obtain⟨t,rfl⟩:=rx
  cases y with
  |non=>cases ry;exact PySem.EqNone.eq_str_none (CF I q (by simp))
  |bl j=>cases ry;exact PySem.EqMixed.eq_str_bool (CF I q (by simp))
  |int j=>obtain⟨t',rfl⟩:=ry;exact PySem.EqMixed.eq_str_int (CF I q (by simp))
  |str j=>obtain⟨t',rfl⟩:=ry;exact eq_str (CF I q DX_)
  |_=>exact absurd (show false=true from hs) Bool.false_ne_true
 |byt i=>
  obtain⟨t,rfl⟩:=rx
  cases y with
  |byt j=>obtain⟨t',rfl⟩:=ry;exact PySem.W.eq_bytes (CF I q DY_)
  |_=>exact absurd (show false=true from hs) Bool.false_ne_true
 |_=>cases y<;>exact absurd (show false=true from hs) Bool.false_ne_true
theorem IZ:OpR X (compareOp .NotEq) rNe:=by
 intro pins s σ H x y v u Q I rx ry h
 obtain⟨hs,q⟩:=h
 cases x with
 |non=>
  cases rx
  cases y with
  |non=>cases ry;exact PySem.EqNone.ne_none_none (CF I q (by simp))
  |bl j=>cases ry;exact PySem.EqNone.ne_none_bool (CF I q (by simp))
  |int j=>obtain⟨t',rfl⟩:=ry;exact PySem.EqNone.ne_none_int (CF I q (by simp))
  |str j=>obtain⟨t',rfl⟩:=ry;exact PySem.EqNone.ne_none_str (CF I q (by simp))
  |_=>exact absurd (show false=true from hs) Bool.false_ne_true
 |bl i=>
  cases rx
  cases y with
  |non=>cases ry;exact PySem.EqNone.ne_bool_none (CF I q (by simp))
  |bl j=>cases ry;exact ne_bool (CF I q (congrArg not GP_))
  |str j=>obtain⟨t',rfl⟩:=ry;exact PySem.EqMixed.ne_bool_str (CF I q (by simp))
  |_=>exact absurd (show false=true from hs) Bool.false_ne_true
 |int i=>
  obtain⟨t,rfl⟩:=rx
  cases y with
  |non=>cases ry;exact PySem.EqNone.ne_int_none (CF I q (by simp))
  |int j=>obtain⟨t',rfl⟩:=ry;exact ne_int (CF I q (congrArg not DW_))
  |str j=>obtain⟨t',rfl⟩:=ry;exact PySem.EqMixed.ne_int_str (CF I q (by simp))
  |_=>exact absurd (show false=true from hs) Bool.false_ne_true
 |str i=>
  obtain⟨t,rfl⟩:=rx
  cases y with
  |non=>cases ry;exact PySem.EqNone.ne_str_none (CF I q (by simp))
  |bl j=>cases ry;exact PySem.EqMixed.ne_str_bool (CF I q (by simp))
  |int j=>obtain⟨t',rfl⟩:=ry;exact PySem.EqMixed.ne_str_int (CF I q (by simp))
  |str j=>obtain⟨t',rfl⟩:=ry;exact ne_str (CF I q (congrArg not DX_))
  |_=>exact absurd (show false=true from hs) Bool.false_ne_true
 |byt i=>
  obtain⟨t,rfl⟩:=rx
  cases y with
  |byt j=>obtain⟨t',rfl⟩:=ry;exact PySem.W.ne_bytes (CF I q (congrArg not DY_))
  |_=>exact absurd (show false=true from hs) Bool.false_ne_true
 |_=>cases y<;>exact absurd (show false=true from hs) Bool.false_ne_true
theorem HY_:OpR X (compareOp .Lt) (rI0 fun i j=>.bl (decide (i<j))):=opB0 fun _ _ _ _ _ _ _ q=>lt_int q
theorem HZ_:OpR X (compareOp .LtE) (rI0 fun i j=>.bl (decide (i<=j))):=opB0 fun _ _ _ _ _ _ _ q=>le_int q
theorem Ia_:OpR X (compareOp .Gt) (rI0 fun i j=>.bl (decide (j<i))):=opB0 fun _ _ _ _ _ _ _ q=>gt_int q
theorem V4:OpR X (compareOp .Is) (fun x y H Q=>y=.non/\Q (.bl (decide (x=.non))) H):=by
 intro pins s σ H x y v u Q I rx ry h
 obtain⟨rfl,q⟩:=h
 cases ry
 refine is_none_gen (CF I q ?_)
 cases x<;>first
  | (cases rx;rfl)
  | (obtain⟨t,rfl⟩:=rx;rfl)
theorem Ib_:OpR X (compareOp .IsNot) (fun x y H Q=>y=.non/\Q (.bl (!decide (x=.non))) H):=by
 intro pins s σ H x y v u Q I rx ry h
 obtain⟨rfl,q⟩:=h
 cases ry
 refine isnot_none_gen (CF I q ?_)
 cases x<;>first
  | (cases rx;rfl)
  | (obtain⟨t,rfl⟩:=rx;rfl)
theorem Bh (b:Expr)  (h:op ≠ .In:=by decide)(h2:op ≠ .NotIn:=by decide):behindInMarks op b=false:=by
 have e1:(op==CmpOp.In)=false:=by cases op<;>first|rfl|exact absurd rfl h
 have e2:(op==CmpOp.NotIn)=false:=by cases op<;>first|rfl|exact absurd rfl h2
 cases b<;>simp[behindInMarks,e1,e2]
theorem DZ_   (ho:OpR X (compareOp op) r)(ha:PE X a ta)(hb:PE X b tb)(hm:behindInMarks op b=false):PE X (.Compare a [op] [b] pos) (tOp r ta tb):=by
 intro pins s σ H Q I h
 exact wpAny_Compare1 (binT ha hb I h fun v u s2 x y H2 I2 rx ry q=>ho pins s2 σ H2 x y v u Q I2 rx ry q) hm
noncomputable def FM_ (t:TE):TT:=fun σ H Q=>t σ H fun x H'=>∃k,x=.bl k/\Q k H'
theorem Az   (ho:OpR X (compareOp op) r)(ha:PE X a ta)(hb:PE X b tb)(hm:behindInMarks op b=false):PT X (.Compare a [op] [b] pos) (FM_ (tOp r ta tb)):=by
 intro pins s σ H Q I h
 refine wpAny_isTrue_Compare1 (thn (ha pins s σ H _ I h) fun v s1 ⟨x,H1,I1,r1,q1⟩=>thn (hb pins s1 σ H1 _ I1 q1) fun u s2 ⟨y,H2,I2,r2,q2⟩ =>
  thn (ho pins s2 σ H2 x y v u _ I2 r1 r2 q2) fun c s3 ⟨z,H3,I3,r3,k,e,q3⟩=>?_) hm
 subst e
 cases r3
 exact wpAny_truthy_bool ⟨H3,I3,q3⟩
noncomputable def GQ_ (r r':R2)(ta tb tc:TE):TE:=fun σ H Q=>ta σ H fun x H1=>tb σ H1 fun y H2=>r x y H2 fun z H3=>∃k,z=.bl k /\
 (if k=true then tc σ H3 fun w' H4=>r' y w' H4 Q else Q (.bl false) H3)
theorem Cg_   (ho:OpR X (compareOp op) r)(ho':OpR X (compareOp op') r')(ha:PE X a ta)(hb:PE X b tb)(hc:PE X c tc)
  (hm:lastMarks [op,op'] [b,c]=false:=by with_unfolding_all rfl):PE X (.Compare a [op,op'] [b,c] pos) (GQ_ r r' ta tb tc):=by
 intro pins s σ H Q I h
 refine Compare_chain (thn (ha pins s σ H _ I h) fun v s1 ⟨x,H1,I1,r1,q1⟩=>chain_link (thn (hb pins s1 σ H1 _ I1 q1) fun u s2 ⟨y,H2,I2,r2,q2⟩ =>
  thn (ho pins s2 σ H2 x y v u _ I2 r1 r2 q2) fun d s3 ⟨z,H3,I3,r3,k,e,q3⟩=>?_)) hm
 subst e
 cases r3
 refine wpAny_truthy_bool ?_
 cases k with
 |false=>exact ite_ff ⟨.bl false,H3,I3,rfl,q3⟩
 |true=>exact ite_tt (chain_last (thn (hc pins s3 σ H3 _ I3 q3) fun w' s4 ⟨z',H4,I4,r4,q4⟩=>ho' pins s4 σ H4 y z' u w' Q I4 r2 r4 q4))
theorem Ea_:(sizeLine:Nat)<2 ^ 63:=by rw[sizeLine_eq];decide
theorem Ij:OpR X (binaryOp .Add) (fun x y H Q=>∃i j,x=.str i/\y=.str j/\i.length+j.length<=sizeLine/\Q (.str (i++j)) H):=by
 intro pins s σ H x y v u Q I rx ry h
 obtain⟨i,j,rfl,rfl,hz,q⟩:=h
 obtain⟨t,rfl⟩:=rx
 obtain⟨t',rfl⟩:=ry
 exact add_str (fun t' tk=>⟨.str (i++j),H,I.tok _,⟨_,rfl⟩,q⟩) hz
theorem vals1   (r:Vals [x] us):∃u,us=[u]/\RelV x u:=by
 cases r with
 |cons r1 r2=>cases r2;exact⟨_,rfl,r1⟩
theorem vals2   (r:Vals [x,y] us):∃u w',us=[u,w']/\RelV x u/\RelV y w':=by
 cases r with
 |cons r1 r2=>
  cases r2 with
  |cons r3 r4=>cases r4;exact⟨_,_,rfl,r1,r3⟩
theorem Eb_ (hc:X.calm=true):NR X (.builtin "max") (fun xs H Q=>∃i j,xs=[.int i,.int j]/\Q (.int (if j > i then j else i)) H):=by
 intro pins s σ H xs us Q I r h
 obtain⟨i,j,rfl,q⟩:=h
 obtain⟨u,w',rfl,⟨t,rfl⟩,⟨t',rfl⟩⟩:=vals2 r
 refine max_two_ints (I.ok.hd hc) fun h' tk k=>⟨_,H,I.kept k,?_,q⟩
 by_cases hj:j > i
 ·rw[if_pos hj,if_pos hj];exact⟨_,rfl⟩
 ·rw[if_neg hj,if_neg hj];exact⟨_,rfl⟩
end
end L2
namespace L2
open PySem PySem.Spec PyProof.Rows
structure ObjM (h:Heap)(x dx C:Addr)(mA:Str->Option Value):Prop where
 obj:h.get? x=some (PySem.W.instObj C dx)
 ns:h.Ns1 dx mA
 ne:dx≠x
theorem Ec_ {h:Heap}{dx:Addr}{mA:Str->Option Value}(n:h.Ns1 dx mA):∃od,h.get? dx=some od/\∀name,PySem.W.lookIn name od=some (mA name):=by
 obtain⟨o,es,ep,ho,hd,hk,_,hm⟩:=n
 refine⟨o,ho,fun name=>?_⟩
 have e:=hm name
 unfold nsFind findBy at e
 rw[<-Array.find?_toList]at e
 unfold PySem.W.lookIn
 rw[hd]
 dsimp only
 split
 ·rename_i y q
  rw[q]at e
  exact congrArg some e
 ·rename_i q
  rw[q]at e
  have a:es.toList.any (·.refKey)=false:=by
   rw[List.any_eq_false]
   intro y hy
   obtain⟨z,t,hkey⟩:=hk y (Array.mem_toList_iff.mp hy)
   simp[DictEntry.refKey,hkey]
  have a':¬ es.toList.any (·.refKey)=true:=by rw[a];exact Bool.false_ne_true
  rw[if_neg a']
  exact congrArg some e
theorem ObjM.look    (I:ObjM h x dx C mA):∃od,PySem.W.InstAt h x (PySem.W.instObj C dx) C (some od)/\∀name,PySem.W.lookIn name od=some (mA name):=
 let ⟨od,ho,hl⟩:=Ec_ I.ns
 ⟨od,⟨I.obj,rfl,rfl,ho⟩,hl⟩
section
variable {prog:Program} {w:World} {A:Around} {E:Value->Shared->Prop} {s:Shared} {K:PySem.W.Frag} {x dx C f:Addr} {mA:Str->Option Value} {name:Str} {v:Value}
theorem Ic_   (X:K.In s.heap)(I:ObjM s.heap x dx C mA)(hg:PySem.W.plainGet K C name=true)(hh:PySem.W.hasDictIn K C=true)
  (ha:PySem.W.findIn K (.ref C) name=some none) (hv:mA name=some v) (hv':PySem.W.handedIn v=true) (h:Q v {s with toks:=s.toks+1}):
  wpAny (model prog w) A (getAttr (.ref x) name expr) Q E s:=by
 obtain⟨od,J,hl⟩:=I.look
 exact PySem.W.get_value X J (PySem.W.plainGet_of hg).1 (PySem.W.findObj_own hh ha rfl (by rw[hl,hv])) hv' h
theorem FN_   (X:K.In s.heap)(I:ObjM s.heap x dx C mA)(hg:PySem.W.plainGet K C name=true)
  (hf:PySem.W.findIn K (.ref C) name=some (some (.ref f))) (ht:PySem.W.isFn K (.ref f)=true) (hv:mA name=none) (h:Q (.ref f,[.ref x]) s):
  wpAny (model prog w) A (getMethod (.ref x) name pl) Q E s:=by
 obtain⟨od,J,hl⟩:=I.look
 exact PySem.W.method_fn X J (PySem.W.plainGet_of hg).1 (PySem.W.plainGet_of hg).2 hf (beq_iff_eq.mp ht) (by show (PySem.W.lookIn name od).map (·.isSome)=some false;rw[hl,hv];rfl) h
theorem Id_   (X:K.In s.heap)(I:ObjM s.heap x dx C mA)
  (hs:PySem.W.findIn K (.ref C) "__setattr__"=some (some (.builtin "object.__setattr__"))) (hp:PySem.W.plainOver K C=true) (ht:PySem.W.takerIn K C name=some none) (hh:PySem.W.hasDictIn K C=true)
  (hw:PySem.Within mA ns) (hsz:ns.length<=sizeLine)
  (h:∀h',ObjM h' x dx C (fun y=>if y=name then some v else mA y)->Heap.SameBut dx s.heap h'->Q () {s with heap:=h',toks:=s.toks+2}):
  wpAny (model prog w) A (setAttr (.ref x) name v) Q E s:=by
 obtain⟨od,J,hl⟩:=I.look
 refine PySem.W.set_plain X J hs (PySem.W.osa_open (s:={s with toks:=s.toks+1}) (r:=none) X J hp ht fun b=>?_)
 obtain⟨cd,hc,hd'⟩:=PySem.W.any_some hh
 have hx:s.heap.get? x=some ⟨.ref C,some dx,.plain,#[]⟩:=I.obj
 refine wpAny_bind (wpAny_pure (wpAny_bind (wpAny_bind (wpAny_loadPart hx (wpAny_bind (PySem.W.Looks.here (s:={s with toks:=s.toks+1}) (PySem.W.looks_clsIn X hc) ?_))))))
 rw[hd']
 refine wpAny_pure (a:=some dx) (wpAny_bind (wpAny_pure (wpAny_bind ?_)))
 refine wpAny_nsSet1 (s:={s with toks:=s.toks+1}) I.ns fun h' hn2 hs2=>?_
 obtain⟨oD,esD,epD,hoD,hdD,hcD⟩:=hn2.count (PySem.Within.cons name v hw)
 refine wpAny_bind (wpAny_lookBehind hoD (by rw[hdD];exact pastItsLine_dict (Nat.le_trans hcD (by rw[List.length_cons];lia))) ?_)
 exact wpAny_pure (h _ ⟨(hs2.2 _ (Ne.symm I.ne)).trans I.obj,hn2,I.ne⟩ hs2)
theorem FO_   {kw:List (Str×Value)}(X:K.In s.heap)(hm:PySem.W.makesIn K C=true)
  (hi:PySem.W.findIn K (.ref C) "__init__"=some (some (.ref f))) (hf:PySem.W.typeIn K (.ref f)=some (.type "function"))
  (h:codeAny (model prog w) (A.under (.builtin "type.__call__" ⟨.ref C::vs,kw⟩)) (.call (.ref f) ⟨.ref (s.heap.objs.size+1)::vs,kw⟩) (PySem.W.InitBack (s.heap.objs.size+1) R)
   {s with heap:=(s.heap.push PySem.W.emptyDict).push (PySem.W.instObj C s.heap.objs.size)}):
  codeAny (model prog w) A (.call (.ref C) ⟨vs,kw⟩) R s:=by
 obtain⟨hh,g,d,t,os⟩:=s
 exact PySem.W.make_core (PySem.W.makes_of X hm) (PySem.W.looks_findIn X hi) (fun self=>PySem.W.bind_fn X self hf) (.inl rfl) h
end
noncomputable def putF (f:Str)(v:V):List (Str×V)->List (Str×V)
 |[]=>[(f,v)]
 | (g,x)::r=>if g=f then (g,v)::r else (g,x)::putF f v r
theorem FP (f g:Str)(v:V):∀fs:List (Str×V),(putF f v fs).lookup g=if g=f then some v else fs.lookup g
 |[]=>by
  show List.lookup g [(f,v)]=_
  by_cases h:g=f
  ·have hb:(g==f)=true:=beq_iff_eq.mpr h
   simp only[List.lookup,hb,if_pos h]
  ·have hb:(g==f)=false:=beq_eq_false_iff_ne.mpr h
   simp only[List.lookup,hb,if_neg h]
 | (k,x)::r=>by
  have ih:=FP f g v r
  rw[show putF f v ((k,x)::r)=(if k=f then (k,v)::r else (k,x)::putF f v r) from rfl]
  by_cases hk:k=f
  ·rw[if_pos hk]
   by_cases h:g=k
   ·have hb:(g==k)=true:=beq_iff_eq.mpr h
    simp only[List.lookup,hb,if_pos (h.trans hk)]
   ·have hb:(g==k)=false:=beq_eq_false_iff_ne.mpr h
    simp only[List.lookup,hb,if_neg (fun e:g=f=>h (e.trans hk.symm))]
  ·rw[if_neg hk]
   by_cases h:g=k
   ·have hb:(g==k)=true:=beq_iff_eq.mpr h
    simp only[List.lookup,hb,if_neg (fun e:g=f=>hk (h.symm.trans e))]
   ·have hb:(g==k)=false:=beq_eq_false_iff_ne.mpr h
    simp only[List.lookup,hb]
    exact ih
theorem SM (f:Str)(v:V):∀fs:List (Str×V),f∈(putF f v fs).map (·.1)/\∀g,g∈fs.map (·.1)->g∈(putF f v fs).map (·.1)
 |[]=>⟨by simp[putF],fun g h=>by simp at h⟩
 | (k,x)::r=>by
  obtain⟨i1,i2⟩:=SM f v r
  rw[show putF f v ((k,x)::r)=(if k=f then (k,v)::r else (k,x)::putF f v r) from rfl]
  by_cases hk:k=f
  ·rw[if_pos hk]
   subst hk
   exact⟨by simp,fun g h=>by simpa using h⟩
  ·rw[if_neg hk]
   refine⟨?_,fun g h=>?_⟩
   ·rw[List.map_cons]
    exact List.mem_cons_of_mem _ i1
   ·rw[List.map_cons]at h ⊢
    rcases List.mem_cons.mp h with e|e
    ·exact List.mem_cons.mpr (.inl e)
    ·exact List.mem_cons_of_mem _ (i2 g e)
theorem SN (f:Str)(v:V):∀fs:List (Str×V),(putF f v fs).length<=fs.length+1
 |[]=>by simp[putF]
 | (k,x)::r=>by
  have ih:=SN f v r
  rw[show putF f v ((k,x)::r)=(if k=f then (k,v)::r else (k,x)::putF f v r) from rfl]
  by_cases hk:k=f
  ·rw[if_pos hk,List.length_cons,List.length_cons];lia
  ·rw[if_neg hk,List.length_cons,List.length_cons];lia
theorem RelO.some_of   (r:RelO (some v) o):∃u,o=some u/\RelV v u:=by
 cases o with
 |none=>exact (show False from r).elim
 |some u=>exact⟨u,rfl,r⟩
theorem RelO.none_of  (r:RelO none o):o=none:=by
 cases o with
 |none=>rfl
 |some u=>exact (show False from r).elim
theorem Ed_   (r:RelV v u):PySem.W.handedIn u=true:=by
 cases v with
 |non=>cases (show u=Value.none from r);rfl
 |bl b=>cases (show u=Value.bool b from r);rfl
 |int i=>obtain⟨t,e⟩:=(show ∃t,u=Value.int i t from r);cases e;rfl
 |str x=>obtain⟨t,e⟩:=(show ∃t,u=Value.str x t from r);cases e;rfl
 |byt b=>obtain⟨t,e⟩:=(show ∃t,u=Value.bytes b t from r);cases e;rfl
 |flt b=>obtain⟨t,e⟩:=(show ∃t,u=Value.float b t from r);cases e;rfl
 |ref a=>cases (show u=Value.ref a from r);rfl
 |ty n=>cases (show u=Value.type n from r);rfl
section
variable {P:Program} {w:World} {H H':Hp} {h h':Heap} {a C dx:Addr} {fs fs':List (Str×V)}
theorem Wr (hok:HOk P w H h)(e:H a=some (.ins C dx fs)):∃mA,ObjM h a dx C mA/\(∀f,RelO (fs.lookup f) (mA f))/\PySem.Within mA (fs.map (·.1))/\fs.length<=1000/\H dx=some (.own a):=by
 obtain⟨d,z,ne,ob,mA,n,r,q⟩:=(show C5 P w H h a (.ins C dx fs) from hok a _ e)
 exact⟨mA,⟨ob,n,ne⟩,r,q,z,d⟩
end
structure Cls (K:PySem.W.Frag)(C:Addr):Prop where
 pg:PySem.W.plainGet K C Str.empty=true
 hd:PySem.W.hasDictIn K C=true
 po:PySem.W.plainOver K C=true
 sa:PySem.W.findIn K (.ref C) "__setattr__"=some (some (.builtin "object.__setattr__"))
theorem Cls.get {K:PySem.W.Frag}  (c:Cls K C)(f:Str):PySem.W.plainGet K C f=true:=c.pg
noncomputable def Fo (K:PySem.W.Frag)(C:Addr)(f:Str):Prop:=PySem.W.findIn K (.ref C) f=some none
theorem Fo.taker {K:PySem.W.Frag}   (n:Fo K C f):PySem.W.takerIn K C f=some none:=by
 unfold PySem.W.takerIn
 rw[show PySem.W.findIn K (.ref C) f=some none from n]
 rfl
structure Meth (K:PySem.W.Frag)(C:Addr)(m:Str)(f:Addr):Prop where
 at_:PySem.W.findIn K (.ref C) m=some (some (.ref f))
 fn:PySem.W.isFn K (.ref f)=true
 kp:PySem.W.keepIn K (.ref f)=true
section
variable {X:Cx} {pins:List (Addr×Obj)} {σ:St} {H:Hp} {s:Shared} {a C dx:Addr} {fs:List (Str×V)} {f:Str} {v:V} {A:Around} {E:Value->Shared->Prop}
theorem CP_   (I:Inv X pins σ H s)(e:H a=some (.ins C dx fs))(c:Cls X.K C)(n:Fo X.K C f)(l:fs.lookup f=some v)
  (h:∀u s',Inv X pins σ H s'->RelV v u->Q u s'):wpAny (model X.prog X.w) A (getAttr (.ref a) f b) Q E s:=by
 obtain⟨mA,O,r,_,_,_⟩:=Wr I.hok e
 obtain⟨u,hu,ru⟩:=RelO.some_of (v:=v) (o:=mA f) (by rw[<-l];exact r f)
 exact Ic_ I.kIn O (c.get f) c.hd n hu (Ed_ ru) (h u _ (I.tok _) ru)
theorem MY     (I:Inv X pins σ H s)(e:H a=some (.ins C dx fs))(c:Cls X.K C)(k:Meth X.K C m g)(l:fs.lookup m=none)
  (h:Q (.ref g,[.ref a]) s):wpAny (model X.prog X.w) A (getMethod (.ref a) m pl) Q E s:=by
 obtain⟨mA,O,r,_,_,_⟩:=Wr I.hok e
 have hn:mA m=none:=RelO.none_of (by rw[<-l];exact r m)
 exact FN_ I.kIn O (c.get m) k.at_ k.fn hn h
theorem CQ_    (I:Inv X pins σ H s)(e:H a=some (.ins C dx fs))(c:Cls X.K C)(n:Fo X.K C f)(hl:fs.length<1000)(ry:RelV y u)
  (h:∀s',Inv X pins σ (upd H a (.ins C dx (putF f y fs))) s'->Q () s'):wpAny (model X.prog X.w) A (setAttr (.ref a) f u) Q E s:=by
 obtain⟨mA,O,r,wi,_,ho⟩:=Wr I.hok e
 have hz:(fs.map (·.1)).length<=sizeLine:=by rw[List.length_map,sizeLine_eq];lia
 refine Id_ I.kIn O c.sa c.po n.taker c.hd wi hz fun h' O' sb=>h _ ?_
 have hd:∃o,h'.get? dx=some o:=let ⟨o,_,_,e',_⟩:=O'.ns;⟨o,e'⟩
 refine I.write (x:=a) (e:=dx) (by rw[e];exact True.intro) (.inr ho) (fun b q hb z=>(sb.2 b hb).trans z) hd ?_
 refine⟨by rw[Ah O.ne];exact ho,?_,O.ne,O'.obj,_,O'.ns,fun g=>?_,fun g hg=>?_⟩
 ·have:=SN f y fs;lia
 ·show RelO ((putF f y fs).lookup g) (if g=f then some u else mA g)
  rw[FP]
  by_cases q:g=f
  ·rw[if_pos q,if_pos q];exact ry
  ·rw[if_neg q,if_neg q];exact r g
 ·by_cases q:g=f
  ·rw[q];exact (SM f y fs).1
  ·refine (SM f y fs).2 g (wi g fun z=>hg ?_)
   show (if g=f then some u else mA g)=none
   rw[if_neg q];exact z
theorem Inv.made (I:Inv X pins σ H s):Inv X pins σ (upd (upd H s.heap.objs.size (.own (s.heap.objs.size+1))) (s.heap.objs.size+1) (.ins C s.heap.objs.size []))
  {s with heap:=(s.heap.push PySem.W.emptyDict).push (PySem.W.instObj C s.heap.objs.size)}:=by
 have e1:(s.heap.push PySem.W.emptyDict).get? s.heap.objs.size=some PySem.W.emptyDict:=Heap.get?_push_size s.heap rfl
 have e2:((s.heap.push PySem.W.emptyDict).push (PySem.W.instObj C s.heap.objs.size)).get? (s.heap.objs.size+1)=some (PySem.W.instObj C s.heap.objs.size):=by
  have:=Heap.get?_push_size (s.heap.push PySem.W.emptyDict) (o:=PySem.W.instObj C s.heap.objs.size) rfl
  rwa [Heap.size_push]at this
 have e3:(s.heap.push PySem.W.emptyDict).Ns s.heap.objs.size (fun _=>none):=⟨PySem.W.emptyDict,#[],_,e1,rfl,(fun e he=>absurd he (by simp)),fun _=>rfl⟩
 have I1:=I.laid (a:=s.heap.objs.size) (o:=.own (s.heap.objs.size+1)) (h':=s.heap.push PySem.W.emptyDict) (t':=s.toks) (fun b u q=>Heap.get?_push_of_some _ q) (Nat.le_refl _) ⟨_,e1⟩
 refine I1.laid (a:=s.heap.objs.size+1) (o:=.ins C s.heap.objs.size []) (t':=s.toks) (fun b u q=>Heap.get?_push_of_some _ q) (Nat.le_of_eq (Heap.size_push _ _)) ?_
 have ne:s.heap.objs.size≠s.heap.objs.size+1:=Nat.ne_of_lt (Nat.lt_succ_self _)
 refine⟨by rw[Ah ne,Ae],Nat.zero_le _,ne,e2,fun _=>none,(Heap.Ns1.of_empty e3).at fun o q=>Heap.get?_push_of_some _ q,fun _=>True.intro,fun y hy=>absurd rfl hy⟩
theorem Ie_         (hb:attributeBase e f env (eval e env)=eval e env)
  (h:wpAny (model prog w) A (eval e env) (fun o s₁=>wpAny (model prog w) A (getAttr o f true) Q E s₁) E s):wpAny (model prog w) A (eval (.Attribute e f pos) env) Q E s:=
 Attribute_any_ h (by rw[arm_eval_Attribute,hb])
end
noncomputable def tFld (K:PySem.W.Frag)(ta:TE)(f:Str):TE:=fun σ H Q=>ta σ H fun x H1=>∃a C dx fs v,x=.ref a/\H1 a=some (.ins C dx fs)/\Cls K C/\Fo K C f/\fs.lookup f=some v/\Q v H1
noncomputable def sFld (K:PySem.W.Frag)(ta tv:TE)(f:Str):TS:=fun D σ H=>tv σ H fun y H1=>ta σ H1 fun x H2=>∃a C dx fs,x=.ref a/\H2 a=some (.ins C dx fs)/\Cls K C/\Fo K C f/\fs.length<1000 /\
 D.nx σ (upd H2 a (.ins C dx (putF f y fs)))
section
variable {X:Cx} {o e value:Expr} {f:Str} {pos pos' tpos:Pos} {ta tv:TE}
theorem AQ (he:PE X e ta)(hb:attributeBase e f X.env (eval e X.env)=eval e X.env):PE X (.Attribute e f pos) (tFld X.K ta f):=by
 intro pins s σ H Q I h
 refine Ie_ hb (thn (he pins s σ H _ I h) fun u s1 ⟨x,H1,I1,rx,a,C,dx,fs,v,ex,ea,c,n,l,q⟩=>?_)
 subst ex
 obtain rfl:u=Value.ref a:=rx
 exact CP_ I1 ea c n l fun u' s2 I2 ru=>⟨v,H1,I2,ru,q⟩
theorem F4 (ha:PE X o ta)(hv:PE X value tv)(hs:swapsWith value (some (.Attribute o f pos')) pos.line X.env=pure false):PS X (.Assign [.Attribute o f pos'] value pos) (sFld X.K ta tv f):=by
 intro pins s σ H D I h
 refine plainObj_wpAny_Assign_Attribute (thn (hv pins s σ H _ I h) fun u s1 ⟨y,H1,I1,ry,q⟩=>thn (ha pins s1 σ H1 _ I1 q) fun ov s2 ⟨x,H2,I2,rx,a,C,dx,fs,ex,ea,c,n,l,q2⟩=>?_) hs
 subst ex
 obtain rfl:ov=Value.ref a:=rx
 exact CQ_ I2 ea c n l ry fun s3 I3=>⟨σ,_,I3,q2⟩
end
section
variable {X:Cx} {pins:List (Addr×Obj)} {σ:St} {H:Hp} {s:Shared} {A:Around} {E:Value->Shared->Prop} {Q:Value->Shared->Prop} {c:Value} {b:Bool}
inductive TyOf (K:PySem.W.Frag)(H:Hp):V->Value->Prop where
 | non:TyOf K H .non (.type "NoneType")
 | bl (x:Bool):TyOf K H (.bl x) (.type "bool")
 | int (i:Int):TyOf K H (.int i) (.type "int")
 | str (x:Str):TyOf K H (.str x) (.type "str")
 | flt (x:UInt64):TyOf K H (.flt x) (.type "float")
 | lst {a:Addr} {xs:List V} (e:H a=some (.lst xs)):TyOf K H (.ref a) (.type "list")
 | frz {a:Addr} {o:Obj} {xs:List V} (e:H a=some (.frz o (.lst xs))):TyOf K H (.ref a) (.type "list")
 | tup {a:Addr} {xs:List V} (e:H a=some (.tup xs)):TyOf K H (.ref a) (.type "tuple")
 | dK {a:Addr} {kvs:List (Key×V)} (e:H a=some (.dK kvs)):TyOf K H (.ref a) (.type "dict")
 | dT {a:Addr} {kvs:List (List Key×V)} (e:H a=some (.dT kvs)):TyOf K H (.ref a) (.type "dict")
 | ins {a C dx:Addr} {fs:List (Str×V)} (e:H a=some (.ins C dx fs)) (cl:Cls K C) (ha:PySem.W.findIn K (.ref C) "__class__"=some (some (.builtin "object.__class__")))
   (hn:PySem.W.specialIn K (.builtin "object.__class__") "__get__"=some (some (.builtin "getset_descriptor.__get__"))) (htk:PySem.W.takesIn K (.builtin "object.__class__")=some true)
   (hm:PySem.W.mroIn K C (.type "object")=some true):TyOf K H (.ref a) (.ref C)
theorem Ee_   (I:Inv X pins σ H s)(rx:RelV x u)(ty:TyOf X.K H x t)(e:PySem.W.kitOne X.K t c=some b)(h:∀tk,Q (.bool b) {s with toks:=tk}):
  wpAny (model X.prog X.w) A (call (.builtin "isinstance") [u,c]) Q E s:=by
 cases ty with
 |non=>cases (show u=Value.none from rx);exact PySem.W.kia_one PySem.W.kitx_none I.kIn True.intro e (fun z=>nomatch z) h
 |bl y=>cases (show u=Value.bool y from rx);exact PySem.W.kia_one PySem.W.kitx_bool I.kIn True.intro e (fun z=>nomatch z) h
 |int i=>obtain⟨t,q⟩:=(show ∃t,u=Value.int i t from rx);cases q;exact PySem.W.kia_one PySem.W.kitx_int I.kIn True.intro e (fun z=>nomatch z) h
 |str y=>obtain⟨t,q⟩:=(show ∃t,u=Value.str y t from rx);cases q;exact PySem.W.kia_one PySem.W.kitx_str I.kIn True.intro e (fun z=>nomatch z) h
 |flt y=>obtain⟨t,q⟩:=(show ∃t,u=Value.float y t from rx);cases q;exact PySem.W.kia_one PySem.W.kitx_float I.kIn True.intro e (fun z=>nomatch z) h
 |@lst a xs ea=>
  cases (show u=Value.ref a from rx)
  obtain⟨_,_,n,_,h1⟩:=(show C5 X.prog X.w H s.heap a (.lst xs) from I.hok a _ ea)
  exact PySem.W.kia_one PySem.W.kitx_list I.kIn ⟨_,h1,rfl⟩ e (fun z=>nomatch z) h
 |@frz a ob xs ea=>
  cases (show u=Value.ref a from rx)
  obtain⟨_,_,_,n,_,h1⟩:=(show C5 X.prog X.w H s.heap a (.frz ob (.lst xs)) from I.hok a _ ea)
  exact PySem.W.kia_one PySem.W.kitx_list I.kIn ⟨_,h1,rfl⟩ e (fun z=>nomatch z) h
 |@tup a xs ea=>
  cases (show u=Value.ref a from rx)
  obtain⟨_,_,_,p⟩:=(show C5 X.prog X.w H s.heap a (.tup xs) from I.hok a _ ea)
  obtain⟨o,h1,h2,_⟩:=p
  exact PySem.W.kia_one PySem.W.kitx_tuple I.kIn ⟨o,h1,h2⟩ e (fun z=>nomatch z) h
 |@dK a kvs ea=>
  cases (show u=Value.ref a from rx)
  obtain⟨_,_,vs,_,p⟩:=(show C5 X.prog X.w H s.heap a (.dK kvs) from I.hok a _ ea)
  obtain⟨o,es,ep,h1,h2,_⟩:=p
  exact PySem.W.kia_one PySem.W.kitx_dict I.kIn ⟨o,h1,h2.1⟩ e (fun z=>nomatch z) h
 |@dT a kvs ea=>
  cases (show u=Value.ref a from rx)
  obtain⟨_,_,xs,_,o,es,ep,h1,h2,_⟩:=(show C5 X.prog X.w H s.heap a (.dT kvs) from I.hok a _ ea)
  exact PySem.W.kia_one PySem.W.kitx_dict I.kIn ⟨o,h1,h2.1⟩ e (fun z=>nomatch z) h
 |@ins a C dx fs ea cl ha hn htk hm=>
  cases (show u=Value.ref a from rx)
  obtain⟨mA,O,_⟩:=Wr I.hok ea
  obtain⟨od,J,_⟩:=O.look
  exact PySem.W.kia_one (PySem.W.kitx_own (cl.get _) cl.hd ha hn htk hm) I.kIn J e (fun z=>nomatch z) h
end
end L2
namespace L2
open PySem PySem.Spec PyProof.Rows
structure Room (k:Nat)(A:Around):Prop where
 hd:A.handled=none
 dp:A.depth+3*k+5<recursionLimit
 un:A.units+16*k+200<cLine
theorem Room.mono   (r:Room k A)(h:j<=k):Room j A:=⟨r.hd,by have:=r.dp;lia,by have:=r.un;lia⟩
theorem Room.deeper   (r:Room (k+1) A)(env:Env):Room k (A.deeper env):=
 ⟨r.hd,by have:=r.dp;show A.depth+1+3*k+5<_;lia,by have:=r.un;show A.units+3+16*k+200<_;lia⟩
theorem CR_ {A:Around}{C:Addr}{us:List Value}{kw:List (Str×Value)}:(A.under (.builtin "type.__call__" ⟨.ref C::us,kw⟩)).depth=A.depth+1:=by
 first|rfl|simp[Around.under,Code.weight,Code.isCreation,Code.isGuard,Code.isCaller,Code.frames,Code.isFrame,guardIds]
theorem CS_ {A:Around}{C:Addr}{us:List Value}{kw:List (Str×Value)}:(A.under (.builtin "type.__call__" ⟨.ref C::us,kw⟩)).units=A.units+1:=by
 first|rfl|simp[Around.under,Code.cUnits,Code.frames,Code.isFrame]
theorem Room.make   (r:Room (k+1) A)(C:Addr)(us:List Value)(kw:List (Str×Value)):Room k (A.under (.builtin "type.__call__" ⟨.ref C::us,kw⟩)):=
 ⟨r.hd,by have:=r.dp;rw[CR_];lia,by have:=r.un;rw[CS_];lia⟩
theorem Room.depth   (r:Room k A):A.depth<recursionLimit:=by have:=r.dp;lia
theorem Room.units   (r:Room k A):A.units+64<cLine:=by have:=r.un;lia
noncomputable def tNil:TA:=fun _ H Q=>Q [] H
noncomputable def Jn_ (ta:TE)(tr:TA):TA:=fun σ H Q=>ta σ H fun x H1=>tr σ H1 fun xs H2=>Q (x::xs) H2
section
variable {X:Cx} {e:Expr} {es:List Expr} {te:TE} {t:TA} {pos:Pos}
theorem Af:PA X [] tNil:=fun _ _ _ _ H Q I h=>Calls.spliced_nil ⟨[],H,I,.nil,h⟩
theorem Aa (ha:PE X e te)(hr:PA X es t)(hs:starEach (e::es) X.env=(false,eval e X.env)::starEach es X.env:=by rfl):PA X (e::es) (Jn_ te t):=by
 intro pos pins s σ H Q I h
 rw[hs]
 show wpAny _ _ (spliced ((false,eval e X.env)::backTo pos (starEach es X.env))) _ _ s
 refine Calls.spliced_cons (thn (ha pins s σ H _ I h) fun u s1 ⟨x,H1,I1,r1,q1⟩=>?_)
 exact thn (hr pos pins s1 σ H1 _ I1 q1) fun us s2 ⟨xs,H2,I2,r2,q2⟩=>⟨x::xs,H2,I2,.cons r1 r2,q2⟩
noncomputable def tTup (t:TA):TE:=fun σ H Q=>t σ H fun xs H1=>xs.length<=sizeLine/\∀p,H1 p=none->Q (.ref p) (upd H1 p (.tup xs))
noncomputable def tLst (t:TA):TE:=fun σ H Q=>t σ H fun xs H1=>xs.length<=sizeLine/\∀p,H1 p=none->Q (.ref p) (upd H1 p (.lst xs))
theorem GJ {x1}(h:PA X es t):PE X (.Tuple es x1 pos) (tTup t):=by
 intro pins s σ H Q I hq
 refine wpAny_Tuple_spliced (thn (h pos pins s σ H _ I hq) fun us s1 ⟨xs,H1,I1,r,z,q⟩=>⟨by rw[<-r.length];exact z,?_⟩)
 have hf:H1 s1.heap.objs.size=none:=I1.hok.fresh (Nat.le_refl _)
 refine⟨.ref s1.heap.objs.size,upd H1 s1.heap.objs.size (.tup xs),I1.laid (t':=s1.toks) (fun b u e=>Heap.get?_push_of_some _ e) (Nat.le_refl _) ?_,rfl,q _ hf⟩
 exact⟨z,us,r,⟨_,Heap.get?_push_size _ rfl,rfl,_,rfl⟩⟩
theorem Rm (h:PA X es t):PE X (.List es pos) (tLst t):=by
 intro pins s σ H Q I hq
 refine wpAny_List_spliced (thn (h pos pins s σ H _ I hq) fun us s1 ⟨xs,H1,I1,r,z,q⟩=>⟨by rw[<-r.length];exact z,?_⟩)
 have hf:H1 s1.heap.objs.size=none:=I1.hok.fresh (Nat.le_refl _)
 refine⟨.ref s1.heap.objs.size,upd H1 s1.heap.objs.size (.lst xs),I1.laid (t':=s1.toks) (fun b u e=>Heap.get?_push_of_some _ e) (Nat.le_refl _) ?_,rfl,q _ hf⟩
 exact⟨z,us,0,r,Heap.get?_push_size _ rfl⟩
end
noncomputable abbrev Sp:=List V->Hp->VK->XK->Prop
noncomputable abbrev CXT:=List Env->Hp->Shared->XK->Value->Shared->Prop
structure Env0 (P:Program)(w:World)(K:PySem.W.Frag)(mg:Str->Option Value)(base:Heap)(A:Around)(outer:List Env)(s:Shared)(H:Hp):Prop where
 frames:A.frames=some outer
 mod:Mod K mg base
 bs:∀b o,base.get? b=some o->s.heap.get? b=some o/\H b=none
 bsz:base.objs.size<=s.heap.objs.size
 funs:s.heap.FunFrames base outer
 frf:∀b∈frs outer,H b=none
 hok:HOk P w H s.heap
 bare:AllBare s.gens
noncomputable def CE (outer:List Env)(P:Program)(w:World)(H:Hp)(s:Shared)(Q:VK)(u:Value)(s':Shared):Prop:=
 ∃v H',s'.os=s.os/\AllBare s'.gens/\Un (frs outer) [] H H' s.heap s'.heap/\HOk P w H' s'.heap/\RelV v u/\Q v H'
noncomputable def CR (CX:CXT)(outer:List Env)(P:Program)(w:World)(H:Hp)(s:Shared)(Q:VK)(E:XK)(r:Result)(s':Shared):Prop:=
 match r with
 |.ok (.ret u)=>CE outer P w H s Q u s'
 |.ok _=>False
 |.error e=>CX outer H s E e s'
structure FnOk (P:Program)(w:World)(K:PySem.W.Frag)(mg:Str->Option Value)(base:Heap)(CX:CXT)(k:Nat)(f:Addr)(fd:FuncData)(ps:List Str)(sp:Sp):Prop where
 len:∀vs H Q E,sp vs H Q E->vs.length=ps.length
 run:∀(A:Around) (outer:List Env) (s:Shared) (H:Hp) (args:Args) (us:List Value) (vs:List V) (Q:VK) (E:XK),Room k A->Env0 P w K mg base A outer s H->BindsTo s fd args (ps.zip us)->Vals vs us->sp vs H Q E ->
  codeAny (model P w) A (.call (.ref f) args) (CR CX outer P w H s Q E) s
theorem Env0.make   {K:PySem.W.Frag}       (e:Env0 P w K mg base A outer s H)(C:Addr)(us:List Value)(kw:List (Str×Value)):
  Env0 P w K mg base (A.under (.builtin "type.__call__" ⟨.ref C::us,kw⟩)) outer s H:=⟨by first|exact e.frames|(simpa [Around.under,Code.envs,Code.isFrame,pushEnvs] using e.frames),e.mod,e.bs,e.bsz,e.funs,e.frf,e.hok,e.bare⟩
section
variable {X:Cx} {pins:List (Addr×Obj)} {σ:St} {H:Hp} {s s':Shared}
theorem Inv.env0 (I:Inv X pins σ H s):Env0 X.prog X.w X.K X.mg X.base X.A X.stack s H:=
 ⟨I.ok.frames,I.ok.mod,I.bs,Nat.le_trans I.ok.bsz I.sz,I.stack,I.stkFree,I.hok,I.bare⟩
theorem Inv.after   (I:Inv X pins σ H s)(h:CE X.stack X.prog X.w H s Q u s'):EP X pins σ Q u s':=by
 obtain⟨v,H',os,bare,un,hok,r,q⟩:=h
 obtain⟨hh,g,d,t,os'⟩:=s'
 obtain rfl:os'=s.os:=os
 exact⟨v,H',I.call (h':=hh) (g':=g) (d':=d) (t':=t) (ch:=[]) un hok bare (fun b z=>absurd z (by simp)),r,q⟩
end
noncomputable def If_ (sp:Sp)(dvs:List V)(E:XK)(t:TA):TE:=fun σ H Q=>t σ H fun vs H1=>sp (vs++dvs) H1 Q E
noncomputable def Ig_ (C:Addr)(m:Str)(sp:Sp)(dvs:List V)(E:XK)(ta:TE)(t:TA):TE:=fun σ H Q=>ta σ H fun x H1=>∃a dx fs,x=.ref a/\H1 a=some (.ins C dx fs)/\fs.lookup m=none /\
 t σ H1 fun vs H2=>sp (x::(vs++dvs)) H2 Q E
noncomputable def Jo_ (C:Addr)(sp:Sp)(dvs:List V)(E:XK)(t:TA):TE:=fun σ H Q=>t σ H fun vs H1=>∀x dx,H1 x=none->H1 dx=none->dx≠x ->
 sp (.ref x::(vs++dvs)) (upd (upd H1 dx (.own x)) x (.ins C dx [])) (fun v H2=>v=.non/\Q (.ref x) H2) E
noncomputable def Ap (K:PySem.W.Frag)(fd:FuncData)(ps:List Str)(ds:List Value):Prop:=
 ∀(s:Shared) (us:List Value),K.In s.heap->(us++ds).length=ps.length->BindsTo s fd ⟨us,[]⟩ (ps.zip (us++ds))
theorem Ap.all {K:PySem.W.Frag}   (h:∀us:List Value,us.length=ps.length->bindArgs fd ⟨us,[]⟩=pure (ps.zip us)):Ap K fd ps []:=fun s us _ hl=>by
 rw[List.append_nil]at hl ⊢
 exact .of_eq (h us hl)
noncomputable def Lj (CX:CXT)(X:Cx)(E:XK):Prop:=∀(pins:List (Addr×Obj)) (σ:St) (H:Hp) (s:Shared) (e:Value) (s':Shared),Inv X pins σ H s->CX X.stack H s E e s'->X.xe e s'
section
variable {X:Cx} {CX:CXT} {k:Nat} {f C:Addr} {fd:FuncData} {ps:List Str} {sp:Sp} {dvs:List V} {ds:List Value} {E:XK} {x m:Str} {p pos apos:Pos} {e o:Expr} {es:List Expr} {ta:TE} {t:TA}
theorem YF        (F:FnOk X.prog X.w X.K X.mg X.base CX k f fd ps sp)(hr:Room k X.A)(hb:Ap X.K fd ps ds)(hd:Vals dvs ds)(hx:Lj CX X E)
  (I:Inv X pins σ H s) (r:Vals vs us) (h:sp (vs++dvs) H Q E):wpAny (model X.prog X.w) X.A (call (.ref f) us) (EP X pins σ Q) X.xe s:=by
 have r2:Vals (vs++dvs) (us++ds):=r.append hd
 have hl:(us++ds).length=ps.length:=by rw[<-r2.length];exact F.len _ _ _ _ h
 refine wpAny_call (codeAny_mono (F.run X.A X.stack s H ⟨us,[]⟩ (us++ds) (vs++dvs) Q E hr I.env0 (hb s us I.kIn hl) r2 h) fun r s' hq=>?_)
 cases r with
 |error e=>exact hx pins σ H s e s' I hq
 |ok fl=>
  cases fl with
  |ret u=>exact I.after hq
  |next=>exact False.elim hq
  |brk=>exact False.elim hq
  |cont=>exact False.elim hq
theorem Aj (F:FnOk X.prog X.w X.K X.mg X.base CX k f fd ps sp)(hr:Room k X.A)(hg:Gl X x)(hm:X.mg x=some (.ref f))(hk:PySem.W.keepIn X.K (.ref f)=true)(hb:Ap X.K fd ps ds)(hd:Vals dvs ds)(hx:Lj CX X E)
  (ha:PA X (e::es) t) (hdb:(x==("__debug__" : Str))=false:=by decide) (he:starEach (e::es) X.env=(false,eval e X.env)::starEach es X.env:=by rfl) (hpl:(backTo pos (starEach es X.env)).any (·.1)=false:=by rfl):
  PE X (.Call (.Name x p) (e::es) [] pos) (If_ sp dvs E t):=by
 intro pins s σ H Q I h
 refine wpAny_Call_Name_kw (PU I hg hm ?_ hdb)
 refine PySem.W.callWith_K (h₀:=X.base) I.ok.mod.kin hk (thn (ha pos pins s σ H _ I h) fun us s1 ⟨vs,H1,I1,r,q⟩=>⟨I1.kIn,?_⟩) he hpl
 exact YF F hr hb hd hx I1 r q
theorem DF  (he:PE X o ta)(c:Cls X.K C)(hm:Meth X.K C m f)(F:FnOk X.prog X.w X.K X.mg X.base CX k f fd ps sp)(hr:Room k X.A)(hb:Ap X.K fd ps ds)(hd:Vals dvs ds)(hx:Lj CX X E)(ha:PA X (e::es) t)
  (hst:starEach (e::es) X.env=(false,eval e X.env)::starEach es X.env:=by rfl) (hpl:(backTo pos (starEach es X.env)).any (·.1)=false:=by rfl)
  (ht:eval (.Call (.Attribute o m apos) (e::es) [] pos) X.env=(do
   let ov <- eval o X.env
   standAt apos.atName
   let (f,first) <- holding [ov] (getMethod ov m pl)
   callWith pos f first (backTo pos (starEach (e::es) X.env)) (backToKw pos (keywordEach [] X.env))):=by rfl):
  PE X (.Call (.Attribute o m apos) (e::es) [] pos) (Ig_ C m sp dvs E ta t):=by
 intro pins s σ H Q I h
 refine PySem.W.methodCall_KW (pl:=pl) (thn (he pins s σ H _ I h) fun u s1 ⟨x,H1,I1,rx,a,dx,fs,ex,ea,l,q⟩=>?_) ht
 subst ex
 obtain rfl:u=Value.ref a:=rx
 refine MY I1 ea c hm l ?_
 refine PySem.W.callWith_K (first:=[.ref a]) (h₀:=X.base) I.ok.mod.kin hm.kp (thn (ha pos pins s1 σ H1 _ I1 q) fun us s2 ⟨vs,H2,I2,r,q2⟩=>⟨I2.kIn,?_⟩) hst hpl
 exact YF (us:=.ref a::us) (vs:=.ref a::vs) F hr hb hd hx I2 (.cons rfl r) q2
theorem Bm  (he:PE X o ta)(c:Cls X.K C)(hm:Meth X.K C m f)(F:FnOk X.prog X.w X.K X.mg X.base CX k f fd ps sp)(hr:Room k X.A)(hb:Ap X.K fd ps ds)(hd:Vals dvs ds)(hx:Lj CX X E)
  (ht:eval (.Call (.Attribute o m apos) [] [] pos) X.env=(do
   let ov <- eval o X.env
   standAt apos.atName
   let (f,first) <- holding [ov] (getMethod ov m pl)
   callWith pos f first (backTo pos (starEach [] X.env)) (backToKw pos (keywordEach [] X.env))):=by rfl):
  PE X (.Call (.Attribute o m apos) [] [] pos) (Ig_ C m sp dvs E ta tNil):=by
 intro pins s σ H Q I h
 refine PySem.W.methodCall_KW (pl:=pl) (thn (he pins s σ H _ I h) fun u s1 ⟨x,H1,I1,rx,a,dx,fs,ex,ea,l,q⟩=>?_) ht
 subst ex
 obtain rfl:u=Value.ref a:=rx
 refine MY I1 ea c hm l ?_
 exact PySem.W.callWith_K0 (first:=[.ref a]) I1.kIn hm.kp (YF (us:=[.ref a]) (vs:=[.ref a]) F hr hb hd hx I1 (.cons rfl .nil) q)
structure Mk (K:PySem.W.Frag)(C f:Addr):Prop where
 makes:PySem.W.makesIn K C=true
 init:PySem.W.findIn K (.ref C) "__init__"=some (some (.ref f))
 fn:PySem.W.isFn K (.ref f)=true
 kp:PySem.W.keepIn K (.ref C)=true
theorem FP_        (M:Mk X.K C f)(F:FnOk X.prog X.w X.K X.mg X.base CX k f fd ps sp)(hr:Room (k+1) X.A)(hb:Ap X.K fd ps ds)(hd:Vals dvs ds)
  (hx:Lj CX X E) (I:Inv X pins σ H s) (r:Vals vs us)
  (h:∀x dx,H x=none->H dx=none->dx≠x->sp (.ref x::(vs++dvs)) (upd (upd H dx (.own x)) x (.ins C dx [])) (fun v H2=>v=.non/\Q (.ref x) H2) E):
  wpAny (model X.prog X.w) X.A (call (.ref C) us) (EP X pins σ Q) X.xe s:=by
 have hq:=h (s.heap.objs.size+1) s.heap.objs.size (I.hok.fresh (Nat.le_succ _)) (I.hok.fresh (Nat.le_refl _)) (Nat.ne_of_lt (Nat.lt_succ_self _))
 have I2:=Inv.made (C:=C) I
 have r2:Vals (V.ref (s.heap.objs.size+1)::(vs++dvs)) (Value.ref (s.heap.objs.size+1)::(us++ds)):=.cons rfl (r.append hd)
 have hl:(Value.ref (s.heap.objs.size+1)::us++ds).length=ps.length:=by
  have e:=r2.length
  rw[F.len _ _ _ _ hq]at e
  exact e.symm
 refine wpAny_call (FO_ (f:=f) I.kIn M.makes M.init (beq_iff_eq.mp M.fn) (codeAny_mono (F.run _ X.stack _ _ ⟨Value.ref (s.heap.objs.size+1)::us,[]⟩ (Value.ref (s.heap.objs.size+1)::(us++ds)) _ _ E (hr.make C us [])
  (I2.env0.make C us []) (hb _ (Value.ref (s.heap.objs.size+1)::us) I2.kIn hl) r2 hq) fun r s' hq'=>?_))
 cases r with
 |error e=>exact hx pins σ _ _ e s' I2 hq'
 |ok fl=>
  cases fl with
  |ret u=>
   obtain⟨v,H',I3,rv,ev,q3⟩:=I2.after hq'
   subst ev
   exact⟨rv,⟨V.ref (s.heap.objs.size+1),H',I3,rfl,q3⟩⟩
  |next=>exact False.elim hq'
  |brk=>exact False.elim hq'
  |cont=>exact False.elim hq'
theorem AJ_ (M:Mk X.K C f)(F:FnOk X.prog X.w X.K X.mg X.base CX k f fd ps sp)(hr:Room (k+1) X.A)(hg:Gl X x)(hm:X.mg x=some (.ref C))(hb:Ap X.K fd ps ds)(hd:Vals dvs ds)(hx:Lj CX X E)
  (ha:PA X (e::es) t) (hdb:(x==("__debug__" : Str))=false:=by decide) (he:starEach (e::es) X.env=(false,eval e X.env)::starEach es X.env:=by rfl) (hpl:(backTo pos (starEach es X.env)).any (·.1)=false:=by rfl):
  PE X (.Call (.Name x p) (e::es) [] pos) (Jo_ C sp dvs E t):=by
 intro pins s σ H Q I h
 refine wpAny_Call_Name_kw (PU I hg hm ?_ hdb)
 refine PySem.W.callWith_K (h₀:=X.base) I.ok.mod.kin M.kp (thn (ha pos pins s σ H _ I h) fun us s1 ⟨vs,H1,I1,r,q⟩=>⟨I1.kIn,?_⟩) he hpl
 exact FP_ M F hr hb hd hx I1 r q
end
structure FnScope (N P:List Str)(sc:Scope):Prop where
 kind:sc.kind=.function
 co:sc.isCoroutine=false
 gen:sc.isGenerator=false
 nd:N.Nodup
 pre:N.take P.length=P
 par:∀x∈P,sc.names.lookup x=some .local\/sc.names.lookup x=some .cell
 nofree:∀y∈sc.names,y.2 ≠ .free
theorem YG {kindOf:Str->Option NameKind}{x:Str}:∀{binds:List (Str×Value)} {m:Str->Option Value},(∀v,(x,v)∉binds)->bindL kindOf binds m x=m x
 |[],_,_=>rfl
 | (n,v)::r,m,h=>by
  unfold bindL
  rw[YG fun w hw=>h w (List.mem_cons_of_mem _ hw)]
  split
  ·have:x≠n:=by rintro rfl;exact h v List.mem_cons_self
   simp[this]
  ·rfl
theorem YH {kindOf:Str->Option NameKind}{x:Str}:∀{binds:List (Str×Value)} {m:Str->Option Value},(∀v,(x,v)∉binds)->bindC kindOf binds m x=m x
 |[],_,_=>rfl
 | (n,v)::r,m,h=>by
  unfold bindC
  rw[YH fun w hw=>h w (List.mem_cons_of_mem _ hw)]
  split
  ·rfl
  ·have:x≠n:=by rintro rfl;exact h v List.mem_cons_self
   simp[this]
theorem YI {kindOf:Str->Option NameKind}{x:Str}{v:Value}:∀{P:List Str} {vs:List Value} {i:Nat} {m:Str->Option Value},P.Nodup->P[i]?=some x->vs[i]?=some v->kindOf x=some .local ->
  bindL kindOf (P.zip vs) m x=some v
 |[],_,_,_,_,h,_,_=>by simp at h
 |_::_,[],_,_,_,_,h,_=>by simp at h
 |p::P,w::vs,0,m,nd,h1,h2,hk=>by
  simp at h1 h2;subst h1;subst h2
  show bindL kindOf ((p,w)::P.zip vs) m p=_
  unfold bindL
  rw[YG fun v hv=>(List.nodup_cons.mp nd).1 (List.of_mem_zip hv).1,if_pos hk]
  simp
 |p::P,w::vs,i+1,m,nd,h1,h2,hk=>by
  show bindL kindOf ((p,w)::P.zip vs) m x=_
  unfold bindL
  exact YI (i:=i) (List.nodup_cons.mp nd).2 (by simpa using h1) (by simpa using h2) hk
theorem YJ {kindOf:Str->Option NameKind}{x:Str}{v:Value}:∀{P:List Str} {vs:List Value} {i:Nat} {m:Str->Option Value},P.Nodup->P[i]?=some x->vs[i]?=some v->kindOf x≠some .local ->
  bindC kindOf (P.zip vs) m x=some v
 |[],_,_,_,_,h,_,_=>by simp at h
 |_::_,[],_,_,_,_,h,_=>by simp at h
 |p::P,w::vs,0,m,nd,h1,h2,hk=>by
  simp at h1 h2;subst h1;subst h2
  show bindC kindOf ((p,w)::P.zip vs) m p=_
  unfold bindC
  rw[YH fun v hv=>(List.nodup_cons.mp nd).1 (List.of_mem_zip hv).1,if_neg hk]
  simp
 |p::P,w::vs,i+1,m,nd,h1,h2,hk=>by
  show bindC kindOf ((p,w)::P.zip vs) m x=_
  unfold bindC
  exact YJ (i:=i) (List.nodup_cons.mp nd).2 (by simpa using h1) (by simpa using h2) hk
noncomputable def start (N:List Str)(vs:List V):St:=vs.map some++List.replicate (N.length-vs.length) none
noncomputable def cxOf (CX:CXT)(P:Program)(w:World)(K:PySem.W.Frag)(mg:Str->Option Value)(base:Heap)(N:List Str)(qual:Str)(scope:Scope)(f:Addr)(cd:Value)(A:Around)(outer:List Env)(s:Shared)(H:Hp)(E:XK):Cx where
 prog:=P
 w:=w
 K:=K
 mg:=mg
 base:=base
 A:=A.deeper (envOfC qual scope s.heap.objs.size f cd)
 N:=N
 s₀:=s
 H₀:=H
 env:=envOfC qual scope s.heap.objs.size f cd
 outer:=outer
 stack:=envOfC qual scope s.heap.objs.size f cd::outer
 ex:=[]
 calm:=true
 fn:=fun _=>true
 pn:=[]
 xe:=fun e s'=>wpAny (model P w) (A.deeper (envOfC qual scope s.heap.objs.size f cd)) (leaving (envOfC qual scope s.heap.objs.size f cd) e) (fun _ s''=>CX outer H s E e s'') (fun e' s''=>CX outer H s E e' s'') s'
theorem Ch_ {sc:Scope}{n:Nat}{x:Str}(h:sc.names.lookup x=some .cell):∃c,(cellsFrom n sc.names []).lookup x=some c:=by
 have q:=PySem.W.cellsFrom_some sc.names n [] (.inl h)
 exact Option.isSome_iff_exists.mp q
theorem Ef_    {K:PySem.W.Frag}
  (S:FnScope N ps scope) (hd:A.handled=none) (e0:Env0 P w K mg base A outer s H) (hl:vs.length=ps.length) (r:Vals vs us)
  (x:InCallC s s.heap.objs.size (bindL (envOfC qual scope s.heap.objs.size f cd).kindOf (ps.zip us) fun _=>none) (cellsFrom (s.heap.objs.size+1) scope.names []) (bindC (envOfC qual scope s.heap.objs.size f cd).kindOf (ps.zip us) fun _=>none) s1):
  Inv (cxOf CX P w K mg base N qual scope f cd A outer s H E) [] (start N vs) H s1:=by
 have hpl:ps.length<=N.length:=by have:=congrArg List.length S.pre;rw[List.length_take]at this;lia
 obtain⟨h1,tk,rfl,hk⟩:=x.done
 have noA:∀b:Addr,b∉(cxOf CX P w K mg base N qual scope f cd A outer s H E).ex:=fun b z=>absurd (show b∈([]:List Addr) from z) (by simp)
 refine⟨⟨e0.mod,S.kind,rfl,rfl,Nat.le_refl _,fun y z c h1 h2=>?_,fun y hy=>?_,fun y c _ h=>?_,fun _=>hd,Around.frames_deeper e0.frames,.inr ⟨rfl,rfl⟩,fun b z=>absurd z (noA b),e0.bs,e0.bsz,fun b _ _=>noA b,fun b z=>absurd z (noA b),e0.funs,e0.frf⟩,
  rfl,e0.bare,Un.kept hk,⟨_,x.toInCall.ns,fun i y v h1 h2 h3=>?_⟩,fun y c h=>⟨_,x.cell y c h⟩,e0.hok.fresh (Nat.le_refl _),fun y c h=>?_,fun p hp=>absurd (show p∈([]:List (Addr×Obj)) from hp) (by simp),e0.hok.kept hk,?_⟩
 ·exact name_of_addr x.apart (PySem.mem_of_lookup h1) (PySem.mem_of_lookup h2)
 ·have hy:scope.names.lookup y=some .cell\/scope.names.lookup y=some .free:=hy
  rcases hy with hy|hy
  ·exact Ch_ hy
  ·exact absurd rfl (S.nofree _ (PySem.mem_of_lookup hy))
 ·exact Nat.le_of_lt (x.above y c (PySem.mem_of_lookup h))
 ·have hi:i<vs.length:=by
   unfold start at h2
   by_cases hi:i<vs.length
   ·exact hi
   ·rw[List.getElem?_append_right (by simpa using hi)]at h2
    rw[List.getElem?_replicate]at h2
    split at h2<;>cases h2
  have ha:vs[i]?=some v:=by
   unfold start at h2
   rw[List.getElem?_append_left (by simpa using hi),List.getElem?_map]at h2
   cases e:vs[i]? with
   |none=>rw[e]at h2;cases h2
   |some a=>rw[e]at h2;cases h2;rfl
  obtain⟨u,hu,rv⟩:=r.get ha
  have hp:ps[i]?=some y:=by
   rw[<-S.pre,List.getElem?_take_of_lt s!""];exact h1
  have ndP:ps.Nodup:=by rw[<-S.pre];exact S.nd.sublist (List.take_sublist _ _)
  refine⟨u,rv,?_⟩
  rcases S.par y (List.mem_of_getElem? hp) with k|k
  ·exact .inl ⟨k,YI ndP hp hu k⟩
  ·obtain⟨c,e⟩:=Ch_ (n:=s.heap.objs.size+1) k
   refine .inr ⟨.inl k,c,e,?_⟩
   have q:=x.cell y c e
   rw[YJ ndP hp hu (by show scope.names.lookup y≠_;rw[k];decide)]at q
   exact q
 ·exact e0.hok.fresh (Nat.le_of_lt (x.above y c (PySem.mem_of_lookup h)))
 ·unfold start
  show _=N.length
  rw[List.length_append,List.length_map,List.length_replicate]
  lia
theorem Jp_    {K:PySem.W.Frag}         {dV kV doc pm cdv ct oc:Value}
       (lk:K.lookup f=some ⟨oc,od,.func (PySem.W.fnOf name qual params body scope dV kV doc pm an cdv ct),osl⟩) (hcd:PySem.W.codeIn K cdv qual=true) (S:FnScope N ps scope)
    (len:∀vs H Q E,sp vs H Q E->vs.length=ps.length)
    (hbody:∀(A:Around) (outer:List Env) (s:Shared) (H:Hp) (vs:List V) (Q:VK) (E:XK),Room k (A.deeper (envOfC qual scope s.heap.objs.size f cdv))->sp vs H Q E ->
      ∃t,PSs (cxOf CX P w K mg base N qual scope f cdv A outer s H E) body t/\t {nx:=fun _ H'=>Q .non H',rt:=Q} (start N vs) H):
    FnOk P w K mg base CX (k+1) f (PySem.W.fnOf name qual params body scope dV kV doc pm an cdv ct) ps sp:=by
  refine⟨len,fun A outer s H args us vs Q E hr e0 hb r hsp=>?_⟩
  have hl:=len _ _ _ _ hsp
  have KX:K.In s.heap:=e0.mod.kin.keeps fun b o e=>(e0.bs b o e).1
  have lim:s.heap.NoLimit:=e0.mod.nolimit.keeps fun b o e=>(e0.bs b o e).1
  have hkind:∀y∈ps.zip us,scope.names.lookup y.1=some .local\/(scope.names.lookup y.1=some .cell/\((cellsFrom (s.heap.objs.size+1) scope.names []).lookup y.1).isSome=true):=fun ⟨n,v⟩ hy=>by
    rcases S.par n (List.of_mem_zip hy).1 with q|q
    . exact .inl q
    . exact .inr ⟨q,PySem.W.cellsFrom_some _ _ _ (.inl q)⟩
  refine codeAny_call_function hr.depth (KX _ _ lk) rfl S.co S.gen rfl (PySem.W.codeRec_of KX hcd) (hb _ _ _ _ ?_)
  refine wpAny_newFunctionEnv_cells S.kind hkind fun env he s1 x=>?_
  subst he
  refine⟨lim.keeps x.toInCall.keep,codeAny_func ?_⟩
  obtain⟨t,ht,hq⟩:=hbody A outer s H vs Q E (hr.deeper _) hsp
  have I:Inv (cxOf CX P w K mg base N qual scope f cdv A outer s H E) [] (start N vs) H s1:=Ef_ S hr.hd e0 hl r x
  refine wpAny_mono (ht [] s1 (start N vs) H _ I hq) (fun fl s' hs=>?_) fun e s' hs=>hs
  have fin:∀{σ':St} {H':Hp} {v:V} {u:Value},Inv (cxOf CX P w K mg base N qual scope f cdv A outer s H E) [] σ' H' s'->RelV v u->Q v H'->CE outer P w H s Q u s' :=
    fun {σ' H' v u} J rv q=>⟨v,H',J.os,J.bare,J.base,J.hok,rv,q⟩
  cases fl with
  |ret u=>
    obtain⟨v,σ',H',J,rv,q⟩:=hs
    exact fin J rv q
  |next=>
    obtain⟨σ',H',J,q⟩:=hs
    exact fin (v:=V.non) (u:=Value.none) J rfl q
  |brk=>
    obtain⟨_,_,_,q⟩:=hs
    exact False.elim q
  |cont=>
    obtain⟨_,_,_,q⟩:=hs
    exact False.elim q
end L2
namespace L2
open PySem PySem.Spec PyProof.Rows
section
variable {X:Cx} {x:Str} {p pos:Pos} {e:Expr} {es:List Expr} {t:TA} {id T:String} {r:List V->Hp->VK->Prop}
noncomputable def tCB (r:List V->Hp->VK->Prop)(t:TA):TE:=fun σ H Q=>t σ H fun vs H1=>r vs H1 Q
theorem C4 (hc:NR X (.builtin id) r)(hg:Gl X x)(hm:X.mg x=none)(hv:bootBuiltins x=some (.builtin id))(ha:PA X (e::es) t)(hn:x ≠ "__name__" := by decide)(hdb:(x==("__debug__" : Str))=false:=by decide)
  (he:starEach (e::es) X.env=(false,eval e X.env)::starEach es X.env:=by rfl) (hpl:(backTo pos (starEach es X.env)).any (·.1)=false:=by rfl):PE X (.Call (.Name x p) (e::es) [] pos) (tCB r t):=by
 intro pins s σ H Q I h
 refine wpAny_Call_Name_kw (SJ I hg hm hv ?_ hn hdb)
 exact PyProof.Rows.callWith_builtin1 (thn (ha pos pins s σ H _ I h) fun us s1 ⟨vs,H1,I1,r1,q1⟩=>hc pins s1 σ H1 vs us Q I1 r1 q1) he hpl
theorem EF (hc:NR X (.type T) r)(hg:Gl X x)(hm:X.mg x=none)(hv:bootBuiltins x=some (.type T))(ha:PA X (e::es) t)(hn:x ≠ "__name__" := by decide)(hdb:(x==("__debug__" : Str))=false:=by decide)
  (he:starEach (e::es) X.env=(false,eval e X.env)::starEach es X.env:=by rfl) (hpl:(backTo pos (starEach es X.env)).any (·.1)=false:=by rfl):PE X (.Call (.Name x p) (e::es) [] pos) (tCB r t):=by
 intro pins s σ H Q I h
 refine wpAny_Call_Name_kw (SJ I hg hm hv ?_ hn hdb)
 exact PyProof.Rows.callWith_type1 (thn (ha pos pins s σ H _ I h) fun us s1 ⟨vs,H1,I1,r1,q1⟩=>hc pins s1 σ H1 vs us Q I1 r1 q1) he hpl
end
end L2
namespace HT
open PySem PyProof.Rows
section
variable {prog:Program} {w:World} {A:Around} {E:Value->Shared->Prop} {s:Shared}
theorem cat_tup    (ht:IsTup s.heap t vs.toArray)(hb:IsTup s.heap b ws.toArray)(hv:vs ≠ [])
  (h1:ws=[]->Q (.ref t) s) (h2:ws ≠ []->Q (.ref s.heap.objs.size) {s with heap:=s.heap.push {cls:=.type "tuple",data:=.seq (vs++ws).toArray} })
  (hsz:vs.length+ws.length<=sizeLine):wpAny (model prog w) A (binaryOp .Add (.ref t) (.ref b)) Q E s:=by
 obtain⟨⟨cls,dd,data,sl⟩,ho,hc,n,hd⟩:=id ht
 obtain⟨⟨cls2,dd2,data2,sl2⟩,ho2,hc2,n2,hd2⟩:=id hb
 simp only at hc hd hc2 hd2
 subst hc hd hc2 hd2
 have e:vs.toArray++ws.toArray=(vs++ws).toArray:=by simp
 by_cases hw:ws=[]
 ·exact concat_meets ⟨_,ho,rfl⟩ ⟨_,ho2,rfl⟩ noFill_tuple_add seq_tuple_add PySem.F.slot_tuple_add PySem.F.entry_tuple_add (PySem.F.args_tuple_add_2 _ _)
   (tuple_addW1 t b vs.toArray ws.toArray n n2 dd dd2 sl sl2 (by simpa using hv) (by simp[hw])) ⟨ho,ho2,h1 hw⟩
 ·refine concat_meets ⟨_,ho,rfl⟩ ⟨_,ho2,rfl⟩ noFill_tuple_add seq_tuple_add PySem.F.slot_tuple_add PySem.F.entry_tuple_add (PySem.F.args_tuple_add_2 _ _)
   (tuple_addW2 t b vs.toArray ws.toArray n n2 dd dd2 sl sl2 (by simpa using hv) (by simpa using hw) (by rw[List.size_toArray,List.size_toArray];exact hsz)) ⟨ho,ho2,?_⟩
  rw[e]
  exact h2 hw
noncomputable def sIx (n d:Nat):Option Int->Nat
 |none=>d
 |some v=>if v<0 then (v+(n:Int)).toNat else min v.toNat n
theorem sIx_none (n d:Nat):sIx n d none=d:=rfl
theorem sIx_nat (n d k:Nat):sIx n d (some (k:Int))=min k n:=by
 show (if (k:Int)<0 then ((k:Int)+(n:Int)).toNat else min (k:Int).toNat n)=min k n
 rw[if_neg s!"",Int.toNat_natCast]
theorem Jq_ (n d:Nat)(hd:d<=n)(o:Option Int):sIx n d o<=n:=by
 cases o with
 |none=>exact hd
 |some v=>
  show (if v<0 then (v+(n:Int)).toNat else min v.toNat n)<=n
  by_cases hv:v<0
  ·rw[if_pos hv];lia
  ·rw[if_neg hv];exact Nat.min_le_right _ _
theorem Eg_ (v:Int)(n d:Nat):(if v<0 then max (v+(n:Int)) 0 else min v (n:Int))=((sIx n d (some v):Nat):Int):=by
 show (if v<0 then max (v+(n:Int)) 0 else min v (n:Int))=(((if v<0 then (v+(n:Int)).toNat else min v.toNat n):Nat):Int)
 by_cases hv:v<0
 ·simp only[if_pos hv];lia
 ·simp only[if_neg hv];lia
theorem CT_ (lo hi:Option Int)(n:Nat):Builtin.Slice.sliceAdjust lo hi 1 (n:Int)=(((sIx n 0 lo:Nat):Int),((sIx n n hi:Nat):Int)):=by
 have h1:¬ ((1:Int)<0):=by lia
 unfold Builtin.Slice.sliceAdjust
 simp only[h1,if_false]
 refine Prod.ext ?_ ?_
 ·cases lo with
  |none=>rfl
  |some v=>exact Eg_ v n 0
 ·cases hi with
  |none=>rfl
  |some v=>exact Eg_ v n n
theorem CU_ (i j:Nat):Builtin.Slice.slicePlaces (i:Int) (j:Int) 1=j-i:=by
 unfold Builtin.Slice.slicePlaces
 have h1:(1:Int) > 0:=by lia
 simp only[h1,if_true,Int.ediv_one]
 split<;>lia
theorem V5    (p:IsPart v o)(h:Q o s):wpAny (model prog w) A (Builtin.Slice.slicePartIndex v) Q E s:=by
 cases p with
 |none=>exact slicePart_none h
 |int i t=>exact slicePart_int h
theorem Kr {sl:Addr}{vl vu:Value}{lo hi:Option Int}{n:Nat}{Q:Int×Int×Nat->Shared->Prop}(hs:s.heap.IsSliceOf sl vl vu .none)(pl:IsPart vl lo)(pu:IsPart vu hi)
  (h:Q (((sIx n 0 lo:Nat):Int),1,sIx n n hi-sIx n 0 lo) s):wpAny (model prog w) A (Builtin.Slice.sliceApplied (.ref sl) (pure (n:Int))) Q E s:=by
 obtain⟨os,hos,hcs,hds⟩:=id hs
 unfold Builtin.Slice.sliceApplied Builtin.Slice.sliceFields
 refine wpAny_bind (wpAny_bind (wpAny_field hos hds (x:=vl) rfl (wpAny_bind (wpAny_field hos hds (x:=vu) rfl (wpAny_bind (wpAny_field hos hds (x:=.none) rfl (wpAny_pure ?_)))))))
 refine wpAny_bind (slicePart_none ?_)
 show wpAny _ _ (if ((1:Int)==0)=true then _ else _) _ _ s
 rw[if_neg (by decide)]
 refine wpAny_bind (V5 pl (wpAny_bind (V5 pu (wpAny_bind (wpAny_pure ?_)))))
 show wpAny _ _ (match Builtin.Slice.sliceAdjust lo hi 1 (n:Int) with|(lo,hi)=>pure (lo,(1:Int),Builtin.Slice.slicePlaces lo hi 1)) _ _ s
 rw[CT_ lo hi n]
 show wpAny _ _ (pure (((sIx n 0 lo:Nat):Int),(1:Int),Builtin.Slice.slicePlaces ((sIx n 0 lo:Nat):Int) ((sIx n n hi:Nat):Int) 1)) _ _ s
 rw[CU_]
 exact wpAny_pure h
theorem FQ_ (xs:Array Value)(i k:Nat):((List.range k).filterMap fun (m:Nat)=>xs[((i:Int)+(m:Int)*1).toNat]?).toArray=((xs.toList.drop i).take k).toArray:=by
 have e:(fun (m:Nat)=>xs[((i:Int)+(m:Int)*1).toNat]?)=fun m=>xs[i+m]?:=by
  funext m
  have:((i:Int)+(m:Int)*1).toNat=i+m:=by lia
  rw[this]
 rw[e]
 have:=pick_run xs i k
 rw[List.filterMap_map]at this
 have e2:((fun x=>xs[x]?) ∘ fun x=>i+x)=fun m=>xs[i+m]?:=rfl
 rw[e2]at this
 rw[this]
theorem getItem_tuple_cut {t sl:Addr}   {lo hi:Option Int}  (ht:IsTup s.heap t items)(hs:s.heap.IsSliceOf sl vl vu .none)(pl:IsPart vl lo)(pu:IsPart vu hi)
  (hw:¬ (sIx items.size 0 lo=0/\sIx items.size items.size hi=items.size))
  (h:Q (.ref s.heap.objs.size) {s with heap:=s.heap.push {cls:=.type "tuple",data:=.seq ((items.toList.drop (sIx items.size 0 lo)).take (sIx items.size items.size hi-sIx items.size 0 lo)).toArray} })
  (hsz:items.size<=sizeLine):wpAny (model prog w) A (getItem (.ref t) (.ref sl)) Q E s:=by
 have htake:sizeOk (.seq ((items.toList.drop (sIx items.size 0 lo)).take (sIx items.size items.size hi-sIx items.size 0 lo)).toArray):=by
  show ((items.toList.drop (sIx items.size 0 lo)).take (sIx items.size items.size hi-sIx items.size 0 lo)).toArray.size<=sizeLine
  rw[List.size_toArray,List.length_take,List.length_drop,Array.length_toList]
  lia
 have hj:sIx items.size items.size hi<=items.size:=Jq_ _ _ (Nat.le_refl _) hi
 obtain⟨os,hos,hcs,hds⟩:=id hs
 have hTs:s.TypeIs (.ref sl) "slice" := ⟨os,hos,hcs⟩
 unfold getItem
 try with_reducible refine wpAny_holding ?_
 first|refine wpAny_bind (wpAny_pure ?_)|skip
 refine wpAny_bind (wpAny_sequenceKey ht.typeIs (by decide) ?_)
 refine wpAny_bind (wpAny_callSpecial?_slot (name:=Str.ofString "__getitem__") ht.typeIs PyProof.Rows.slot_tuple_getitem
  (wpAny_call_entry PyProof.Rows.slot_tuple_getitem ht.typeIs entry_tuple_getitem ?_ (args_tuple_getitem _ _)))
 show wpAny _ _ (Builtin.Tuple.tupleItemsOf (.ref t) >>= _) _ _ s
 refine wpAny_bind (tupleItemsOf_ ht ?_)
 refine wpAny_bind (wpAny_typeOf hTs ?_)
 rw[if_pos (by decide)]
 refine wpAny_bind (Kr hs pl pu ?_)
 have hno:¬ ((((sIx items.size 0 lo:Nat):Int)==0&&(1:Int)==1&&(sIx items.size items.size hi-sIx items.size 0 lo)==items.size)=true):=by
  intro q
  rw[Bool.and_eq_true,Bool.and_eq_true]at q
  have q1:((sIx items.size 0 lo:Nat):Int)=0:=eq_of_beq q.1.1
  have q2:sIx items.size items.size hi-sIx items.size 0 lo=items.size:=eq_of_beq q.2
  exact hw ⟨by lia,by lia⟩
 show wpAny _ _ (if (((sIx items.size 0 lo:Nat):Int)==0&&(1:Int)==1&&(sIx items.size items.size hi-sIx items.size 0 lo)==items.size)=true then _ else _) _ _ s
 rw[if_neg hno,FQ_]
 first
  | exact wpAny_bind (m:=Builtin.Tuple.tupleExact _) (wpAny_newObj_type (wpAny_pure ⟨_,rfl,wpAny_pure h⟩) htake)
  | exact wpAny_bind (m:=Builtin.Tuple.tupleExact _) (wpAny_newObj_type (wpAny_bind (wpAny_pure (wpAny_pure ⟨_,rfl,wpAny_pure h⟩))) htake)
  | exact wpAny_bind (wpAny_bind (m:=Builtin.Tuple.tupleExact _) (wpAny_newObj_type (wpAny_pure (wpAny_pure ⟨_,rfl,wpAny_pure h⟩)) htake))
  | exact wpAny_bind (wpAny_bind (m:=Builtin.Tuple.tupleExact _) (wpAny_newObj_type (wpAny_pure ⟨_,rfl,wpAny_pure h⟩) htake))
end
end HT
namespace L2
open PySem PySem.Spec PyProof.Rows
noncomputable abbrev TO:=St->Hp->(Option Int->Hp->Prop)->Prop
noncomputable def PO (X:Cx)(e:Option Expr)(t:TO):Prop:=
 ∀(pins:List (Addr×Obj)) (s:Shared) (σ:St) (H:Hp) (Q:Option Int->Hp->Prop),Inv X pins σ H s->t σ H Q ->
  wpAny (model X.prog X.w) X.A (evalPart e X.env) (fun u s'=>∃o H',Inv X pins σ H' s'/\IsPart u o/\Q o H') X.xe s
noncomputable def Eh_:TO:=fun _ H Q=>Q none H
noncomputable def Jr_ (t:TE):TO:=fun σ H Q=>t σ H fun x H1=>∃i,x=.int i/\Q (some i) H1
section
variable {X:Cx} {e:Expr} {te:TE} {lo hi:Option Expr} {tl th:TO} {pos p2:Pos}
theorem SR:PO X none Eh_:=by
 intro pins s σ H Q I h
 rw[evalPart_none]
 exact wpAny_pure ⟨none,H,I,.none,h⟩
theorem SS (h:PE X e te):PO X (some e) (Jr_ te):=by
 intro pins s σ H Q I hw
 rw[evalPart_some]
 refine thn (h pins s σ H _ I hw) fun u s1 ⟨x,H1,I1,r1,q1⟩=>?_
 obtain⟨i,rfl,q⟩:=q1
 obtain⟨t,rfl⟩:=r1
 exact⟨some i,H1,I1,.int i t,q⟩
noncomputable def SlR (X:Cx)(r:V->Option Int->Option Int->Hp->VK->Prop):Prop:=
 ∀(pins:List (Addr×Obj)) (s:Shared) (σ:St) (H:Hp) (x:V) (v vl vu:Value) (lo hi:Option Int) (sl:Addr) (Q:VK),Inv X pins σ H s->RelV x v->s.heap.IsSliceOf sl vl vu .none->IsPart vl lo->IsPart vu hi->r x lo hi H Q ->
  ∃T id,typeLookup (.type T) "__getitem__"=pure (some (.builtin id))/\s.TypeIs v T/\wpAny (model X.prog X.w) X.A (getItem v (.ref sl)) (EP X pins σ Q) X.xe s
noncomputable def tSl (r:V->Option Int->Option Int->Hp->VK->Prop)(te:TE)(tl th:TO):TE:=fun σ H Q=>te σ H fun x H1=>tl σ H1 fun l H2=>th σ H2 fun u H3=>r x l u H3 Q
theorem OB  (hr:SlR X r)(he:PE X e te)(hl:PO X lo tl)(hu:PO X hi th):PE X (.Subscript e (.Slice lo hi none p2) pos) (tSl r te tl th):=by
 intro pins s σ H Q I h
 refine Subscript_ (thn (he pins s σ H _ I h) fun v s1 ⟨x,H1,I1,r1,q1⟩=>?_)
 refine wpAny_Slice (thn (hl pins s1 σ H1 _ I1 q1) fun vl s2 ⟨l,H2,I2,pl,q2⟩=>thn (hu pins s2 σ H2 _ I2 q2) fun vu s3 ⟨u,H3,I3,pu,q3⟩=>?_)
 rw[evalPart_none]
 refine wpAny_pure ?_
 have I4:Inv X pins σ H3 {s3 with heap:=s3.heap.push {cls:=.type "slice",data:=.fields #[vl,vu,.none]} }:=I3.kept (t':=s3.toks) fun b ob q=>Heap.get?_push_of_some _ q
 obtain⟨T,id,hT,ht,hg⟩:=hr pins {s3 with heap:=s3.heap.push {cls:=.type "slice",data:=.fields #[vl,vu,.none]} } σ H3 x v vl vu l u s3.heap.objs.size Q I4 r1 (Heap.IsSliceOf.new ..) pl pu q3
 show wpAny (model X.prog X.w) X.A (subscriptTail e (.Slice lo hi none p2) v (.ref s3.heap.objs.size)) (EP X pins σ Q) X.xe {s3 with heap:=s3.heap.push {cls:=.type "slice",data:=.fields #[vl,vu,.none]} }
 exact tail_any (ops:=[.ref s3.heap.objs.size,v]) ht hT hg (by with_unfolding_all rfl)
noncomputable def cutV (xs:List V)(lo hi:Option Int):List V:=(xs.drop (HT.sIx xs.length 0 lo)).take (HT.sIx xs.length xs.length hi-HT.sIx xs.length 0 lo)
theorem AK_ (xs:List V)(lo hi:Option Int):(cutV xs lo hi).length<=xs.length:=by
 unfold cutV
 rw[List.length_take,List.length_drop]
 lia
noncomputable def rSlT (K:PySem.W.Frag):V->Option Int->Option Int->Hp->VK->Prop:=fun x lo hi H Q=>∃a xs,x=.ref a/\SqT K H a xs /\
 ¬ (HT.sIx xs.length 0 lo=0/\HT.sIx xs.length xs.length hi=xs.length)/\∀p,H p=none->Q (.ref p) (upd H p (.tup (cutV xs lo hi)))
theorem Ei_:SlR X (rSlT X.K):=by
 intro pins s σ H x v vl vu lo hi sl Q I rx hs pl pu h
 obtain⟨a,xs,rfl,hx,hw,q⟩:=h
 cases rx
 obtain⟨its,r,ht,hz⟩:=I.tuple hx
 have hlen:its.toArray.size=xs.length:=by rw[List.size_toArray];exact r.length.symm
 refine⟨"tuple",_,PyProof.Rows.slot_tuple_getitem.lookup,ht.typeIs,?_⟩
 refine HT.getItem_tuple_cut ht hs pl pu (by rw[hlen];exact hw) ?_ (by rw[hlen];exact hz)
 rw[hlen]
 refine⟨.ref s.heap.objs.size,_,I.laid (t':=s.toks) (o:=.tup (cutV xs lo hi)) (fun b ob q=>Heap.get?_push_of_some _ q) (Nat.le_refl _) ?_,rfl,q _ (I.hok.fresh (Nat.le_refl _))⟩
 exact⟨Nat.le_trans (AK_ xs lo hi) hz,_,(r.drop (HT.sIx xs.length 0 lo)).take (HT.sIx xs.length xs.length hi-HT.sIx xs.length 0 lo),IsTup.new _ _⟩
noncomputable def KB_ (K:PySem.W.Frag):R2:=fun x y H Q=>∃a b xs ys,x=.ref a/\y=.ref b/\SqT K H a xs/\SqT K H b ys/\xs ≠ []/\xs.length+ys.length<=sizeLine /\
 (ys=[]->Q (.ref a) H)/\(ys ≠ []->∀p,H p=none->Q (.ref p) (upd H p (.tup (xs++ys))))
theorem Vals.nil_iff   (r:Vals xs us):us=[]↔xs=[]:=by
 cases r with
 |nil=>simp
 |cons _ _=>simp
theorem Ih_:OpR X (binaryOp .Add) (KB_ X.K):=by
 intro pins s σ H x y v u Q I rx ry h
 obtain⟨a,b,xs,ys,rfl,rfl,ha,hb,hx,hz,q1,q2⟩:=h
 cases rx
 cases ry
 obtain⟨its,r1,p1,_⟩:=I.tuple ha
 obtain⟨its2,r2,p2,_⟩:=I.tuple hb
 refine HT.cat_tup p1 p2 (fun z=>hx (r1.nil_iff.mp z)) (fun z=>⟨.ref a,H,I,rfl,q1 (r2.nil_iff.mp z)⟩) (fun z=>?_) (by rw[<-r1.length,<-r2.length];exact hz)
 refine⟨.ref s.heap.objs.size,_,I.laid (t':=s.toks) (o:=.tup (xs++ys)) (fun b ob q=>Heap.get?_push_of_some _ q) (Nat.le_refl _) ?_,rfl,q2 (fun w=>z (r2.nil_iff.mpr w)) _ (I.hok.fresh (Nat.le_refl _))⟩
 exact⟨by rw[List.length_append];exact hz,_,r1.append r2,IsTup.new _ _⟩
end
end L2
namespace L2
open PySem PySem.Spec PyProof.Rows
noncomputable def ixN (n:Nat)(i:Int):Option Nat:=if 0<=i then (if i<n then some i.toNat else none) else if -(n:Int)<=i then some (i+n).toNat else none
noncomputable def atI {α:Type}(xs:List α)(i:Int):Option α:=(ixN xs.length i).bind fun j=>xs[j]?
theorem Ii_    (h:ixN n i=some j):seqIndex? i n=some j/\j<n /\ -(n:Int)<=i/\i<n:=by
 unfold ixN at h
 by_cases h0:0<=i
 ·rw[if_pos h0]at h
  by_cases h1:i<n
  ·rw[if_pos h1]at h
   have e:i.toNat=j:=Option.some.inj h
   exact⟨by rw[seqIndex_of h0 h1,e],by lia,by lia,h1⟩
  ·rw[if_neg h1]at h;cases h
 ·rw[if_neg h0]at h
  by_cases h1 : -(n:Int)<=i
  ·rw[if_pos h1]at h
   have e:(i+n).toNat=j:=Option.some.inj h
   exact⟨by rw[seqIndex_neg s!"" h1,e],by lia,h1,by lia⟩
  ·rw[if_neg h1]at h;cases h
theorem Ej_     (h:atI xs i=some v):∃j,seqIndex? i xs.length=some j/\xs[j]?=some v/\j<xs.length /\ -(xs.length:Int)<=i/\i<xs.length:=by
 unfold atI at h
 cases e:ixN xs.length i with
 |none=>rw[e]at h;cases h
 |some j=>
  rw[e]at h
  obtain⟨h1,h2,h3,h4⟩:=Ii_ e
  exact⟨j,h1,h,h2,h3,h4⟩
theorem PX {α:Type}{xs:List α}{j:Nat}{v:α}(h:xs[j]?=some v):atI xs (j:Int)=some v:=by
 have hj:j<xs.length:=(List.getElem?_eq_some_iff.mp h).1
 have e:ixN xs.length (j:Int)=some j:=by
  unfold ixN
  rw[if_pos s!"",if_pos s!""];simp
 unfold atI;rw[e];exact h
noncomputable def Ek_ (b:Expr):Prop:=∀o i,subscripted b false o i=operate [o,i] (getItem o i)
noncomputable def IxR (X:Cx)(r:R2):Prop:=
 ∀(value slice:Expr) (pins:List (Addr×Obj)) (s:Shared) (σ:St) (H:Hp) (x y:V) (v u:Value) (Q:VK),Inv X pins σ H s->RelV x v->RelV y u->r x y H Q ->
  subscripted slice false v u=operate [v,u] (getItem v u)->wpAny (model X.prog X.w) X.A (subscriptTail value slice v u) (EP X pins σ Q) X.xe s
noncomputable def MtR (X:Cx)(id:String)(r:V->List V->Hp->VK->Prop):Prop:=
 ∀(pins:List (Addr×Obj)) (s:Shared) (σ:St) (H:Hp) (x:V) (xs:List V) (v:Value) (us:List Value) (Q:VK),Inv X pins σ H s->RelV x v->Vals xs us->r x xs H Q ->
  wpAny (model X.prog X.w) X.A (call (.builtin id) (v::us)) (EP X pins σ Q) X.xe s
section
variable {X:Cx} {a b:Expr} {ta tb:TE} {pos:Pos}
theorem KC_  (hr:IxR X r)(ha:PE X a ta)(hb:PE X b tb)(hs:Ek_ b):PE X (.Subscript a b pos) (tOp r ta tb):=by
 intro pins s σ H Q I h
 exact Subscript_ (binT ha hb I h fun v u s2 x y H2 I2 rx ry q=>hr a b pins s2 σ H2 x y v u Q I2 rx ry q (hs _ _))
noncomputable def rIxL (K:PySem.W.Frag):R2:=fun x y H Q=>∃p xs i v,x=.ref p/\y=.int i/\SqL K H p xs/\atI xs i=some v/\Q v H
noncomputable def rIxT (K:PySem.W.Frag):R2:=fun x y H Q=>∃p xs i v,x=.ref p/\y=.int i/\SqT K H p xs/\atI xs i=some v/\Q v H
theorem Jn:IxR X (rIxL X.K):=by
 intro value slice pins s σ H x y v u Q I rx ry h hs
 obtain⟨p,xs,i,z,rfl,rfl,hq,he,q⟩:=h
 cases rx
 obtain⟨t,rfl⟩:=ry
 obtain⟨its,r,pl,hz⟩:=I.list hq
 obtain⟨j,h1,h2,h3,h4,h5⟩:=Ej_ he
 obtain⟨w,ew,rw'⟩:=r.get h2
 have hl:=r.length
 have hn:=Ea_
 have fin:EP X pins σ Q w s:=⟨z,H,I,rw',q⟩
 by_cases h0:0<=i
 ·have hj:i.toNat=j:=by
   rw[seqIndex_of h0 h5]at h1
   exact Option.some.inj h1
  exact item_listR pl.isList h0 s!"" (by rw[hj];simpa using ew) fin hs
 ·have hj:(i+(its.toArray.size:Int)).toNat=j:=by
   rw[seqIndex_neg s!"" h4]at h1
   rw[List.size_toArray,<-hl]
   exact Option.some.inj h1
  exact subscriptTail_builtinR (x:=w) pl.isList.typeIs slot_list_getitem.lookup
   (wpAny_getItem_list_neg (Q:=fun r s'=>r=w/\EP X pins σ Q r s') pl.isList s!"" (by rw[List.size_toArray]<;>lia) s!"" (by rw[hj];simpa using ew) ⟨rfl,fin⟩) hs
theorem CZ:IxR X (rIxT X.K):=by
 intro value slice pins s σ H x y v u Q I rx ry h hs
 obtain⟨p,xs,i,z,rfl,rfl,hq,he,q⟩:=h
 cases rx
 obtain⟨t,rfl⟩:=ry
 obtain⟨its,r,pl,hz⟩:=I.tuple hq
 obtain⟨j,h1,h2,h3,h4,h5⟩:=Ej_ he
 obtain⟨w,ew,rw'⟩:=r.get h2
 have hl:=r.length
 have hn:=Ea_
 have fin:EP X pins σ Q w s:=⟨z,H,I,rw',q⟩
 exact subscriptTail_builtinR (x:=w) pl.typeIs slot_tuple_getitem.lookup
  (getItem_tuple (j:=j) (Q:=fun r s'=>r=w/\EP X pins σ Q r s') pl s!"" s!"" (by rw[List.size_toArray,<-hl];exact h1) (by simpa using ew) ⟨rfl,fin⟩) hs
noncomputable def Ws:V->Bool
 |.non=>true
 |.bl _=>true
 |.int _=>true
 |.str _=>true
 |_=>false
noncomputable def eqV:V->V->Bool
 |.non,.non=>true
 |.bl a,.bl b=>a==b
 |.bl a,.int b=>(if a then 1 else 0)==b
 |.int a,.bl b=>a==(if b then 1 else 0)
 |.int a,.int b=>a==b
 |.str a,.str b=>a==b
 |_,_=>false
theorem GR_     (ry:RelV y u)(rx:RelV x v)(fy:Ws y=true)(fx:Ws x=true):SeqAt.EqAt A s u v (eqV y x):=by
 cases y with
 |non=>
  cases ry
  cases x with
  |non=>cases rx;exact SeqAt.EqAt.same _
  |bl b=>cases rx;exact SeqAt.EqAt.none_bool b
  |int b=>obtain⟨t,rfl⟩:=rx;exact SeqAt.EqAt.none_int b t
  |str b=>obtain⟨t,rfl⟩:=rx;exact SeqAt.EqAt.none_str b t
  |_=>exact absurd (show false=true from fx) Bool.false_ne_true
 |bl a=>
  cases ry
  cases x with
  |non=>cases rx;exact SeqAt.EqAt.bool_none a
  |bl b=>cases rx;exact SeqAt.EqAt.bool_bool a b
  |int b=>obtain⟨t,rfl⟩:=rx;exact SeqAt.EqAt.bool_int a b t
  |str b=>obtain⟨t,rfl⟩:=rx;exact SeqAt.EqAt.bool_str a b t
  |_=>exact absurd (show false=true from fx) Bool.false_ne_true
 |int a=>
  obtain⟨t',rfl⟩:=ry
  cases x with
  |non=>cases rx;exact SeqAt.EqAt.int_none a t'
  |bl b=>cases rx;exact SeqAt.EqAt.int_bool a t' b
  |int b=>obtain⟨t,rfl⟩:=rx;exact SeqAt.EqAt.int_int a t' b t
  |str b=>obtain⟨t,rfl⟩:=rx;exact SeqAt.EqAt.int_str a t' b t
  |_=>exact absurd (show false=true from fx) Bool.false_ne_true
 |str a=>
  obtain⟨t',rfl⟩:=ry
  cases x with
  |non=>cases rx;exact SeqAt.EqAt.str_none a t'
  |bl b=>cases rx;exact SeqAt.EqAt.str_bool a t' b
  |int b=>obtain⟨t,rfl⟩:=rx;exact SeqAt.EqAt.str_int a t' b t
  |str b=>obtain⟨t,rfl⟩:=rx;exact SeqAt.EqAt.str_str a t' b t
  |_=>exact absurd (show false=true from fx) Bool.false_ne_true
 |_=>exact absurd (show false=true from fy) Bool.false_ne_true
theorem Dm:NR X (.builtin "len") (fun xs H Q=>∃p ys,xs=[.ref p]/\(SqL X.K H p ys\/SqT X.K H p ys)/\Q (.int ys.length) H):=by
 intro pins s σ H xs us Q I r h
 obtain⟨p,ys,rfl,hq,q⟩:=h
 obtain⟨u,rfl,rx⟩:=vals1 r
 cases rx
 have hn:=Ea_
 rcases hq with hq|hq
 ·obtain⟨its,r',pl,hz⟩:=I.list hq
  have hlen:=r'.length
  exact Calls.call_len_list pl.isList (by simp only[List.size_toArray]<;>lia) ⟨.int ys.length,H,I.tok _,⟨s.toks+1,by rw[List.size_toArray,hlen]⟩,q⟩
 ·obtain⟨its,r',pl,hz⟩:=I.tuple hq
  have hlen:=r'.length
  exact len_tuple pl (by simp only[List.size_toArray]<;>lia) ⟨.int ys.length,H,I.tok _,⟨s.toks+1,by rw[List.size_toArray,hlen]⟩,q⟩
theorem Ro:NR X (.type "list") (fun xs H Q=>∃p ys,xs=[.ref p]/\(SqL X.K H p ys\/SqT X.K H p ys)/\∀l,H l=none->Q (.ref l) (upd H l (.lst ys))):=by
 intro pins s σ H xs us Q I r h
 obtain⟨p,ys,rfl,hq,q⟩:=h
 obtain⟨u,rfl,rx⟩:=vals1 r
 cases rx
 have fin:∀(its:List Value),Vals ys its->ys.length<=sizeLine->∀(h':Heap) (c':Nat),(∀b o',s.heap.get? b=some o'->h'.get? b=some o') ->
   h'.get? s.heap.objs.size=some {cls:=.type "list",dict:=none,data:=.seq its.toArray c',slots := #[]}->EP X pins σ Q (.ref s.heap.objs.size) {s with heap:=h' }:=fun its r' hz h' c' kp e=>
  ⟨.ref s.heap.objs.size,_,I.laid (t':=s.toks) kp (Nat.le_refl _) (show C5 X.prog X.w _ h' _ (.lst ys) from ⟨hz,its,c',r',e⟩),rfl,q _ (I.hok.fresh (Nat.le_refl _))⟩
 rcases hq with hq|hq
 ·obtain⟨its,r',pl,hz⟩:=I.list hq
  have hlen:=r'.length
  obtain⟨o,ho,hc,n,hd⟩:=pl.isList
  exact call_list_seq p (.inl rfl) ho hc hd (fun h' c' kp e=>fin its r' hz h' c' kp e) (by simp only[List.size_toArray]<;>lia)
 ·obtain⟨its,r',pl,hz⟩:=I.tuple hq
  have hlen:=r'.length
  obtain⟨o,ho,hc,n,hd⟩:=pl
  exact call_list_seq p (.inr rfl) ho hc hd (fun h' c' kp e=>fin its r' hz h' c' kp e) (by simp only[List.size_toArray]<;>lia)
theorem Wt:NR X (.type "tuple") (fun xs H Q=>∃p ys,xs=[.ref p]/\((SqL X.K H p ys/\∀l,H l=none->Q (.ref l) (upd H l (.tup ys)))\/(SqT X.K H p ys/\Q (.ref p) H))):=by
 intro pins s σ H xs us Q I r h
 obtain⟨p,ys,rfl,h⟩:=h
 obtain⟨u,rfl,rx⟩:=vals1 r
 cases rx
 rcases h with ⟨hq,q⟩|⟨hq,q⟩
 ·obtain⟨its,r',pl,hz⟩:=I.list hq
  have hlen:=r'.length
  refine call_tuple_list pl.isList (fun h' kp=>?_) (by simp only[List.size_toArray]<;>lia)
  have I1:Inv X pins σ H {s with heap:=h' }:=I.kept (t':=s.toks) kp
  have I2:Inv X pins σ (upd H h'.objs.size (.tup ys)) {s with heap:=h'.push {cls:=.type "tuple",data:=.seq its.toArray} }:=
   I1.laid (t':=s.toks) (fun b o e=>Heap.get?_push_of_some _ e) (Nat.le_refl _) (show C5 X.prog X.w _ _ _ (.tup ys) from ⟨hz,its,r',IsTup.new _ _⟩)
  exact⟨.ref h'.objs.size,_,I2,rfl,q _ (I1.hok.fresh (Nat.le_refl _))⟩
 ·obtain⟨its,r',pl,hz⟩:=I.tuple hq
  exact call_tuple_same pl ⟨.ref p,H,I,rfl,q⟩
noncomputable def tyV (K:PySem.W.Frag)(T:String)(x:V)(H:Hp):Prop:=match x with
 |.str _=>T = "str"
 |.int _=>T = "int"
 |.ref p=>(T = "list" /\ ∃xs,SqL K H p xs)\/(T = "tuple" /\ ∃o,K.lookup p=some o/\o.cls=.type "tuple" /\ o.dict=none) \/
   (T = "dict" /\ ((∃kvs,H p=some (.dK kvs)) \/ ∃kvs,H p=some (.dT kvs)))\/(T = "set" /\ ∃S n,H p=some (.set S n))
 |_=>False
theorem Js_        (I:Inv X pins σ H s)(r:RelV x v)(ty:tyV X.K T x H):
  s.TypeIs v T/\∀a,v=.ref a->∃ob,s.heap.get? a=some ob/\ob.dict=none:=by
 cases x with
 |str z=>
  obtain⟨t,rfl⟩:=r
  cases (show T = "str" from ty)
  exact⟨typeIs_str s z t,fun _ e=>nomatch e⟩
 |int i=>
  obtain⟨t,rfl⟩:=r
  cases (show T = "int" from ty)
  exact⟨typeIs_int s i t,fun _ e=>nomatch e⟩
 |ref p=>
  cases r
  rcases ty with ⟨rfl,xs,hq⟩|⟨rfl,o,hk,hc,hd⟩|⟨rfl,hk⟩|⟨rfl,S,n,hk⟩
  ·obtain⟨its,_,pl,_⟩:=I.list hq
   refine⟨pl.isList.typeIs,fun a e=>?_⟩
   cases e
   obtain⟨o,n,e,c,hd,_⟩:=pl
   exact⟨o,e,hd⟩
  ·refine⟨⟨o,I.kIn p o hk,hc⟩,fun a e=>?_⟩
   cases e
   exact⟨o,I.kIn _ o hk,hd⟩
  ·have z:∃o,s.heap.get? p=some o/\o.ExactDict:=by
    rcases hk with ⟨kvs,hk⟩|⟨kvs,hk⟩
    ·obtain⟨_,_,_,_,o,_,_,e,ex,_⟩:=I.hok p _ hk
     exact⟨o,e,ex⟩
    ·obtain⟨_,_,_,_,o,_,_,e,ex,_⟩:=I.hok p _ hk
     exact⟨o,e,ex⟩
   obtain⟨o,e,ex⟩:=z
   refine⟨⟨o,e,ex.1⟩,fun a e2=>?_⟩
   cases e2
   exact⟨o,e,ex.2.1⟩
  ·obtain⟨o,_,_,_,e,ex,_⟩:=I.hok p _ hk
   refine⟨⟨o,e,ex.1⟩,fun a e2=>?_⟩
   cases e2
   exact⟨o,e,ex.2.1⟩
 |_=>exact False.elim ty
noncomputable def tBM (K:PySem.W.Frag)(T:String)(r:V->List V->Hp->VK->Prop)(to:TE)(t:TA):TE:=fun σ H Q=>to σ H fun x H1=>tyV K T x H1/\t σ H1 fun xs H2=>r x xs H2 Q
variable {o e:Expr} {es:List Expr} {to:TE} {t:TA} {name:Str} {apos cpos:Pos} {T id:String} {r:V->List V->Hp->VK->Prop}
theorem CV_ (pa:PlainAttrs T)(slot:Slot T name id)(hty:typeOf (.builtin id)=pure (.type "method_descriptor"))(hm:MtR X id r)(ho:PE X o to)(ha:PA X (e::es) t)
  (hbase:attributeBase o name X.env (eval o X.env)=eval o X.env:=by rfl)
  (hfew:((backTo cpos (starEach (e::es) X.env)).all (fun x => !x.1)&&(backToKw cpos (keywordEach [] X.env)).all (fun x=>x.1.isSome)
   && decide ((e::es).length+([]:List Keyword).length+(if ([]:List Keyword).isEmpty then 0 else 1)<30))=true:=by rfl)
  (hline:(apos.endLine==cpos.line)=true:=by rfl) (hs:starEach (e::es) X.env=(false,eval e X.env)::starEach es X.env:=by rfl) (hplain:(backTo cpos (starEach es X.env)).any (·.1)=false:=by rfl):
  PE X (.Call (.Attribute o name apos) (e::es) [] cpos) (tBM X.K T r to t):=by
 intro pins s σ H Q I h
 refine wpAny_Call_method_late hbase hfew hline rfl (thn (ho pins s σ H _ I h) fun v s1 ⟨x,H1,I1,r1,ty,q1⟩=>?_)
 obtain⟨h1,h2⟩:=Js_ I1 r1 ty
 refine⟨T,id,pa,slot,hty,h1,h2,?_⟩
 have hA:=ha cpos pins s1 σ H1 _ I1 q1
 rw[hs]at hA ⊢
 refine Calls.callWith_builtin (by show (false||(backTo cpos (starEach es X.env)).any (·.1))=false;rw[hplain]<;>rfl) (Calls.evalArgs_plain ?_)
 exact thn hA fun us s2 ⟨vs,H2,I2,r2,q2⟩=>hm pins s2 σ H2 x vs v us Q I2 r1 r2 q2
/- xs.append(e),list.index on a module's tuple .. are MtR facts of 06m -/
end
end L2
namespace L2
open PySem PySem.Spec PyProof.Rows
noncomputable def MtM (X:Cx)(id:String)(r:V->List V->Hp->VK->Prop):Prop:=
 ∀(pins:List (Addr×Obj)) (s:Shared) (σ:St) (H:Hp) (x:V) (xs:List V) (v:Value) (us:List Value) (Q:VK),Inv X pins σ H s->RelV x v->Vals xs us->r x xs H Q ->
  wpAny (model X.prog X.w) X.A (call (.builtin id) (v::us)) (EP X pins σ Q) X.xe s
theorem Vals.one:∀{x:V} {us:List Value},Vals [x] us->∃u,us=[u]/\RelV x u
 |_,_,.cons r .nil=>⟨_,rfl,r⟩
theorem Vals.eraseIdx:∀{xs:List V} {us:List Value} (i:Nat),Vals xs us->Vals (xs.eraseIdx i) (us.eraseIdx i)
 |_,_,_,.nil=>.nil
 |_,_,0,.cons _ t=>t
 |_,_,i+1,.cons r t=>.cons r (Vals.eraseIdx i t)
theorem YK {α:Type}:∀(l:List α) (i:Nat),(l.eraseIdx i).length<=l.length
 |[],_=>Nat.le_refl _
 |_::_,0=>Nat.le_succ _
 |_::r,i+1=>Nat.succ_le_succ (YK r i)
section
variable {X:Cx} {pins:List (Addr×Obj)} {σ:St} {H:Hp} {s:Shared} {l b:Addr} {xs ys zs:List V}
theorem Inv.lset {its its':List Value}    (I:Inv X pins σ H s)(hH:H l=some (.lst xs))
  (e:s.heap.get? l=some {cls:=.type "list",data:=.seq its.toArray n}) (hf:f its.toArray=its'.toArray) (hv:Vals ys its') (hz:ys.length<=sizeLine):
  Inv X pins σ (upd H l (.lst ys)) {s with heap:=s.heap.update l (Obj.mapSeq f),toks:=t' }:=by
 have q:=PySem.IsL.update e f
 rw[hf]at q
 refine I.write (x:=l) (e:=l) (by rw[hH];exact trivial) (.inl rfl) (fun b' u hb hu=>(Heap.get?_update_other s.heap (Obj.mapSeq f) (Ne.symm hb)).trans hu) ⟨_,q⟩ ?_
 exact⟨hz,its',_,hv,q⟩
theorem Inv.lstM (I:Inv X pins σ H s)(hH:H l=some (.lst xs)):xs.length<=sizeLine/\∃(its:List Value) (n:Nat),Vals xs its/\xs.length=its.length/\s.heap.get? l=some {cls:=.type "list",data:=.seq its.toArray n}:=by
 obtain⟨z,its,n,r,e⟩:=I.hok l _ hH
 exact⟨z,its,n,r,r.length,e⟩
end
section
variable {X:Cx}
noncomputable def El_:V->List V->Hp->VK->Prop:=fun x vs H Q=>∃l xs y,x=.ref l/\vs=[y]/\H l=some (.lst xs)/\xs.length<sizeLine/\Q .non (upd H l (.lst (xs++[y])))
theorem Lk:MtM X "list.append" El_:=by
 intro pins s σ H x vs v us Q I rx rv h
 obtain⟨l,xs,y,rfl,rfl,hH,hz,q⟩:=h
 cases rx
 obtain⟨u,rfl,ru⟩:=rv.one
 obtain⟨z,its,n,r,hl,e⟩:=I.lstM hH
 refine call_meets F.slot_list_append ⟨_,e,rfl⟩ F.entry_list_append (F.args_list_append_2 _ _) (PySem.list_append l its.toArray n u (by rw[List.size_toArray];lia)) ⟨e,?_⟩
 refine⟨.non,_,I.lset (its':=its++[u]) hH e (by simp) (r.append (.cons ru .nil)) ?_,rfl,q⟩
 rw[List.length_append,List.length_singleton]
 lia
noncomputable def GS_:V->List V->Hp->VK->Prop:=fun x vs H Q=>∃l xs i k y,x=.ref l/\vs=[.int i]/\H l=some (.lst xs) /\ -(2 ^ 63)<=i/\i<2 ^ 63/\seqIndex? i xs.length=some k/\xs[k]?=some y/\Q y (upd H l (.lst (xs.eraseIdx k)))
theorem FR_:MtM X "list.pop" GS_:=by
 intro pins s σ H x vs v us Q I rx rv h
 obtain⟨l,xs,i,k,y,rfl,rfl,hH,h1,h2,hk,hy,q⟩:=h
 cases rx
 obtain⟨u,rfl,ru⟩:=rv.one
 obtain⟨t,rfl⟩:=ru
 obtain⟨z,its,n,r,hl,e⟩:=I.lstM hH
 obtain⟨w,hw,rw'⟩:=r.get hy
 refine call_meets F.slot_list_pop ⟨_,e,rfl⟩ F.entry_list_pop (F.args_list_pop_2 _ _)
  (MeetsSeq.list_pop_at l its.toArray n i t k w (fitsIndex_both h1 h2) (by rw[List.size_toArray,<-hl];exact hk) (by rw[<-Array.getElem?_toList];exact hw) (by rw[List.size_toArray];lia)) ⟨e,?_⟩
 refine⟨y,_,I.lset (its':=its.eraseIdx k) hH e ?_ (r.eraseIdx k) ?_,rw',q⟩
 ·show its.toArray.eraseIdxIfInBounds k=(its.eraseIdx k).toArray
  rw[List.eraseIdxIfInBounds_toArray]
 ·have:=YK xs k
  lia
end
end L2
namespace Att
open PySem PySem.W PySem.Calls PyProof.Rows
theorem SU   : ∀(ns:List Int) (vs:List Value),WellAll P h vs (ns.map WData.int)->IntsAre vs ns:=by
 intro ns
 induction ns with
 |nil=>
  intro vs w
  rw[List.map_nil]at w
  cases w
  exact .nil
 |cons n ns ih=>
  intro vs w
  rw[List.map_cons]at w
  cases w with
  |cons a b=>
   cases a
   exact .cons _ _ (ih _ b)
theorem Em_ {l:OpenLaw}{n:Nat}(hn:l.most=some n){P:Params}{h:Heap}{args:List WData}{vals:List Value}
  (hpre:l.row.toRowW.claim.pre args=true) (hwl:WellAll P h vals args):
  ∃a vs ns,vals=[Value.ref a]/\args=[WData.list (ns.map WData.int)]/\h.get? a=some {cls:=.type "list",data:=.seq vs.toArray}/\IntsAre vs ns/\ns.length<=n:=by
 have hsh:WShape.hasAll [] args [.list .int]=true:=(pre_splitW hpre).1
 have hc:l.pre.holds [] {args:=args}=true:=(pre_splitW hpre).2
 obtain⟨d,r,rfl,h1,h2⟩:=hasAllW_cons hsh
 obtain rfl:=hasAllW_nil h2
 obtain⟨xs,rfl,h3⟩:=hasW_list h1
 obtain⟨ns,rfl⟩:=items_int h3
 have hlen:ns.length<=n:=by
  unfold OpenLaw.pre at hc
  have h4:(WTm.not (.lt (.lit (.int (n:Int))) (.len (.arg 0)))).holds [] {args:=[.list (ns.map .int)]}=true:=by
   have h4:=(holds_andW hc).1
   rw[hn]at h4
   exact h4
  have h5:=condW_of h4 (w_not (w_lt w_lit (w_len_list (w_arg rfl))))
  rw[List.length_map]at h5
  refine Nat.le_of_not_lt fun q=>?_
  have q':(n:Int)<((ns.length:Nat):Int):=by lia
  first
   | (rw[decide_eq_true q']at h5;exact absurd h5 (by decide))
   | (simp at h5;lia)
 cases hwl with
 |cons w1 w2=>
  cases w2
  cases w1 with
  |list ho hall=>exact⟨_,_,ns,rfl,rfl,ho,SU ns _ hall,hlen⟩
theorem En_ (l:OpenLaw)(args:List WData):l.row.toRowW.claim.post args (.bool true) args=true:=
 postW_of (r:=l.row.toRowW) (X:=(true==true))
  (show WShape.has [] (.bool true) .bool=true by first|rfl|decide|simp[WShape.has,WShape.arms,WShape.armsAll])
  (show (WTm.eq .res (.lit (.bool true))).value [] {args:=args,res:=some (.bool true),after:=args}=some (.bool (true==true)) from w_eq_bool (w_res rfl) w_lit) rfl
theorem attach_call {l:OpenLaw}{n:Nat}{q:Program}{loose:List Str}{XP:(Str->Option Value)->Heap->Prop}{YP:World->Heap->Prop}{d:DefRec}
  (hn:l.most=some n) (hdf:d.params.defaults=[])
  (call:∀(w:World) (s₀ s₁:Shared) (mg mb:Str->Option Value) (fa:Addr) (o:Obj) (pm cd doc:Value) (a:Addr) (vs:List Value) (ns:List Int),
   Ground q loose [] XP w s₀ mg mb s₁.heap->YP w s₁.heap ->
   s₁.heap.get? fa=some o->o.data=.func (docDef d.name d.params d.body d.scope pm cd doc)->s₁.heap.CodeRec cd d.name->mg d.name=some (.ref fa) ->
   s₁.heap.get? a=some {cls:=.type "list",data:=.seq vs.toArray}->IntsAre vs ns->ns.length<=n->s₁.gens = #[] ->
   codeAny (model l.prog w) callerA (.call (.ref fa) ⟨[.ref a],[]⟩) (fun r s'=>r=.ok (.ret (.bool true))/\OldK s₁.heap s'.heap/\s'.os=s₁.os/\AllBare s'.gens) s₁):
  WalkO q loose XP YP l.row.toRowW d [] (fun f vs=>PySem.call f vs):=by
 intro w s₀ s₁ mg mb G Y fa o pm cd doc dV kV ho hd hcd hD hmg hg args vals as hpre hlay hrd hwl hlo
 obtain rfl:dV=.none:=Dflts.none hD hdf
 obtain rfl:kV=.none:=Dflts.noKw hD
 obtain⟨a,vs,ns,rfl,rfl,hobj,hints,hlen⟩:=Em_ hn hpre hwl
 refine enter_call (codeAny_mono (call w s₀ s₁ mg mb fa o pm cd doc a vs ns G Y ho (fd_plain hd) hcd hmg hobj hints hlen hg) fun r s' hq=>?_)
 obtain⟨rfl,h2,h3,h4⟩:=hq
 exact⟨.inl ⟨.bool true,.bool true,[],rfl,fun _=>rfl,.bool true,En_ l _,fun _=>⟨List.Pairwise.nil,fun _ hm=>(nomatch hm)⟩⟩,h2,h3,h4⟩
end Att
namespace L2
open PySem PySem.Spec PyProof.Rows
theorem YL:∀{vs:List Value} {ns:List Int},IntsAre vs ns->Vals (ns.map V.int) vs
 |_,_,.nil=>.nil
 |_,_,.cons n t h=>.cons ⟨t,rfl⟩ (YL h)
noncomputable def Only (H:Hp):Prop:=∀b,H b=none \/ ∃o xs,H b=some (.frz o (.lst xs))
theorem FS_   {K:PySem.W.Frag}
  (KX:K.In s₁.heap) (hns:s₁.heap.Ns mainGlobals mg) (hb:s₁.heap.Ns builtinsNs mb) (hbb:∀x:Str,x ≠ "__name__" -> mb x=bootBuiltins x) (hlim:s₁.heap.NoLimit) (hg:s₁.gens = #[])
  (ha:s₁.heap.get? a=some {cls:=.type "list",data:=.seq vs.toArray}) (hi:IntsAre vs ns) (hl:ns.length<=sizeLine) (hr:Room k callerA)
  (F:∀base:Heap,K.In base->base.Ns mainGlobals mg->FnOk P w K mg base CX k fa fd [x] sp) (hbind:∀(s:Shared) (u:Value),BindsTo s fd ⟨[u],[]⟩ [(x,u)])
  (hsp:∀H:Hp,Only H->SqL K H a (ns.map V.int)->sp [.ref a] H (fun v _=>v=.bl true) fun _ _ _=>False)
  (hCX:∀H e s',CX [] H s₁ (fun _ _ _=>False) e s'->False):
  codeAny (model P w) callerA (.call (.ref fa) ⟨[.ref a],[]⟩) (fun r s'=>r=.ok (.ret (.bool true))/\OldK s₁.heap s'.heap/\s'.os=s₁.os/\AllBare s'.gens) s₁:=by
 have rv:=YL hi
 have lenV:=hi.length
 -- from an abstract heap in which nothing but the script may be tracked
 have core:∀H:Hp,Only H->SqL K H a (ns.map V.int)->HOk P w H s₁.heap->(∀b,H b≠none->b=a)->(H a≠none->K.lookup a=none) ->
   codeAny (model P w) callerA (.call (.ref fa) ⟨[.ref a],[]⟩) (fun r s'=>r=.ok (.ret (.bool true))/\OldK s₁.heap s'.heap/\s'.os=s₁.os/\AllBare s'.gens) s₁:=by
  intro H hO hS hok hA hK
  have base_of:∀{b:Addr} {o:Obj},s₁.heap.get? b=some o->H b=none->(hidT s₁.heap H).get? b=some o:=fun e n=>FJ_ e n
  have noA:∀{b:Addr} {o:Obj} {es:Array DictEntry} {ep:Nat},s₁.heap.get? b=some o->o.data=.dict es ep->H b=none:=fun {b o es ep} e d=>by
   cases q:H b with
   |none=>rfl
   |some u=>
    have e':b=a:=hA b (by rw[q];simp)
    subst e'
    rw[ha]at e;cases e
    have d':Data.seq vs.toArray _=Data.dict es ep:=d
    cases d'
  have nsK:∀{b:Addr} {m:Str->Option Value},s₁.heap.Ns b m->(hidT s₁.heap H).Ns b m:=fun {b m} ⟨o,es,ep,e,d,r⟩=>⟨o,es,ep,base_of e (noA e d),d,r⟩
  have hKb:K.In (hidT s₁.heap H):=fun b o e=>base_of (KX b o e) (by
   cases q:H b with
   |none=>rfl
   |some u=>
    have e':b=a:=hA b (by rw[q];simp)
    subst e'
    rw[hK (by rw[q];simp)]at e;cases e)
  have hM:Mod K mg (hidT s₁.heap H):=⟨hKb,nsK hns,⟨mb,nsK hb,hbb⟩,let ⟨mc,h1,h2⟩:=hlim;⟨mc,nsK h1,h2⟩⟩
  have e0:Env0 P w K mg (hidT s₁.heap H) callerA [] s₁ H:=⟨rfl,hM,fun b o e=>HT_ e,Nat.le_of_eq (DN_ _ _),trivial,fun b hb=>absurd (show b∈([]:List Addr) from hb) (by simp),hok,.of_eq hg⟩
  refine codeAny_mono ((F _ hKb (nsK hns)).run callerA [] s₁ H ⟨[.ref a],[]⟩ [.ref a] [.ref a] _ _ hr e0 (hbind s₁ (.ref a)) (.cons rfl .nil) (hsp H hO hS)) fun r s' h=>?_
  cases r with
  |error e=>exact (hCX H e s' h).elim
  |ok fl=>
   cases fl with
   |next=>exact False.elim h
   |brk=>exact False.elim h
   |cont=>exact False.elim h
   |ret u=>
    obtain⟨v,H',os,bare,un,hok',r',q⟩:=h
    have q':v=.bl true:=q
    subst q'
    obtain rfl:u=Value.bool true:=r'
    refine⟨rfl,OldK.of_keep fun b o e=>?_,os,bare⟩
    cases q:H b with
    |none=>exact un.keep b o e q (by intro z;exact absurd (show b∈([]:List Addr) from z) (by simp)) (by simp)
    |some u=>
     rcases hO b with z|⟨ob,xs,z⟩
     ·rw[q]at z;cases z
     ·have z2:=un.frzs b ob _ z
      obtain⟨e1,_⟩:=hok b _ z
      obtain⟨e2,_⟩:=hok' b _ z2
      rw[e]at e1;cases e1
      exact e2
 cases hk:K.lookup a with
 |some o=>
  -- the script is one of the module's own objects
  have e:=KX a o hk
  rw[ha]at e
  cases e
  refine core (fun _=>none) (fun _=>.inl rfl) (.inr ⟨_,vs.toArray,_,hk,rfl,rfl,rfl,by rw[List.size_toArray,lenV];exact hl,by simpa using rv⟩) (fun b u z=>by have z':(none:Option HO)=some u:=z;cases z') (fun b z=>absurd rfl z) fun z=>absurd rfl z
 |none=>
  refine core (fun b=>if b=a then some (.frz {cls:=.type "list",data:=.seq vs.toArray} (.lst (ns.map V.int))) else none) (fun b=>?_) (.inl (.inr ⟨{cls:=.type "list",data:=.seq vs.toArray},if_pos rfl⟩)) (fun b u z=>?_) (fun b z=>?_) fun _=>hk
  ·by_cases hb:b=a
   ·exact .inr ⟨_,_,if_pos hb⟩
   ·exact .inl (if_neg hb)
  ·by_cases hb:b=a
   ·have z':=(if_pos hb).symm.trans z
    cases z'
    subst hb
    exact⟨ha,by rw[List.length_map];exact hl,vs,_,rv,ha⟩
   ·have z':=(if_neg hb).symm.trans z
    cases z'
  ·by_cases hb:b=a
   ·exact hb
   ·exact absurd (if_neg hb) z
theorem walk_of {l:PySem.W.OpenLaw}{n k:Nat}{q:Program}{loose:List Str}{XP:(Str->Option Value)->Heap->Prop}{YP:World->Heap->Prop}{d:DefRec}{K:Params->PySem.W.Frag}{CX:World->CXT}{sp:World->Sp}{x:Str}
  (hn:l.most=some n) (hn2:n<=sizeLine) (hdf:d.params.defaults=[]) (hr:Room k callerA)
  (hY:∀(w:World) (h:Heap),YP w h->(K w.params).In h)
  (F:∀(w:World) (mg:Str->Option Value) (fa:Addr) (h:Heap),(K w.params).In h->h.Ns mainGlobals mg->mg d.name=some (.ref fa) ->
   ∃fd:FuncData,(∀(s:Shared) (u:Value),BindsTo s fd ⟨[u],[]⟩ [(x,u)]) /\
    ∀base:Heap,(K w.params).In base->base.Ns mainGlobals mg->FnOk l.prog w (K w.params) mg base (CX w) k fa fd [x] (sp w))
  (hsp:∀(w:World) (H:Hp) (a:Addr) (ns:List Int),ns.length<=n->Only H->SqL (K w.params) H a (ns.map V.int)->sp w [.ref a] H (fun v _=>v=.bl true) fun _ _ _=>False)
  (hCX:∀(w:World) (H:Hp) (s:Shared) (e:Value) (s':Shared),CX w [] H s (fun _ _ _=>False) e s'->False):
  PySem.W.WalkO q loose XP YP l.row.toRowW d [] (fun f vs=>PySem.call f vs):=by
 refine Att.attach_call hn hdf fun w s₀ s₁ mg mb fa o pm cd doc a vs ns G Y ho hd hcd hmg hobj hints hlen hg=>?_
 have KX:=hY w _ Y
 obtain⟨fd,hb,hF⟩:=F w mg fa _ KX G.T.g hmg
 exact FS_ KX G.T.g G.T.b G.T.builtins G.T.nolimit hg hobj hints (Nat.le_trans hlen hn2) hr hF hb (fun H hO hS=>hsp w H a ns hlen hO hS) fun H e s'=>hCX w H s₁ e s'
noncomputable def Bs (s:Stmt)(j:Nat):Stmt:=match s with
 |.ClassDef _ _ _ body _ _ _ _ _ _ _=>body.getD j (.Pass ⟨0,0,0,0⟩)
 |_=>.Pass ⟨0,0,0,0⟩
noncomputable def Al (s:Stmt):Arguments:=match s with
 |.FunctionDef _ a _ _ _ _ _ _ _ _=>a
 |_=>{posonlyargs:=[],args:=[],vararg:=none,kwonlyargs:=[],kw_defaults:=[],kwarg:=none,defaults:=[]}
noncomputable def Ak (s:Stmt):List Stmt:=match s with
 |.FunctionDef _ _ b _ _ _ _ _ _ _=>b
 |_=>[]
noncomputable def Ab (s:Stmt):Scope:=match s with
 |.FunctionDef _ _ _ _ _ _ sc _ _ _=>sc
 |_=>{kind:=.function,names:=[],isGenerator:=false,isCoroutine:=false}
noncomputable abbrev CX0:CXT:=fun _ _ _ _ _ _=>False
noncomputable abbrev E0:XK:=fun _ _ _=>False
theorem Ay  : Lj CX0 X E0:=fun _ _ _ _ _ _ _ h=>h.elim
structure Fun (K:PySem.W.Frag)(x qual:Str)(st:Stmt)(f:Addr)(fd:FuncData):Prop where
 ex:∃(oc:Value) (od:Option Addr) (kV doc pm:Value) (an:Option Addr) (cdv ct:Value) (osl:Array (Option Value)),
  fd=PySem.W.fnOf x qual (Al st) (Ak st) (Ab st) .none kV doc pm an cdv ct/\K.lookup f=some ⟨oc,od,.func fd,osl⟩/\PySem.W.codeIn K cdv qual=true
 kp:PySem.W.keepIn K (.ref f)=true
section
variable {P:Program} {w:World} {K:PySem.W.Frag} {mg:Str->Option Value} {base:Heap}
theorem Fun.ok  {st:Stmt}      (F:Fun K x qual st f fd)(S:FnScope N ps (Ab st))(len:∀vs H Q E,sp vs H Q E->vs.length=ps.length)
  (hbody:∀(cdv:Value) (A:Around) (outer:List Env) (s:Shared) (H:Hp) (vs:List V) (Q:VK) (E:XK),Room k (A.deeper (envOfC qual (Ab st) s.heap.objs.size f cdv))->sp vs H Q E ->
   ∃t,PSs (cxOf CX0 P w K mg base N qual (Ab st) f cdv A outer s H E).nox (Ak st) t/\t {nx:=fun _ H'=>Q .non H',rt:=Q} (start N vs) H):FnOk P w K mg base CX0 (k+1) f fd ps sp:=by
 obtain⟨oc,od,kV,doc,pm,an,cdv,ct,osl,rfl,lk,hcd⟩:=F.ex
 refine Jp_ lk hcd S len fun A outer s H vs Q E hr hsp=>?_
 obtain⟨t,h,q⟩:=hbody cdv A outer s H vs Q E hr hsp
 exact⟨t,h.nox,q⟩
theorem Fun.binds  {st:Stmt}    (F:Fun K x qual st f fd)
  (h:∀(kV doc pm:Value) (an:Option Addr) (cdv ct:Value) (us:List Value),us.length=ps.length->bindArgs (PySem.W.fnOf x qual (Al st) (Ak st) (Ab st) .none kV doc pm an cdv ct) ⟨us,[]⟩=pure (ps.zip us)):Ap K fd ps []:=by
 obtain⟨oc,od,kV,doc,pm,an,cdv,ct,osl,rfl,lk,hcd⟩:=F.ex
 exact .all (h kV doc pm an cdv ct)
theorem AA  {st:Stmt}     {kV doc pm cdv ct:Value}(l:K.lookup f=some ⟨oc,od,.func (PySem.W.fnOf x qual (Al st) (Ak st) (Ab st) .none kV doc pm an cdv ct),osl⟩)
  (c:PySem.W.codeIn K cdv qual=true) (k:PySem.W.keepIn K (.ref f)=true):Fun K x qual st f (PySem.W.fnOf x qual (Al st) (Ak st) (Ab st) .none kV doc pm an cdv ct):=⟨⟨oc,od,kV,doc,pm,an,cdv,ct,osl,rfl,l,c⟩,k⟩
end
theorem NT   (hr:Room k A):A.units+1<cLine:=Nat.lt_of_le_of_lt (Nat.add_le_add_left (by decide:1<=64) _) hr.units
section
variable {X:Cx}
theorem pv (i:Nat)   (hN:X.N[i]?=some x:=by rfl)(hv:Vis X.env.scope x:=by first|exact Or.inl rfl|exact Or.inr (Or.inl rfl)|exact Or.inr (Or.inr rfl))(hd:(x==("__debug__" : Str))=false:=by decide)
  (hcd:(x==("__classdict__" : Str))=false:=by decide):PE X (.Name x pos) (tVar i):=Jc_ hN hv hd hcd
end
theorem ite2 {c A B:Prop}[Decidable c](h1:c->A)(h2:¬ c->B):if c then A else B:=by
 by_cases h:c
 ·rw[if_pos h]
  exact h1 h
 ·rw[if_neg h]
  exact h2 h
noncomputable def Same (H H':Hp):Prop:=∀b o,H b=some o->H' b=some o
theorem Same.refl (H:Hp):Same H H:=fun _ _ h=>h
theorem Same.trans {H H1 H2:Hp}(a:Same H H1)(b:Same H1 H2):Same H H2:=fun c o h=>b c o (a c o h)
theorem Same.free  (e:Same H H')  (h:H' l=Option.none):H l=Option.none:=by
 cases q:H l with
 |none=>rfl
 |some o=>
  rw[e l o q]at h
  cases h
theorem Same.seq {K:PySem.W.Frag}    (e:Same H H')(h:SqL K H a xs):SqL K H' a xs:=by
 rcases h with (h|⟨o,h⟩)|h
 ·exact .inl (.inl (e _ _ h))
 ·exact .inl (.inr ⟨o,e _ _ h⟩)
 ·exact .inr h
end L2
set_option maxHeartbeats 4000000
namespace L2
open PySem PySem.Spec PyProof.Rows
section
variable {κ:Type} [DecidableEq κ]
noncomputable def valV (kvs:List (κ×V))(k:κ):Option V:=(kvs.find? fun kv=>decide (kv.1=k)).map (·.2)
noncomputable def putK (kvs:List (κ×V))(k:κ)(v:V):List (κ×V):=
 if (kvs.any fun kv=>decide (kv.1=k))=true then kvs.map (fun kv=>if kv.1=k then (kv.1,v) else kv) else kvs++[(k,v)]
theorem Wu {p:κ×V}{r:List (κ×V)}{k:κ}(e:p.1=k):valV (p::r) k=some p.2:=by simp[valV,List.find?_cons,e]
theorem Wv {p:κ×V}{r:List (κ×V)}{k:κ}(e:¬ p.1=k):valV (p::r) k=valV r k:=by simp[valV,List.find?_cons,e]
theorem J6 (k:κ):∀kvs:List (κ×V),(kvs.any fun kv=>decide (kv.1=k))=(valV kvs k).isSome
 |[]=>rfl
 |p::r=>by
  rw[List.any_cons]
  by_cases e:p.1=k
  ·simp only[Wu e,decide_eq_true e,Bool.true_or,Option.isSome_some]
  ·rw[Wv e,decide_eq_false e,Bool.false_or];exact J6 k r
theorem SV (kvs:List (κ×V))(k:κ)(v:V):(putK kvs k v).length<=kvs.length+1:=by
 unfold putK
 split
 ·rw[List.length_map];lia
 ·rw[List.length_append,List.length_cons,List.length_nil];lia
theorem FT_ {kvs:List (κ×V)}{k:κ}(v:V)(h:valV kvs k=none):putK kvs k v=kvs++[(k,v)]:=by
 unfold putK
 rw[J6,h]
 exact if_neg (by decide)
theorem RelO.isSome_eq   (r:RelO o u):o.isSome=u.isSome:=by
 cases o with
 |none=>cases u with
  |none=>rfl
  |some _=>exact (show False from r).elim
 |some _=>cases u with
  |none=>exact (show False from r).elim
  |some _=>rfl
theorem RelO.getD     (r:RelO o u)(rd:RelV d d'):RelV (o.getD d) (u.getD d'):=by
 cases o with
 |none=>cases u with
  |none=>exact rd
  |some _=>exact (show False from r).elim
 |some _=>cases u with
  |none=>exact (show False from r).elim
  |some _=>exact r
theorem KV.val   (r:KV kvs vs)(k:κ):RelO (valV kvs k) (valueAt vs k):=by
 unfold KV at r
 induction r with
 |nil=>exact True.intro
 |@cons p q ps qs h t ih=>
  obtain⟨h1,h2⟩:=h
  by_cases e:p.1=k
  ·have e':q.1=k:=h1.symm.trans e
   have b:valueAt (q::qs) k=some q.2:=by simp[valueAt,List.find?_cons,e']
   rw[Wu e,b];exact h2
  ·have e':¬ q.1=k:=fun z=>e (h1.trans z)
   have b:valueAt (q::qs) k=valueAt qs k:=by simp[valueAt,List.find?_cons,e']
   rw[Wv e,b];exact ih
theorem KV.any   (r:KV kvs vs)(k:κ):(kvs.any fun kv=>decide (kv.1=k))=vs.any fun kv=>decide (kv.1=k):=by
 unfold KV at r
 induction r with
 |nil=>rfl
 |cons h t ih=>rw[List.any_cons,List.any_cons,ih,h.1]
theorem KV.repl   (r:KV kvs vs)(k:κ)   (ry:RelV y u):
  KV (kvs.map fun kv=>if kv.1=k then (kv.1,y) else kv) (vs.map fun kv=>if kv.1=k then (kv.1,u) else kv):=by
 unfold KV at r ⊢
 induction r with
 |nil=>exact .nil
 |@cons p q ps qs h t ih=>
  rw[List.map_cons,List.map_cons]
  refine .cons ?_ ih
  obtain⟨h1,h2⟩:=h
  by_cases e:p.1=k
  ·rw[if_pos e,if_pos (h1.symm.trans e)];exact⟨h1,ry⟩
  ·rw[if_neg e,if_neg (fun z=>e (h1.trans z))];exact⟨h1,h2⟩
theorem KV.put   (r:KV kvs vs)(k:κ)   (ry:RelV y u):KV (putK kvs k y) (stored vs k u):=by
 unfold putK stored
 rw[r.any k]
 by_cases e:(vs.any fun kv=>decide (kv.1=k))=true
 ·rw[if_pos e,if_pos e];exact r.repl k ry
 ·rw[if_neg e,if_neg e];exact Paired.snoc r ⟨rfl,ry⟩
theorem KV.length {kvs:List (κ×V)}{vs:List (κ×Value)}(r:KV kvs vs):kvs.length=vs.length:=Paired.length r
end
theorem Eo_     (r:RelV (kV k) u):(Ed P w).is k u=true:=by
 cases k with
 |inl i=>obtain⟨t,e⟩:=(show ∃t,u=Value.int i t from r);subst e;exact AE_ P w i t
 |inr x=>obtain⟨t,e⟩:=(show ∃t,u=Value.str x t from r);subst e;exact AF_ P w x t
theorem YM {P:Program}{w:World}:∀{ks:List Key} {us:List Value},Vals (ks.map kV) us->ItemsAre (Ed P w) ks us
 |[],_,r=>by rw[List.map_nil]at r;cases r;exact .nil
 |k::ks,_,r=>by
  rw[List.map_cons]at r
  cases r with
  |cons h t=>exact .cons (Eo_ h) (YM t)
noncomputable abbrev KT (H:Hp):List (List Key×V)->List (List Key×Addr×Value)->Prop:=Paired fun p q=>p.1=q.1/\H q.2.1=some (.tup (p.1.map kV))/\RelV p.2 q.2.2
theorem KT.val    (r:KT H kvs xs)(k:List Key):RelO (valV kvs k) ((atKey xs k).map (·.2)):=by
 induction r with
 |nil=>exact True.intro
 |@cons p q ps qs h t ih=>
  obtain⟨h1,_,h2⟩:=h
  by_cases e:p.1=k
  ·have e':q.1=k:=h1.symm.trans e
   have b:atKey (q::qs) k=some q.2:=by simp[atKey,List.find?_cons,e']
   rw[Wu e,b];exact h2
  ·have e':¬ q.1=k:=fun z=>e (h1.trans z)
   have b:atKey (q::qs) k=atKey qs k:=by simp[atKey,List.find?_cons,e']
   rw[Wv e,b];exact ih
theorem KT.repl    (r:KT H kvs xs)(k:List Key)   (ry:RelV y u):
  KT H (kvs.map fun kv=>if kv.1=k then (kv.1,y) else kv) (xs.map (putAt k u)):=by
 induction r with
 |nil=>exact .nil
 |@cons p q ps qs h t ih=>
  rw[List.map_cons,List.map_cons]
  refine .cons ?_ ih
  obtain⟨h1,h2,h3⟩:=h
  unfold putAt
  by_cases e:p.1=k
  ·rw[if_pos e,if_pos (h1.symm.trans e)];exact⟨h1,h2,ry⟩
  ·rw[if_neg e,if_neg (fun z=>e (h1.trans z))];exact⟨h1,h2,h3⟩
theorem KT.put    (r:KT H kvs xs)(k:List Key)    (hb:H b=some (.tup (k.map kV)))(ry:RelV y u):
  KT H (putK kvs k y) (storedH xs k b u):=by
 have e:(kvs.any fun kv=>decide (kv.1=k))=(atKey xs k).isSome:=by
  rw[J6,(r.val k).isSome_eq,Option.isSome_map]
 unfold putK storedH
 rw[e]
 by_cases q:(atKey xs k).isSome=true
 ·rw[if_pos q,if_pos q];exact r.repl k ry
 ·rw[if_neg q,if_neg q];exact Paired.snoc r ⟨rfl,hb,ry⟩
theorem KT.keeps    (r:KT H kvs xs)(ht:∀b ys,H b=some (.tup ys)->H' b=some (.tup ys)):KT H' kvs xs:=
 Paired.mapP r fun _ _ z=>⟨z.1,ht _ _ z.2.1,z.2.2⟩
section
variable {P:Program} {w:World} {H:Hp} {h:Heap} {a:Addr}
theorem FU_  (ok:HOk P w H h)(e:Rd H a u):C5 P w H h a u:=e.ok ok
theorem CW_  (ok:HOk P w H h)(e:Rd H a (.dK kvs)):kvs.length<=sizeLine/\(a==sysModules)=false/\∃vs,KV kvs vs/\h.DictOf (Ed P w) a vs:=
 show C5 P w H h a (.dK kvs) from FU_ ok e
theorem KD_  (ok:HOk P w H h)(e:H a=some (.dK kvs)):kvs.length<=sizeLine/\(a==sysModules)=false/\∃vs,KV kvs vs/\h.DictOf (Ed P w) a vs:=CW_ ok (.inl e)
theorem YN  (ok:HOk P w H h)(e:H a=some (.tup (ks.map kV))):(tupleKind (Ed P w)).is h ks a:=by
 obtain⟨_,its,r,o,h1,h2,n,h3⟩:=(show C5 P w H h a (.tup (ks.map kV)) from ok a _ e)
 exact⟨o,its.toArray,n,h1,h2,h3,by simpa using YM r⟩
theorem CX_  (ok:HOk P w H h)(e:Rd H a (.dT kvs)):kvs.length<=sizeLine/\(a==sysModules)=false /\
  ∃xs,KT H kvs xs/\h.DictOfH (tupleKind (Ed P w)) a xs:=by
 obtain⟨z,y,xs,r,o,es,ep,h1,h2,h3,h4,h5⟩:=(show C5 P w H h a (.dT kvs) from FU_ ok e)
 refine⟨z,y,xs,r,o,es,ep,h1,h2,h3,h4,fun x hx=>?_,h5⟩
 have all:∀{l:List (List Key×V)} {m:List (List Key×Addr×Value)},KT H l m->∀x∈m,(tupleKind (Ed P w)).is h x.1 x.2.1:=by
  intro l m q
  induction q with
  |nil=>intro x hx;exact nomatch hx
  |@cons p q ps qs hq t ih=>
   intro x hx
   rcases List.mem_cons.mp hx with e|hx
   ·subst e
    exact YN ok (by rw[<-hq.1];exact hq.2.1)
   ·exact ih x hx
 exact all r x hx
theorem KE_  (ok:HOk P w H h)(e:H a=some (.dT kvs)):kvs.length<=sizeLine/\(a==sysModules)=false /\
  ∃xs,KT H kvs xs/\h.DictOfH (tupleKind (Ed P w)) a xs:=CX_ ok (.inl e)
end
noncomputable def DGet (H:Hp)(a:Addr)(y:V)(r:Option V):Prop:=
 (∃kvs k,Rd H a (.dK kvs)/\y=kV k/\r=valV kvs k) \/ ∃kvs k b,Rd H a (.dT kvs)/\y=.ref b/\H b=some (.tup (k.map kV))/\r=valV kvs k
noncomputable def DPut (H:Hp)(a:Addr)(y v:V)(H':Hp):Prop:=
 (∃kvs k,H a=some (.dK kvs)/\y=kV k/\kvs.length<sizeLine/\H'=upd H a (.dK (putK kvs k v))) \/
 ∃kvs k b,H a=some (.dT kvs)/\y=.ref b/\H b=some (.tup (k.map kV))/\kvs.length<sizeLine/\H'=upd H a (.dT (putK kvs k v))
theorem DGet.t     (e:H a=some (.dT kvs))(eb:H b=some (.tup (k.map kV))):DGet H a (.ref b) (valV kvs k):=.inr ⟨kvs,k,b,.inl e,rfl,eb,rfl⟩
theorem DPut.t      (e:H a=some (.dT kvs))(eb:H b=some (.tup (k.map kV)))(hl:kvs.length<sizeLine):
  DPut H a (.ref b) v (upd H a (.dT (putK kvs k v))):=.inr ⟨kvs,k,b,e,rfl,eb,hl,rfl⟩
section
variable {X:Cx} {pins:List (Addr×Obj)} {σ:St} {H:Hp} {s:Shared} {a:Addr} {y v:V} {u r:Value} {o:Option V} {A:Around} {E:Value->Shared->Prop}
theorem Inv.big (I:Inv X pins σ H s):sysModules<s.heap.objs.size:=by
 have h:mainGlobals<s.heap.objs.size:=(I.mod.glob.keeps I.bk).lt
 exact Nat.lt_trans (by decide) h
theorem Ep_  (hu:A.units+1<cLine)(I:Inv X pins σ H s)(g:DGet H a y (some v))(ry:RelV y u)(h:∀w' s',Inv X pins σ H s'->RelV v w'->Q w' s'):
  wpAny (model X.prog X.w) A (getItem (.ref a) u) Q E s:=by
 rcases g with ⟨kvs,k,e,ey,l⟩|⟨kvs,k,b,e,ey,eb,l⟩
 ·subst ey
  obtain⟨z,hd,vs,rel,dd⟩:=CW_ I.hok e
  obtain⟨w',hw,rw'⟩:=RelO.some_of (v:=v) (o:=valueAt vs k) (by rw[l];exact rel.val k)
  exact wpAny_getItem_of (Eo_ ry) dd.mapOf hw (h w' _ (I.tok _) rw')
 ·subst ey
  cases (show u=Value.ref b from ry)
  obtain⟨z,hd,xs,rel,dd⟩:=CX_ I.hok e
  obtain⟨w',hw,rw'⟩:=RelO.some_of (v:=v) (o:=(atKey xs k).map (·.2)) (by rw[l];exact rel.val k)
  obtain⟨p,hp,hp2⟩:=Option.map_eq_some_iff.mp hw
  refine wpAny_getItem_heap (tupleKind_room_in1 hu) (YN I.hok eb) dd hp ?_
  rw[hp2]
  exact h w' _ (I.tok _) rw'
theorem AL_    (I:Inv X pins σ H s)(mu:Mut (H a))(hs:Heap.SameBut a s.heap h')(he:∃q,h'.get? a=some q)(new:C5 X.prog X.w (upd H a ob) h' a ob):
  Inv X pins σ (upd H a ob) {s with heap:=h',toks:=t' }:=
 I.write (x:=a) (e:=a) mu (.inl rfl) (fun b q hb z=>(hs.2 b hb).trans z) he new
theorem Jt_       (z:kvs.length<=sizeLine)(hd:(a==sysModules)=false)(rel:KV kvs vs)(dd:h'.DictOf (Ed P w) a vs):
  C5 P w H' h' a (.dK kvs):=⟨z,hd,vs,rel,dd⟩
theorem Eq_   (hu:A.units+1<cLine)(I:Inv X pins σ H s)(g:DPut H a y v H')(ry:RelV y u)(rv:RelV v r)(h:∀s',Inv X pins σ H' s'->Q () s'):
  wpAny (model X.prog X.w) A (setItem (.ref a) u r) Q E s:=by
 rcases g with ⟨kvs,k,e,ey,l,eH⟩|⟨kvs,k,b,e,ey,eb,l,eH⟩
 ·subst ey eH
  obtain⟨z,hd,vs,rel,dd⟩:=KD_ I.hok e
  have hz:vs.length<=sizeLine:=by rw[<-rel.length];exact z
  have hl:(putK kvs k v).length<=sizeLine:=by have:=SV kvs k v;lia
  refine wpAny_setItem_pairs (hsz:=hz) (Eo_ ry) dd fun h' dd' hs=>h _ ?_
  have he:∃q,h'.get? a=some q:=let ⟨q,_,_,hq,_⟩:=dd';⟨q,hq⟩
  exact AL_ I (by rw[e];exact True.intro) hs he (Jt_ hl hd (rel.put k rv) dd')
 ·subst ey eH
  cases (show u=Value.ref b from ry)
  obtain⟨z,hd,xs,rel,dd⟩:=KE_ I.hok e
  have hz:xs.length<=sizeLine:=by rw[<-Paired.length rel];exact z
  have hl:(putK kvs k v).length<=sizeLine:=by have:=SV kvs k v;lia
  refine wpAny_setItem_heap (hsz:=hz) (tupleKind_room_in1 hu) (YN I.hok eb) dd fun h' dd' hs=>h _ ?_
  obtain⟨q,es,ep,hq,h2,h3,h4,_,h5⟩:=dd'
  refine AL_ I (by rw[e];exact True.intro) hs ⟨q,hq⟩ ⟨hl,hd,_,(rel.put k eb rv).keeps fun c ys ec=>?_,q,es,ep,hq,h2,h3,h4,h5⟩
  rw[Ah (KA_ ec e (fun z=>nomatch z))]
  exact ec
end
noncomputable def NoSl (i:Expr):Prop:=∀ov iv,subscripted i false ov iv=operate [ov,iv] (getItem ov iv)
theorem Ij_         {T id:String}
  (hl:typeLookup (.type T) "__getitem__"=pure (some (.builtin id))) (hs:NoSl slice)
  (h:wpAny (model prog w) A (eval value env) (fun o s₁=>wpAny (model prog w) A (eval slice env) (fun i s₂=>s₂.TypeIs o T/\wpAny (model prog w) A (getItem o i) Q E s₂) E s₁) E s):
  wpAny (model prog w) A (eval (.Subscript value slice pos) env) Q E s:=by
 refine Subscript_ (wpAny_mono h (fun o s₁ h₁=>wpAny_mono h₁ (fun i s₂ h₂=>?_) fun _ _ x=>x) fun _ _ x=>x)
 obtain⟨hT,h₂⟩:=h₂
 unfold subscriptTail
 refine wpAny_bind ?_
 rw[getitemInPython_of_ne hT.not_modules]
 refine wpAny_bind (wpAny_specialOf hT hl ?_)
 have fin:wpAny (model prog w) A (subscripted slice false o i) (fun r s₃=>wpAny (model prog w) A (letTemporaryGo value o r >>= fun _=>pure r) Q E s₃) E s₂:=by
  rw[hs o i]
  exact wpAny_operating (wpAny_mono h₂ (fun r s₃ h₃=>wpAny_bind (wpAny_letTemporaryGo (wpAny_pure h₃))) fun _ _ x=>x)
 first
  | exact wpAny_pure (wpAny_bind fin)
  | exact wpAny_bind (wpAny_pure (wpAny_bind fin))
  | exact wpAny_bind fin
theorem AM_         (I:Inv X pins σ H s)(g:DGet H a y o):s.TypeIs (.ref a) "dict" := by
 rcases g with ⟨kvs,k,e,_,_⟩|⟨kvs,k,b,e,_,_,_⟩
 ·obtain⟨_,_,vs,_,dd⟩:=CW_ I.hok e
  exact dd.typeIs
 ·obtain⟨_,_,xs,_,dd⟩:=CX_ I.hok e
  exact dd.typeIs
noncomputable def Ju_ (td ty:TE):TE:=fun σ H Q=>td σ H fun x H1=>ty σ H1 fun y H2=>∃a v,x=.ref a/\DGet H2 a y (some v)/\Q v H2
noncomputable def Jv_ (td ty tv:TE):TS:=fun D σ H=>tv σ H fun v H1=>td σ H1 fun x H2=>ty σ H2 fun y H3=>∃a H4,x=.ref a/\DPut H3 a y v H4/\D.nx σ H4
section
variable {X:Cx} {o i e value:Expr} {pos pos' tpos:Pos} {td ty tv:TE}
theorem SW (hu:X.A.units+1<cLine)(ho:PE X o td)(hi:PE X i ty)(hs:NoSl i):PE X (.Subscript o i pos) (Ju_ td ty):=by
 intro pins s σ H Q I h
 refine Ij_ PySem.F.slot_dict_getitem.lookup hs (thn (ho pins s σ H _ I h) fun u s1 ⟨x,H1,I1,rx,q1⟩=>thn (hi pins s1 σ H1 _ I1 q1) fun iv s2 ⟨y,H2,I2,ry,a,v,ex,g,q2⟩=>?_)
 subst ex
 obtain rfl:u=Value.ref a:=rx
 exact⟨AM_ I2 g,Ep_ hu I2 g ry fun w' s3 I3 rw'=>⟨v,H2,I3,rw',q2⟩⟩
theorem NU (hu:X.A.units+1<cLine)(ho:PE X o td)(hi:PE X i ty)(hv:PE X value tv)(hs:swapsWith value (some (.Subscript o i pos')) pos.line X.env=pure false):
  PS X (.Assign [.Subscript o i pos'] value pos) (Jv_ td ty tv):=by
 intro pins s σ H D I h
 refine wpAny_Assign_Subscript (thn (hv pins s σ H _ I h) fun r s1 ⟨v,H1,I1,rv,q1⟩=>thn (ho pins s1 σ H1 _ I1 q1) fun u s2 ⟨x,H2,I2,rx,q2⟩=>thn (hi pins s2 σ H2 _ I2 q2) fun iv s3 ⟨y,H3,I3,ry,a,H4,ex,g,q3⟩=>?_) hs
 subst ex
 obtain rfl:u=Value.ref a:=rx
 exact Eq_ hu I3 g ry rv fun s4 I4=>⟨σ,H4,I4,q3⟩
end
theorem FV_    (h:Heap)(hb:sysModules<h.objs.size):C5 P w H (h.push {cls:=.type "dict",data:=.dict #[]}) h.objs.size (.dT []):=
 ⟨Nat.zero_le _,beq_eq_false_iff_ne.mpr (Ne.symm (Nat.ne_of_lt hb)),[],.nil,_,#[],0,Heap.get?_push_size _ rfl,⟨rfl,rfl,rfl⟩,rfl,rfl,List.nodup_nil⟩
noncomputable def GT_:TE:=fun _ H Q=>∀p,H p=none->Q (.ref p) (upd H p (.dT []))
section
variable {X:Cx} {pos:Pos}
theorem MZ:PE X (.Dict [] [] pos) GT_:=fun pins s σ H Q I h=>
 wpAny_Dict_empty ⟨.ref s.heap.objs.size,_,I.laid (a:=s.heap.objs.size) (o:=.dT []) (t':=s.toks) (fun _ _ q=>Heap.get?_push_of_some _ q) (Nat.le_refl _) (FV_ s.heap I.big),rfl,h _ (I.hok.fresh (Nat.le_refl _))⟩
end
structure M1 (X:Cx)(o:Expr)(m:Str)(apos:Pos)(e:Expr)(cpos:Pos):Prop where
 base:attributeBase o m X.env (eval o X.env)=eval o X.env
 few:((backTo cpos (starEach [e] X.env)).all (fun x => !x.1)&&(backToKw cpos (keywordEach [] X.env)).all (fun x=>x.1.isSome)
  && decide (([e]:List Expr).length+([]:List Keyword).length+(if ([]:List Keyword).isEmpty then 0 else 1)<30))=true
 line:(apos.endLine==cpos.line)=true
 trees:backTo cpos (starEach [e] X.env)=[(false,eval e X.env)]
structure M2 (X:Cx)(o:Expr)(m:Str)(apos:Pos)(e f:Expr)(cpos:Pos):Prop where
 base:attributeBase o m X.env (eval o X.env)=eval o X.env
 few:((backTo cpos (starEach [e,f] X.env)).all (fun x => !x.1)&&(backToKw cpos (keywordEach [] X.env)).all (fun x=>x.1.isSome)
  && decide (([e,f]:List Expr).length+([]:List Keyword).length+(if ([]:List Keyword).isEmpty then 0 else 1)<30))=true
 line:(apos.endLine==cpos.line)=true
 trees:backTo cpos (starEach [e,f] X.env)=[(false,eval e X.env),(false,eval f X.env)]
noncomputable def IsD (H:Hp)(a:Addr):Prop:=(∃kvs,Rd H a (.dK kvs)) \/ ∃kvs,Rd H a (.dT kvs)
theorem GU_       (I:Inv X pins σ H s)(d:IsD H a):
  s.TypeIs (.ref a) "dict" /\ (∀b,Value.ref a=.ref b->∃ob,s.heap.get? b=some ob/\ob.dict=none)/\(a==sysModules)=false:=by
 rcases d with ⟨kvs,e⟩|⟨kvs,e⟩
 ·obtain⟨_,hd,vs,_,dd⟩:=CW_ I.hok e
  refine⟨dd.typeIs,fun b q=>?_,hd⟩
  cases q
  obtain⟨ob,_,_,h1,h2,_⟩:=dd
  exact⟨ob,h1,h2.2.1⟩
 ·obtain⟨_,hd,xs,_,dd⟩:=CX_ I.hok e
  refine⟨dd.typeIs,fun b q=>?_,hd⟩
  cases q
  obtain⟨ob,_,_,h1,h2,_⟩:=dd
  exact⟨ob,h1,h2.2.1⟩
section
variable {X:Cx} {pins:List (Addr×Obj)} {σ:St} {H:Hp} {s:Shared} {a:Addr} {y d:V} {u r:Value} {o:Option V} {A:Around} {E:Value->Shared->Prop}
theorem Jw_  (hu:A.units+1<cLine)(I:Inv X pins σ H s)(g:DGet H a y o)(ry:RelV y u)(h:∀w' s',Inv X pins σ H s'->RelV (o.getD .non) w'->Q w' s'):
  wpAny (model X.prog X.w) A (call (.builtin "dict.get") [.ref a,u]) Q E s:=by
 rcases g with ⟨kvs,k,e,ey,l⟩|⟨kvs,k,b,e,ey,eb,l⟩
 ·subst ey
  obtain⟨z,hd,vs,rel,dd⟩:=CW_ I.hok e
  refine call_meetsIn PySem.F.slot_dict_get dd.typeIs PySem.F.entry_dict_get (PySem.F.args_dict_get_2 _ _) (meets_dict_get (Ed X.prog X.w) a (Eo_ ry) hd) ⟨_,dd.mapOf,h _ _ (I.tok _) ?_⟩
  rw[l]
  exact (rel.val k).getD rfl
 ·subst ey
  cases (show u=Value.ref b from ry)
  obtain⟨z,hd,xs,rel,dd⟩:=CX_ I.hok e
  refine call_meetsIn PySem.F.slot_dict_get dd.typeIs PySem.F.entry_dict_get (PySem.F.args_dict_get_2 _ _) (meetsH_dict_get (tupleKind (Ed X.prog X.w)) a b hd) ⟨tupleKind_room_in1 hu,k,xs,YN I.hok eb,dd,h _ _ (I.tok _) ?_⟩
  rw[l]
  exact (rel.val k).getD rfl
theorem Jx_  (hu:A.units+1<cLine)(I:Inv X pins σ H s)(g:DGet H a y o)(ry:RelV y u)(rd:RelV d r)(h:∀w' s',Inv X pins σ H s'->RelV (o.getD d) w'->Q w' s'):
  wpAny (model X.prog X.w) A (call (.builtin "dict.get") [.ref a,u,r]) Q E s:=by
 rcases g with ⟨kvs,k,e,ey,l⟩|⟨kvs,k,b,e,ey,eb,l⟩
 ·subst ey
  obtain⟨z,hd,vs,rel,dd⟩:=CW_ I.hok e
  refine call_meetsIn PySem.F.slot_dict_get dd.typeIs PySem.F.entry_dict_get (PySem.F.args_dict_get_3 _ _ _) (meets_dict_get_default (Ed X.prog X.w) a (Eo_ ry) hd r) ⟨_,dd.mapOf,h _ _ (I.tok _) ?_⟩
  rw[l]
  exact (rel.val k).getD rd
 ·subst ey
  cases (show u=Value.ref b from ry)
  obtain⟨z,hd,xs,rel,dd⟩:=CX_ I.hok e
  refine call_meetsIn PySem.F.slot_dict_get dd.typeIs PySem.F.entry_dict_get (PySem.F.args_dict_get_3 _ _ _) (meetsH_dict_get_default (tupleKind (Ed X.prog X.w)) a b hd r) ⟨tupleKind_room_in1 hu,k,xs,YN I.hok eb,dd,h _ _ (I.tok _) ?_⟩
  rw[l]
  exact (rel.val k).getD rd
end
noncomputable def GV_ (td ty:TE):TE:=fun σ H Q=>td σ H fun x H1=>∃a,x=.ref a/\IsD H1 a/\ty σ H1 fun y H2=>∃o,DGet H2 a y o/\Q (o.getD .non) H2
noncomputable def GW_ (td ty tx:TE):TE:=fun σ H Q=>td σ H fun x H1=>∃a,x=.ref a/\IsD H1 a/\ty σ H1 fun y H2=>tx σ H2 fun z H3=>∃o,DGet H3 a y o/\Q (o.getD z) H3
section
variable {X:Cx} {o e f:Expr} {apos cpos:Pos} {td ty tx:TE}
theorem Ci_ (hu:X.A.units+1<cLine)(ho:PE X o td)(he:PE X e ty)(m:M1 X o "get" apos e cpos):PE X (.Call (.Attribute o "get" apos) [e] [] cpos) (GV_ td ty):=by
 intro pins s σ H Q I h
 refine wpAny_Call_method m.base m.few m.line PySem.F.plainAttrs_dict PySem.F.slot_dict_get PySem.F.type_dict_get (thn (ho pins s σ H _ I h) fun u s1 ⟨x,H1,I1,rx,a,ex,d,q1⟩=>?_)
 subst ex
 obtain rfl:u=Value.ref a:=rx
 obtain⟨t1,t2,_⟩:=GU_ I1 d
 refine⟨t1,t2,?_⟩
 rw[m.trees]
 refine Calls.callWith_builtin rfl (Calls.evalArgs_plain (Calls.spliced_cons (thn (he pins s1 σ H1 _ I1 q1) fun iv s2 ⟨y,H2,I2,ry,ov,g,q2⟩=>Calls.spliced_nil ?_)))
 exact Jw_ hu I2 g ry fun w' s3 I3 rw'=>⟨_,H2,I3,rw',q2⟩
theorem FW_ (hu:X.A.units+1<cLine)(ho:PE X o td)(he:PE X e ty)(hf:PE X f tx)(m:M2 X o "get" apos e f cpos):PE X (.Call (.Attribute o "get" apos) [e,f] [] cpos) (GW_ td ty tx):=by
 intro pins s σ H Q I h
 refine wpAny_Call_method m.base m.few m.line PySem.F.plainAttrs_dict PySem.F.slot_dict_get PySem.F.type_dict_get (thn (ho pins s σ H _ I h) fun u s1 ⟨x,H1,I1,rx,a,ex,d,q1⟩=>?_)
 subst ex
 obtain rfl:u=Value.ref a:=rx
 obtain⟨t1,t2,_⟩:=GU_ I1 d
 refine⟨t1,t2,?_⟩
 rw[m.trees]
 refine Calls.callWith_builtin rfl (Calls.evalArgs_plain (Calls.spliced_cons (thn (he pins s1 σ H1 _ I1 q1) fun iv s2 ⟨y,H2,I2,ry,q2⟩ =>
  Calls.spliced_cons (thn (hf pins s2 σ H2 _ I2 q2) fun fv s3 ⟨z,H3,I3,rz,ov,g,q3⟩=>Calls.spliced_nil ?_))))
 exact Jx_ hu I3 g ry rz fun w' s4 I4 rw'=>⟨_,H3,I4,rw',q3⟩
end
end L2
namespace L2
open PySem PySem.Spec PyProof.Rows
noncomputable def clOf (env:Env):List (Str×NameKind)->List (Str×Addr)->List (Str×Addr)
 |[],acc=>acc
 | (n,k)::r,acc=>if (k == .free)=true then clOf env r ((n,(env.cells.lookup n).getD 0)::acc) else clOf env r acc
theorem V6   (h:∀p∈scope.names,p.2=.free->∃c,env.cells.lookup p.1=some c):closureFor scope env=pure (clOf env scope.names []):=by
 have go:∀(l:List (Str×NameKind)) (acc:List (Str×Addr)),(∀p∈l,p.2=.free->∃c,env.cells.lookup p.1=some c) ->
   (forIn l acc fun (x:Str×NameKind) (cs:List (Str×Addr))=>(if (x.2 == .free)=true then do let c <- cellOf env x.1;pure (ForInStep.yield ((x.1,c)::cs)) else pure (ForInStep.yield cs):Sem (ForInStep (List (Str×Addr)))))=(pure (clOf env l acc):Sem (List (Str×Addr))):=by
  intro l
  induction l with
  |nil=>intro acc _;rfl
  |cons p r ih=>
   intro acc hl
   obtain⟨n,k⟩:=p
   rw[List.forIn_cons]
   by_cases hk:(k == .free)=true
   ·obtain⟨c,hc⟩:=hl (n,k) List.mem_cons_self (by simpa using hk)
    have e1:cellOf env n=pure c:=by unfold cellOf;rw[hc]
    have ih':=ih ((n,c)::acc) fun q hq=>hl q (List.mem_cons_of_mem _ hq)
    show ((if (k == .free)=true then do let c <- cellOf env n;pure (ForInStep.yield ((n,c)::acc)) else pure (ForInStep.yield acc):Sem _) >>= _)=_
    rw[if_pos hk,e1]
    show (forIn r ((n,c)::acc) _:Sem _)=_
    rw[clOf,if_pos hk,hc]
    exact ih'
   ·have ih':=ih acc fun q hq=>hl q (List.mem_cons_of_mem _ hq)
    show ((if (k == .free)=true then do let c <- cellOf env n;pure (ForInStep.yield ((n,c)::acc)) else pure (ForInStep.yield acc):Sem _) >>= _)=_
    rw[if_neg hk]
    show (forIn r acc _:Sem _)=_
    rw[clOf,if_neg hk]
    exact ih'
 have e:=go scope.names [] h
 unfold closureFor
 show (forIn scope.names [] _ >>= fun cs=>pure cs:Sem _)=_
 have e2:(forIn scope.names [] (fun (x:Str×NameKind) (r:List (Str×Addr))=>(match x with
   | (name,kind)=>if (kind == .free)=true then do let c <- cellOf env name;pure (ForInStep.yield ((name,c)::r)) else do pure PUnit.unit;pure (ForInStep.yield r):Sem (ForInStep (List (Str×Addr))))))=(pure (clOf env scope.names []):Sem (List (Str×Addr))):=e
 exact congrArg (fun z=>z >>= fun cs=>pure cs) e2
theorem Ww {env:Env}:∀(l:List (Str×NameKind)) (acc:List (Str×Addr)),(∀p∈l,p.2=.free->∃c,env.cells.lookup p.1=some c)->(∀q∈acc,env.cells.lookup q.1=some q.2)->∀q∈clOf env l acc,env.cells.lookup q.1=some q.2
 |[],_,_,ha,q,hq=>ha q hq
 | (n,k)::r,acc,hl,ha,q,hq=>by
  unfold clOf at hq
  by_cases hk:(k == .free)=true
  ·rw[if_pos hk]at hq
   obtain⟨c,hc⟩:=hl (n,k) List.mem_cons_self (by simpa using hk)
   refine Ww r _ (fun p hp=>hl p (List.mem_cons_of_mem _ hp)) (fun p hp=>?_) q hq
   rcases List.mem_cons.mp hp with rfl|hp
   ·show env.cells.lookup n=some ((env.cells.lookup n).getD 0)
    rw[hc];rfl
   ·exact ha p hp
  ·rw[if_neg hk]at hq
   exact Ww r _ (fun p hp=>hl p (List.mem_cons_of_mem _ hp)) ha q hq
theorem Su {env:Env}:∀(l:List (Str×NameKind)) (acc:List (Str×Addr)) (x:Str),((x,NameKind.free)∈l \/ ∃c,(x,c)∈acc)->∃c,(x,c)∈clOf env l acc
 |[],_,_,h=>by
  rcases h with h|h
  ·cases h
  ·exact h
 | (n,k)::r,acc,x,h=>by
  unfold clOf
  by_cases hk:(k == .free)=true
  ·rw[if_pos hk]
   refine Su r _ x ?_
   rcases h with h|⟨c,h⟩
   ·rcases List.mem_cons.mp h with h|h
    ·cases h
     exact .inr ⟨_,List.mem_cons_self⟩
    ·exact .inl h
   ·exact .inr ⟨c,List.mem_cons_of_mem _ h⟩
  ·rw[if_neg hk]
   refine Su r _ x ?_
   rcases h with h|h
   ·rcases List.mem_cons.mp h with h|h
    ·cases h
     exact absurd rfl hk
    ·exact .inl h
   ·exact .inr h
theorem Gr {β:Type}:∀{l:List (Str×β)} {x:Str} {c:β},(x,c)∈l->∃c',l.lookup x=some c'
 |[],_,_,h=>by cases h
 | (n,d)::r,x,c,h=>by
  by_cases hx:(x==n)=true
  ·exact⟨d,by rw[List.lookup_cons,hx]⟩
  ·rcases List.mem_cons.mp h with h|h
   ·cases h;exact absurd (beq_self_eq_true _) hx
   ·obtain⟨c',e⟩:=Gr h
    exact⟨c',by rw[List.lookup_cons];simp only[Bool.not_eq_true]at hx;rw[hx];exact e⟩
noncomputable def relF (env:Env):Str×NameKind->Str×NameKind:=fun (n,k)=>if (k==NameKind.free&&env.scope.kind == .function&&env.kindOf n==some .cell) then (n,NameKind.cell) else (n,k)
theorem Wx    (h:(k==NameKind.free&&env.scope.kind == .function&&env.kindOf n==some .cell)=true):relF env (n,k)=(n,.cell):=if_pos h
theorem AN_    (h:¬ (k==NameKind.free&&env.scope.kind == .function&&env.kindOf n==some .cell)=true):relF env (n,k)=(n,k):=if_neg h
theorem Ll {env:Env}:∀{names:List (Str×NameKind)} {x:Str} {k:NameKind},(∀y∈names,y.2 ≠ .cell) ->
  (names.map (relF env)).lookup x=some k->(k=.cell\/k=.free)->(x,NameKind.free)∈names
 |[],_,_,_,h,_=>by simp at h
 | (n,k')::r,x,k,hc,h,hk=>by
  have ih := @Ll env r x k (fun y hy=>hc y (List.mem_cons_of_mem _ hy))
  rw[List.map_cons]at h
  by_cases hb:(k'==NameKind.free&&env.scope.kind == .function&&env.kindOf n==some .cell)=true
  ·rw[Wx hb,List.lookup_cons]at h
   cases hx:x==n with
   |true=>
    have e:x=n:=by simpa using hx
    subst e
    have e2:k'=.free:=by
     simp only[Bool.and_eq_true]at hb
     simpa using hb.1.1
    subst e2
    exact List.mem_cons_self
   |false=>
    rw[hx]at h
    exact List.mem_cons_of_mem _ (ih h hk)
  ·rw[AN_ hb,List.lookup_cons]at h
   cases hx:x==n with
   |true=>
    rw[hx]at h
    have e:x=n:=by simpa using hx
    subst e
    have e2:k'=k:=Option.some.inj h
    subst e2
    rcases hk with rfl|rfl
    ·exact absurd rfl (hc _ List.mem_cons_self)
    ·exact List.mem_cons_self
   |false=>
    rw[hx]at h
    exact List.mem_cons_of_mem _ (ih h hk)
theorem Rp {env:Env}:∀{names:List (Str×NameKind)} {x:Str},names.lookup x=some .free ->
  ∃k,(k=NameKind.cell\/k=NameKind.free)/\(names.map (relF env)).lookup x=some k
 |[],_,h=>by simp at h
 | (n,k')::r,x,h=>by
  have ih := @Rp env r x
  rw[List.lookup_cons]at h
  rw[List.map_cons]
  cases hx:x==n with
  |true=>
   rw[hx]at h
   have e2:k'=.free:=Option.some.inj h
   subst e2
   by_cases hb:((NameKind.free:NameKind)==NameKind.free&&env.scope.kind == .function&&env.kindOf n==some .cell)=true
   ·exact⟨.cell,.inl rfl,by rw[Wx hb,List.lookup_cons,hx]⟩
   ·exact⟨.free,.inr rfl,by rw[AN_ hb,List.lookup_cons,hx]⟩
  |false=>
   rw[hx]at h
   obtain⟨k,hk,e⟩:=ih h
   refine⟨k,hk,?_⟩
   by_cases hb:(k'==NameKind.free&&env.scope.kind == .function&&env.kindOf n==some .cell)=true
   ·rw[Wx hb,List.lookup_cons,hx];exact e
   ·rw[AN_ hb,List.lookup_cons,hx];exact e
end L2
namespace L2
open PySem PySem.Spec PyProof.Rows
section
variable {prog:Program} {w:World} {A:Around} {R:Result->Shared->Prop} {s:Shared}
noncomputable abbrev cpW (prog:Program)(w:World)(A:Around)(R:Result->Shared->Prop)(env:Env){α:Type}(m:Sem α)(Q:α->Shared->Prop):Shared->Prop:=wpAny (model prog w) A m Q (notedBy (model prog w) A env fun e t=>R (.error e) t)
theorem YO {elt target iter:Expr}    {it acc:Value}  (I:Nat->Shared->Prop)
  (turn:∀n s,I n s->cpW prog w A R env (pyNext it) (fun r s=>match r with
   |none=>R (.ok .next) s
   |some v=>cpW prog w A R env (letOwnedTupleGo target it v) (fun _=>cpW prog w A R env (assign target env v) fun _=>cpW prog w A R env (forIn ifs true fun c r=>if r=true then do let ok <- isTrue c env (eval c env);pure (ForInStep.yield ok) else pure (ForInStep.yield r)) fun ok s=>
     if ok=true then cpW prog w A R env (eval elt env) (fun x=>cpW prog w A R env (call (.builtin "list.append") [acc,x]) fun _ t=>∃m,m<n/\I m t) s else ∃m,m<n/\I m s) s) s)
  (n:Nat) (h:I n s):codeAny (model prog w) A (.compLoop (.ListComp elt [⟨target,iter,ifs,0⟩] scope pos) 0 it acc env) R s:=by
 have mono:∀{α β:Type} {m:Sem α} {f:α->Sem β} {Q:α->Shared->Prop} {Q':β->Shared->Prop} {s:Shared},cpW prog w A R env m Q s->(∀a t,Q a t->cpW prog w A R env (f a) Q' t)->cpW prog w A R env (m >>= f) Q' s:=fun h k=>wpAny_bind (wpAny_mono h k fun _ _ e=>e)
 refine codeAny_loop rfl I (fun n s hI=>wpAny_noted ?_) n h
 rw[compTurn_list]
 refine wpAny_bind (wpAny_standAt (mono (turn n s hI) fun r s1 h1=>?_))
 cases r with
 |none=>exact wpAny_pure h1
 |some v=>
  refine mono h1 fun _ _ h2=>mono h2 fun _ _ h3=>mono h3 fun ok s4 h4=>?_
  cases ok with
  |false=>exact wpAny_pure ⟨rfl,h4⟩
  |true=>exact wpAny_bind (mono h4 fun _ _ h5=>mono h5 fun _ _ h6=>wpAny_pure (wpAny_pure ⟨rfl,h6⟩))
end
noncomputable abbrev Cx.blk (X:Cx)(N:List Str)(sc:Scope)(C:Addr)(s₀:Shared)(H₀:Hp)(ex:List Addr):Cx:=
 {X with N:=N,env:=compEnvC sc (clOf X.env sc.names []) C X.env,outer:=X.stack,s₀:=s₀,H₀:=H₀,ex:=ex,fn:=fun _=>false,pn:=[],xe:=fun _ _=>False}
structure BlkSc (X:Cx)(sc:Scope):Prop where
 kind:sc.kind=.function
 nocell:∀y∈sc.names,y.2 ≠ .cell
 loc:∀y∈sc.names,y.2=.local->sc.names.lookup y.1=some .local
 free:∀y∈sc.names,y.2=.free->X.env.kindOf y.1=some .cell\/X.env.kindOf y.1=some .free
noncomputable abbrev Caps:=List (Str×Option Nat)
noncomputable def Caps.names (c:Caps):List Str:=c.map (·.1)
noncomputable def Caps.st (c:Caps)(σ:St):St:=c.map fun p=>p.2.bind fun j=>(σ[j]?).join
noncomputable def Lm (N:List Str)(sc:Scope):Caps->Prop
 |[]=>True
 | (_,none)::r=>Lm N sc r
 | (x,some j)::r=>(N[j]?=some x/\sc.names.lookup x=some .free)/\Lm N sc r
theorem Lm.get {N:List Str}{sc:Scope}:∀{c:Caps} {i:Nat} {x:Str} {j:Nat},Lm N sc c->c[i]?=some (x,some j)->N[j]?=some x/\sc.names.lookup x=some .free
 |[],_,_,_,_,h=>by simp at h
 | (y,none)::r,0,x,j,_,h=>by simp at h
 | (y,none)::r,i+1,x,j,ok,h=>Lm.get (c:=r) (i:=i) ok (by simpa using h)
 | (y,some k)::r,0,x,j,ok,h=>by
  simp only[List.getElem?_cons_zero,Option.some.injEq,Prod.mk.injEq]at h
  obtain⟨rfl,rfl⟩:=h
  exact ok.1
 | (y,some k)::r,i+1,x,j,ok,h=>Lm.get (c:=r) (i:=i) ok.2 (by simpa using h)
section
variable {X:Cx} {pins:List (Addr×Obj)} {σ:St} {H:Hp} {s:Shared} {sc:Scope} {fp:List Addr}
theorem SX (I:Inv X pins σ H s)(S:BlkSc X sc):∀p∈sc.names,p.2=.free->∃c,X.env.cells.lookup p.1=some c:=fun p hp e=>I.ok.has p.1 (S.free p hp e)
theorem F5 (I:Inv X pins σ H s)(S:BlkSc X sc)   (h:(clOf X.env sc.names []).lookup x=some c):X.env.cells.lookup x=some c:=
 Ww sc.names [] (SX I S) (fun q hq=>by cases hq) (x,c) (PySem.mem_of_lookup h)
theorem Jy_ {N:List Str}{C:Addr}(I:Inv X pins σ H s)(S:BlkSc X sc)(hC:s.heap.objs.size<=C)(hf:∀b∈fp,FpOk X pins H b)(ho:∀b∈fp,∃o,s.heap.get? b=some o):(X.blk N sc C s H fp).Ok where
 mod:=I.ok.mod
 kind:=S.kind
 glob:=I.ok.glob
 blt:=I.ok.blt
 above:=hC
 inj:=fun x y c h1 h2=>I.ok.inj x y c (F5 I S h1) (F5 I S h2)
 has:=fun x hx=>by
  have hx':(x,NameKind.free)∈sc.names:=by
   rcases hx with hx|hx
   ·exact Ll (env:=X.env) S.nocell hx (.inl rfl)
   ·exact Ll (env:=X.env) S.nocell hx (.inr rfl)
  obtain⟨c,hc⟩:=Su (env:=X.env) sc.names [] x (.inl hx')
  exact Gr hc
 cab:=fun x c h=>absurd (show false=true from h) Bool.false_ne_true
 hd:=I.ok.hd
 frames:=I.ok.frames
 stk:=.inl rfl
 exf:=fun b hb=>by
  obtain⟨o,ho⟩:=ho b hb
  refine⟨Nat.ne_of_lt (Nat.lt_of_lt_of_le (Heap.lt_size ho) hC),fun x c h=>(hf b hb).2.2.2.2.1 x c (F5 I S h)⟩
 bs:=I.bs
 bsz:=Nat.le_trans I.ok.bsz I.sz
 noex:=fun b o e hb=>by
  rcases (hf b hb).2.2.2.1 with z|z
  ·exact I.ok.noex b o e z
  ·exact absurd (Nat.lt_of_lt_of_le (Heap.lt_size (I.ok.bs b o e).1) z) (Nat.lt_irrefl _)
 exfs:=fun b hb z=>by
  rcases List.mem_cons.mp (I.stkSub b z) with e|e
  ·exact (hf b hb).2.1 e
  ·exact (hf b hb).2.2.1 e
 funs:=I.stack
 frf:=I.stkFree
theorem Er_ {c:Caps}{C:Addr}{s4:Shared}{m:Str->Option Value}(I:Inv X pins σ H s)(S:BlkSc X sc)(hc:Lm X.N sc c)(hC:s.heap.objs.size<=C)(hf:∀b∈fp,FpOk X pins H b)(ho:∀b∈fp,∃o,s.heap.get? b=some o)
  (hos:s4.os=s.os) (hb:s4.gens=s.gens) (hk:∀b o,s.heap.get? b=some o->s4.heap.get? b=some o) (hn:s4.heap.Ns C m):Inv (X.blk c.names sc C s H fp) [] (c.st σ) H s4 where
 ok:=Jy_ I S hC hf ho
 os:=hos
 bare:=by rw[hb];exact I.bare
 base:=Un.kept hk
 loc:=by
  refine⟨m,hn,fun i x v h1 h2 hv=>?_⟩
  have h1':(c.map (·.1))[i]?=some x:=h1
  have h2':(c.map fun p=>p.2.bind fun j=>(σ[j]?).join)[i]?=some (some v):=h2
  rw[List.getElem?_map]at h1' h2'
  cases e:c[i]? with
  |none=>rw[e]at h1';cases h1'
  |some p=>
   obtain⟨y,oj⟩:=p
   rw[e]at h1' h2'
   have e1:y=x:=Option.some.inj h1'
   subst e1
   have e2:(oj.bind fun j=>(σ[j]?).join)=some v:=Option.some.inj h2'
   cases oj with
   |none=>cases e2
   |some j=>
    have e3:(σ[j]?).join=some v:=e2
    have e4:σ[j]?=some (some v):=by
     cases q:σ[j]? with
     |none=>rw[q]at e3;cases e3
     |some z=>rw[q]at e3;exact congrArg some e3
    obtain⟨k1,k2⟩:=Lm.get hc e
    have k3:X.env.kindOf y=some .cell\/X.env.kindOf y=some .free:=S.free (y,.free) (PySem.mem_of_lookup k2) rfl
    have vis:Vis X.env.scope y:=by
     rcases k3 with k|k
     ·exact .inr (.inl k)
     ·exact .inr (.inr k)
    obtain⟨mX,hnX,hl⟩:=I.loc
    obtain⟨u,r,l⟩:=hl j y v k1 e4 vis
    refine⟨u,r,?_⟩
    rcases l with ⟨k,_⟩|⟨_,ca,hca,z⟩
    ·rcases k3 with k' | k'<;>(rw[k]at k';cases k')
    ·obtain⟨kd,hkd,ek⟩:=Rp (env:=X.env) k2
     have hk2:(compEnvC sc (clOf X.env sc.names []) C X.env).kindOf y=some kd:=ek
     obtain⟨c',hc'⟩:=Su (env:=X.env) sc.names [] y (.inl (PySem.mem_of_lookup k2))
     obtain⟨c2,hc2⟩:=Gr hc'
     have e5:=F5 I S hc2
     rw[hca]at e5
     have e6:ca=c2:=Option.some.inj e5
     subst e6
     refine .inr ⟨?_,ca,hc2,?_⟩
     ·rcases hkd with rfl|rfl
      ·exact .inl hk2
      ·exact .inr hk2
     ·obtain⟨oc,hoc,hd⟩:=z
      exact⟨oc,hk _ _ hoc,hd⟩
 cell:=fun x ca h=>by
  obtain⟨v,oc,hoc,hd⟩:=I.cell x ca (F5 I S h)
  exact⟨v,oc,hk _ _ hoc,hd⟩
 free:=I.hok.fresh hC
 freeC:=fun x ca h=>I.freeC x ca (F5 I S h)
 pin:=fun p hp=>absurd (show p∈([]:List (Addr×Obj)) from hp) (by simp)
 hok:=I.hok.kept hk
 len:=by show (c.map _).length=(c.map _).length;rw[List.length_map,List.length_map]
theorem HOk.track       (x:HOk P w H h)(hn:H a=none)(new:C5 P w (upd H a o) h a o):HOk P w (upd H a o) h:=fun b u e=>by
 by_cases hb:b=a
 ·subst hb;rw[Ae]at e;cases e;exact new
 ·rw[Ah hb]at e
  exact (x b u e).stay (fun c v _ q=>q) (fun c q=>by rw[Ah (B9 q hn)];exact q) fun c xs q=>by rw[Ah (B9 q hn)];exact q
theorem Un.track {fs ex:List Addr}{H H':Hp}{h h':Heap}{a:Addr}{o:HO}(u:Un fs ex H H' h h')(ha:h.objs.size<=a)(hn:H' a=none):Un fs ex H (upd H' a o) h h' where
 keep:=u.keep
 slot:=u.slot
 free:=fun b ob q n hx=>by rw[Ah (Nat.ne_of_lt (Nat.lt_of_lt_of_le (Heap.lt_size q) ha))];exact u.free b ob q n hx
 there:=u.there
 tups:=fun b xs q=>by rw[Ah (B9 (u.tups b xs q) hn)];exact u.tups b xs q
 frzs:=fun b ob xs q=>by rw[Ah (B9 (u.frzs b ob xs q) hn)];exact u.frzs b ob xs q
 tbls:=fun b ps q=>by
  obtain⟨more,e⟩:=u.tbls b ps q
  exact⟨more,by rw[Ah (B9 e hn)];exact e⟩
theorem Ik_ {c:Caps}{C D:Addr}{s':Shared}{σ':St}{H':Hp}{o:HO}(I:Inv X pins σ H s)(J:Inv (X.blk c.names sc C s H fp) [] σ' H' s')(hf:∀b∈fp,FpOk X pins H b)(hD:s.heap.objs.size<=D)(hn:H' D=none)
  (new:C5 X.prog X.w (upd H' D o) s'.heap D o):Inv X pins σ (upd H' D o) s':=by
 have u:Un (frs X.stack) fp H H' s.heap s'.heap:=J.base
 exact I.call' J.os (u.track hD hn) (J.hok.track hn new) J.bare fun b hb=>⟨(hf b hb).2.2.2.1,(hf b hb).2.1,(hf b hb).2.2.2.2.1,(hf b hb).2.2.2.2.2⟩
end
noncomputable def PF (X:Cx)(ifs:List Expr)(t:TT):Prop:=
 ∀(pins:List (Addr×Obj)) (s:Shared) (σ:St) (H:Hp) (Q:Bool->Hp->Prop),Inv X pins σ H s->t σ H Q ->
  wpAny (model X.prog X.w) X.A (forIn ifs true fun c r=>if r=true then do let ok <- isTrue c X.env (eval c X.env);pure (ForInStep.yield ok) else pure (ForInStep.yield r)) (TP X pins σ Q) X.xe s
noncomputable def Il_:TT:=fun _ H Q=>Q true H
theorem OC  : PF X [] Il_:=fun _ _ _ H _ I h=>wpAny_tests_nil ⟨H,I,h⟩
noncomputable def Im_ (wi:TI)(cp:Caps)(g:TG)(tc:TT)(te:TE):TE:=fun σ H Q=>wi σ H fun J H1=>∃W:Nat->Nat->List V->St->Hp->Prop,(∃m,W 0 m [] (cp.st σ) H1)/\∀i m ys σ' H',W i m ys σ' H' ->
 ys.length<sizeLine/\((J.stop i H'/\∀D,H' D=none->Q (.ref D) (upd H' D (.lst ys)))\/(J.go i H'/\∃N:List V->St->Hp->Prop,(∀zs σ2 H2,N zs σ2 H2->∃m',m'<m/\W (i+1) m' zs σ2 H2)/\∀x H2,J.yld i H' x H2->g x σ' H2 fun σ2 H3=>tc σ2 H3 fun b H4=>
  if b=true then te σ2 H4 fun v H5=>N (ys++[v]) σ2 H5 else N ys σ2 H4))
section
variable {X:Cx} {tg iter elt:Expr} {ifs:List Expr} {sc:Scope} {pos:Pos} {wi:TI} {cp:Caps} {g:TG} {tc:TT} {te:TE}
theorem YQ (hc:X.calm=true)(S:BlkSc X sc)(hcp:Lm X.N sc cp)
  (hg:∀C s₀ H₀ ex,PG (X.blk cp.names sc C s₀ H₀ ex) tg g) (hf:∀C s₀ H₀ ex,PF (X.blk cp.names sc C s₀ H₀ ex) ifs tc) (he:∀C s₀ H₀ ex,PE (X.blk cp.names sc C s₀ H₀ ex) elt te)
  {pins:List (Addr×Obj)} {σ:St} {H:Hp} {s:Shared} {J:It} {it:Addr} {fp:List Addr} {tn:Nat->Heap->Prop} {Q:VK} {RR:Value->Addr->Result->Shared->Prop} {E:Value->Shared->Prop}
  (I:Inv X pins σ H s) (T:Turn X.prog X.w X.K tg J fp it tn) (st:tn 0 s.heap) (fpo:∀b∈fp,FpOk X pins H b)
  (hw:∃W:Nat->Nat->List V->St->Hp->Prop,(∃m,W 0 m [] (cp.st σ) H)/\∀i m ys σ' H',W i m ys σ' H' ->
   ys.length<sizeLine/\((J.stop i H'/\∀D,H' D=none->Q (.ref D) (upd H' D (.lst ys)))\/(J.go i H'/\∃N:List V->St->Hp->Prop,(∀zs σ2 H2,N zs σ2 H2->∃m',m'<m/\W (i+1) m' zs σ2 H2)/\∀x H2,J.yld i H' x H2->g x σ' H2 fun σ2 H3=>tc σ2 H3 fun b H4=>
    if b=true then te σ2 H4 fun v H5=>N (ys++[v]) σ2 H5 else N ys σ2 H4)))
  (hR:∀D C s' H' (m:Str->Option Value),Inv X pins σ H' s'->Q (.ref D) H'->s'.heap.Ns C m->H' C=none->C≠X.env.locals->X.s₀.heap.objs.size<=C->(∀x c,X.env.cells.lookup x=some c->c≠C)->(∀p∈X.pn++pins,p.1≠C)->RR (.ref D) C (.ok .next) s'):
  wpAny (model X.prog X.w) X.A (newList []) (fun acc s₃=>wpAny (model X.prog X.w) X.A (newFunctionEnv sc X.env.globals (clOf X.env sc.names []) [] X.env.qual none .none (some X.env)) (fun cenv s₄=>
   codeAny (model X.prog X.w) X.A (.compStart (.ListComp elt [⟨tg,iter,ifs,0⟩] sc pos) 0 (.ref it) acc {cenv with scope:=relabel sc X.env}) (RR acc cenv.locals) s₄) E s₃) E s:=by
 obtain⟨W,⟨m0,w0⟩,turn⟩:=hw
 refine wpAny_newObj_type (wpAny_newFunctionEnv S.nocell (by intro y hy;simp at hy) (fun h₁ hns₁ hsb₁=>?_) S.kind)
 dsimp only at hns₁ hsb₁ ⊢
 generalize hH2:s.heap.push {cls:=.type "list",dict:=none,data:=.seq ([]:List Value).toArray}=H2 at hns₁ hsb₁ ⊢
 have hC:H2.objs.size=s.heap.objs.size+1:=by rw[<-hH2,Heap.size_push]
 have hDC:s.heap.objs.size≠H2.objs.size:=by rw[hC];exact Nat.ne_of_lt (Nat.lt_succ_self _)
 have hCle:s.heap.objs.size<=H2.objs.size:=by rw[hC];exact Nat.le_succ _
 have below:∀b,b<s.heap.objs.size->b≠H2.objs.size:=fun b hb=>by rw[hC];exact Nat.ne_of_lt (Nat.lt_succ_of_lt hb)
 have old:∀b o,s.heap.get? b=some o->h₁.get? b=some o:=fun b o e=>hsb₁.extBut b o (below b (Heap.lt_size e)) (Heap.get?_push_of_some _ (hH2 ▸ Heap.get?_push_of_some _ e))
 have hacc:h₁.get? s.heap.objs.size=some {cls:=.type "list",data:=.seq ([]:List Value).toArray 0}:=hsb₁.extBut _ _ hDC (Heap.get?_push_of_some _ (hH2 ▸ Heap.get?_push_size _ rfl))
 have hst₁:tn 0 h₁:=T.keep 0 _ _ st fun b _ o e=>old b o e
 have hobj:∀b∈fp,∃o,s.heap.get? b=some o:=fun b hb=>let ⟨o,e,_⟩:=T.obj 0 _ st b hb;⟨o,e⟩
 have J0:Inv (X.blk cp.names sc H2.objs.size s H fp) [] (cp.st σ) H {s with heap:=h₁,toks:=s.toks+([]:List (Str×Value)).length}:=Er_ I S hcp hCle fpo hobj rfl rfl old hns₁
 have nfs:∀b,s.heap.objs.size<=b->b∉frs X.stack:=fun b hb z=>by
  rcases List.mem_cons.mp (I.stkSub b z) with e|e
  ·exact absurd (Nat.lt_of_lt_of_le I.lt (by rw[<-e];exact hb)) (Nat.lt_irrefl _)
  ·exact I.nofs hb e
 have ncell:∀b,s.heap.objs.size<=b->∀x c,X.env.cells.lookup x=some c->c≠b:=fun b hb x c e z=>by
  obtain⟨v,q⟩:=I.cell x c e
  exact absurd (Nat.lt_of_lt_of_le q.lt (by rw[z];exact hb)) (Nat.lt_irrefl _)
 have fpb:∀{pins':List (Addr×Obj)} {H':Hp},(∀b∈fp,H' b=none)->(∀p∈pins',p.1∉fp)->∀b∈fp,FpOk (X.blk cp.names sc H2.objs.size s H fp) pins' H' b:=fun {pins' H'} hn hp b hb=>by
  obtain⟨o,e⟩:=hobj b hb
  refine⟨hn b hb,below b (Heap.lt_size e),fun z=>?_,.inl hb,fun x c h=>(fpo b hb).2.2.2.2.1 x c (F5 I S h),fun p hp' z=>?_⟩
  ·rcases List.mem_cons.mp (I.stkSub b z) with e|e
   ·exact (fpo b hb).2.1 e
   ·exact (fpo b hb).2.2.1 e
  ·have hp'':p∈pins':=by simpa using hp'
   exact hp p hp'' (by rw[z];exact hb)
 have loop:∀s₃:Shared,s₃={s with heap:=h₁,toks:=s.toks+([]:List (Str×Value)).length} ->
   codeAny (model X.prog X.w) X.A (.compLoop (.ListComp elt [⟨tg,iter,ifs,0⟩] sc pos) 0 (.ref it) (.ref s.heap.objs.size) (compEnvC sc (clOf X.env sc.names []) H2.objs.size X.env))
    (RR (.ref s.heap.objs.size) H2.objs.size) s₃:=by
  rintro s₃ rfl
  refine YO (fun n s'=>∃i σ' H' ys its k,Inv (X.blk cp.names sc H2.objs.size s H fp) [] σ' H' s'/\tn i s'.heap/\(∀b∈fp,H' b=none)/\H' s.heap.objs.size=none /\
   s'.heap.get? s.heap.objs.size=some {cls:=.type "list",data:=.seq its.toArray k}/\Vals ys its/\W i n ys σ' H') ?_ m0
   ⟨0,_,H,[],[],0,J0,hst₁,fun b hb=>(fpo b hb).1,I.hok.fresh (Nat.le_refl _),hacc,.nil,w0⟩
  rintro n s3 ⟨i,σ3,H3,ys,its,k,I3,st3,fr3,hD3,e3,rv,w3⟩
  obtain⟨hz,tr⟩:=turn i n ys σ3 H3 w3
  have hlen:=rv.length
  -- the accumulator stands still while anything else runs
  have dpin:∀p ∈ [(s.heap.objs.size,({cls:=.type "list",data:=.seq its.toArray k}:Obj))],p.1∉fp:=fun p hp z=>by
   have e:p=_:=List.mem_singleton.mp hp
   subst e
   obtain⟨o,e⟩:=hobj _ z
   exact absurd (Heap.lt_size e) (Nat.lt_irrefl _)
  have I3':Inv (X.blk cp.names sc H2.objs.size s H fp) [(s.heap.objs.size,({cls:=.type "list",data:=.seq its.toArray k}:Obj))] σ3 H3 s3:=I3.pins_of fun p hp=>by
   have e:p=_:=List.mem_singleton.mp hp
   subst e
   exact⟨e3,hD3,hDC,nfs _ (Nat.le_refl _),fun v z=>by cases z⟩
  have stat:∀b∈fp,FpOk (X.blk cp.names sc H2.objs.size s H fp) [(s.heap.objs.size,({cls:=.type "list",data:=.seq its.toArray k}:Obj))] H3 b:=fpb fr3 dpin
  rcases tr with ⟨stop,qn⟩|⟨go,N,hN,step⟩
  ·refine thn (T.done (X.blk cp.names sc H2.objs.size s H fp) rfl rfl rfl hc i _ s3 σ3 H3 _ I3' stat st3 stop) fun r s4 ⟨hr,I4⟩=>?_
   subst hr
   obtain⟨e4,n4,_⟩:=I4.pin (s.heap.objs.size,({cls:=.type "list",data:=.seq its.toArray k}:Obj)) (by simp)
   have new:C5 X.prog X.w (upd H3 s.heap.objs.size (.lst ys)) s4.heap s.heap.objs.size (.lst ys):=⟨Nat.le_of_lt hz,its,k,rv,e4⟩
   obtain⟨mC,hnC,_⟩:=I4.loc
   have I4':Inv (X.blk cp.names sc H2.objs.size s H fp) [] σ3 H3 s4:=I4.pins_of fun p hp=>by cases hp
   have I5:=Ik_ I I4' fpo (Nat.le_refl _) n4 new
   refine hR _ _ s4 _ mC I5 (qn _ n4) hnC ?_ (Nat.ne_of_gt (Nat.lt_of_lt_of_le I.lt hCle)) (Nat.le_trans I.sz hCle) (ncell _ hCle) fun p hp z=>?_
   ·rw[Ah (Ne.symm hDC)];exact I4.free
   ·exact absurd (Nat.lt_of_lt_of_le (Heap.lt_size (I.pin p hp).1) (by rw[z];exact hCle)) (Nat.lt_irrefl _)
  ·refine thn (T.item (X.blk cp.names sc H2.objs.size s H fp) rfl rfl rfl hc i _ s3 σ3 H3 _ I3' stat st3 go) fun r s4 ⟨u,hr,h4⟩=>?_
   subst hr
   refine thn h4 fun _ s5 ⟨x,H5,I5,r5,y5,st5,fr5⟩=>?_
   have I5':=I5.pinned (fpb fr5 dpin) (T.obj _ _ st5)
   have fin:∀{σ7:St} {H7:Hp} {s7:Shared},Inv (X.blk cp.names sc H2.objs.size s H fp) ([(s.heap.objs.size,({cls:=.type "list",data:=.seq its.toArray k}:Obj))]++YD fp s5.heap) σ7 H7 s7 ->
     s7.heap.get? s.heap.objs.size=some {cls:=.type "list",data:=.seq its.toArray k}/\H7 s.heap.objs.size=none/\(∀b∈fp,H7 b=none)/\∀b∈fp,∀o,s5.heap.get? b=some o->s7.heap.get? b=some o:=fun {σ7 H7 s7} I7=>by
    obtain⟨e7,n7,_⟩:=I7.pin (s.heap.objs.size,({cls:=.type "list",data:=.seq its.toArray k}:Obj)) (by simp)
    refine⟨e7,n7,fun b hb=>?_,fun b hb o e=>?_⟩
    ·obtain⟨o,e,_⟩:=T.obj _ _ st5 b hb
     exact (I7.pin (b,o) (List.mem_append_right _ (List.mem_append_right _ (MX hb e)))).2.1
    ·exact (I7.pin (b,o) (List.mem_append_right _ (List.mem_append_right _ (MX hb e)))).1
   refine wpAny_mono (hg _ _ _ _ _ s5 σ3 H5 x u _ I5' r5 (step x H5 y5)) (fun _ s6 ⟨σ6,H6,I6,q6⟩=>?_) fun _ _ z=>False.elim z
   refine wpAny_mono (hf _ _ _ _ _ s6 σ6 H6 _ I6 q6) (fun ok s7 ⟨H7,I7,q7⟩=>?_) fun _ _ z=>False.elim z
   cases ok with
   |false=>
    rw[if_neg Bool.false_ne_true]
    rw[if_neg Bool.false_ne_true]at q7
    obtain⟨m',hm,w7⟩:=hN _ _ _ q7
    obtain⟨e7,n7,fr7,k7⟩:=fin I7
    exact⟨m',hm,i+1,σ6,H7,ys,its,k,I7.pins_of (fun p hp=>by cases hp),T.keep _ _ _ st5 k7,fr7,n7,e7,rv,w7⟩
   |true=>
    rw[if_pos rfl]
    rw[if_pos rfl]at q7
    refine wpAny_mono (he _ _ _ _ _ s7 σ6 H7 _ I7 q7) (fun v s8 ⟨y,H8,I8,r8,q8⟩=>?_) fun _ _ z=>False.elim z
    obtain⟨m',hm,w8⟩:=hN _ _ _ q8
    obtain⟨e8,n8,fr8,k8⟩:=fin I8
    refine call_meets F.slot_list_append ⟨_,e8,rfl⟩ F.entry_list_append (F.args_list_append_2 _ _) (PySem.list_append s.heap.objs.size its.toArray k v (by rw[List.size_toArray];lia)) ⟨e8,?_⟩
    obtain⟨k',q⟩:∃k',(s8.heap.update s.heap.objs.size (Obj.mapSeq fun x=>x.push v)).get? s.heap.objs.size=some {cls:=.type "list",data:=.seq (its++[v]).toArray k' }:=⟨_,by
     have q:=PySem.IsL.update e8 fun x=>x.push v
     have e:(its++[v]).toArray=its.toArray.push v:=by simp
     rw[e]
     exact q⟩
    have I8':Inv (X.blk cp.names sc H2.objs.size s H fp) [] σ6 H8 s8:=I8.pins_of fun p hp=>by cases hp
    have I9:Inv (X.blk cp.names sc H2.objs.size s H fp) [] σ6 H8 {s8 with heap:=s8.heap.update s.heap.objs.size (Obj.mapSeq fun x=>x.push v),toks:=s8.toks}:=
     I8'.turned (it:=s.heap.objs.size) (fun b o hb e=>(Heap.get?_update_other _ _ (Ne.symm hb)).trans e) n8 hDC (.inr (Nat.le_refl _)) (fun x c e=>ncell _ (Nat.le_refl _) x c (F5 I S e)) (fun p hp=>by cases hp)
    refine⟨m',hm,i+1,σ6,H8,ys++[y],its++[v],k',I9,T.keep (i+1) s5.heap _ st5 (fun b hb o e=>?_),fr8,n8,q,rv.append (.cons r8 .nil),w8⟩
    ·refine (Heap.get?_update_other _ _ ?_).trans (k8 b hb o e)
     intro z
     obtain⟨ob,eb⟩:=hobj b hb
     exact absurd (Heap.lt_size eb) (by rw[<-z];exact Nat.lt_irrefl _)
 exact codeAny_compStart_list (loop _ rfl) (T.self _ 0 _ _ _ hst₁ (loop _ rfl))
theorem Ln (hc:X.calm=true)(S:BlkSc X sc)(hcp:Lm X.N sc cp)(hi:PI X tg iter wi)
  (hg:∀C s₀ H₀ ex,PG (X.blk cp.names sc C s₀ H₀ ex) tg g) (hf:∀C s₀ H₀ ex,PF (X.blk cp.names sc C s₀ H₀ ex) ifs tc) (he:∀C s₀ H₀ ex,PE (X.blk cp.names sc C s₀ H₀ ex) elt te)
  (hs:∀x,foldedSetIterable iter X.env x=pure x:=by intro _;rfl):PE X (.ListComp elt [⟨tg,iter,ifs,0⟩] sc pos) (Im_ wi cp g tc te):=by
 intro pins s σ H Q I h
 rw[eval_ListComp]
 refine wpAny_comprehension_free (use:=none) rfl hs (V6 (SX I S)) S.kind S.loc (thn (hi pins s σ H _ I h) fun xv s₁ h₁=>thn h₁ fun itv s₂ h₂=>?_)
 obtain⟨it,fp,tn,J,H2,e,I2,T,st2,f2,hw⟩:=h₂
 subst e
 refine YQ (RR:=fun acc C=>compPost (model X.prog X.w) X.A X.xe none (EP X pins σ Q) acc C) hc S hcp hg hf he I2 T st2 f2 hw ?_
 intro D C s' H' m I' q hn hC hL hz hcl hp
 exact⟨m,hn,fun h' hs'=>⟨.ref D,H',I'.turned (t':=s'.toks) (it:=C) (fun b o hb e=>hs'.extBut b o hb e) hC hL (.inr hz) hcl hp,rfl,q⟩⟩
theorem In_    (hN:X.N.Nodup)(hi:X.N[i]?=some x)(hx:X.env.scope.names.lookup x=some .local)(hc:X.calm=true)(S:BlkSc X sc)(hcp:Lm X.N sc cp)(hit:PI X tg iter wi)
  (hg:∀C s₀ H₀ ex,PG (X.blk cp.names sc C s₀ H₀ ex) tg g) (hf:∀C s₀ H₀ ex,PF (X.blk cp.names sc C s₀ H₀ ex) ifs tc) (he:∀C s₀ H₀ ex,PE (X.blk cp.names sc C s₀ H₀ ex) elt te)
  (hsw:swapsWith (.ListComp elt [⟨tg,iter,ifs,0⟩] sc pos) (some (.Name x px)) spos.line X.env=pure true:=by rfl)
  (hs:∀x,foldedSetIterable iter X.env x=pure x:=by intro _;rfl):PS X (.Assign [.Name x px] (.ListComp elt [⟨tg,iter,ifs,0⟩] sc pos) spos) (tAsg (Im_ wi cp g tc te) (AG_ i)):=by
 intro pins s σ H D I h
 rw[exec_Assign_Name_used _ _ _ _ hsw]
 refine wpAny_bind (wpAny_standAt (wpAny_bind ?_))
 show wpAny _ X.A (do let _ <- comprehension (.ListComp elt [⟨tg,iter,ifs,0⟩] sc pos) sc X.env _ (newList []) false (eval iter X.env) (some (assign (.Name x px) X.env))) _ _ s
 refine wpAny_bind (wpAny_mono (wpAny_comprehension_free (use:=some (assign (.Name x px) X.env)) (Q:=fun _ s'=>SP X pins D .next s') rfl hs (V6 (SX I S)) S.kind S.loc
  (thn (hit pins s σ H _ I h) fun xv s₁ h₁=>thn h₁ fun itv s₂ h₂=>?_)) (fun _ s' hq=>wpAny_pure (wpAny_pure hq)) fun _ _ e=>e)
 obtain⟨it,fp,tn,J,H2,e,I2,T,st2,f2,hw⟩:=h₂
 subst e
 refine YQ (RR:=fun acc C=>compPost (model X.prog X.w) X.A X.xe (some (assign (.Name x px) X.env)) (fun _ s'=>SP X pins D .next s') acc C) (Q:=fun v H1=>AG_ i v σ H1 D.nx) hc S hcp hg hf he I2 T st2 f2 hw ?_
 intro Dl C s' H' m I' q hn hC hL hz hcl hp
 show wpAny _ X.A (assign (.Name x px) X.env (.ref Dl)) _ _ _
 refine wpAny_assign_Name (YB I' hN hi (.inl hx) (v:=.ref Dl) rfl (fun s'' I'' ⟨a,hsb,ha⟩=>?_) (.inr hx))
 have hne:C≠a:=by
  rcases ha with rfl|ha
  ·exact hL
  ·exact fun z=>hcl _ _ ha z.symm
 refine⟨m,hn.sameBut hsb hne,fun h' hs'=>⟨_,H',I''.turned (t':=s''.toks) (it:=C) (fun b o hb e=>hs'.extBut b o hb e) hC hL (.inr hz) hcl hp,q⟩⟩
end
theorem Es_ {K:PySem.W.Frag}{a:Addr}{xs:List V}{g:TG}{tc:TT}{te:TE}{Q:VK}{σ:St}{H:Hp}(Pv:Nat->List V->St->Hp->Prop)(h0:Pv 0 [] σ H)(hz:xs.length<sizeLine)
  (hl:∀i ys σ H,i<=xs.length->Pv i ys σ H->SqL K H a xs/\ys.length<=i)
  (hs:∀i x ys σ H,xs[i]?=some x->Pv i ys σ H->g x σ H fun σ2 H2=>tc σ2 H2 fun b H3=>if b=true then te σ2 H3 fun v H4=>Pv (i+1) (ys++[v]) σ2 H4 else Pv (i+1) ys σ2 H3)
  (hd:∀ys σ H,Pv xs.length ys σ H->∀D,H D=none->Q (.ref D) (upd H D (.lst ys))):
  ∃W:Nat->Nat->List V->St->Hp->Prop,(∃m,W 0 m [] σ H)/\∀i m ys σ' H',W i m ys σ' H' ->
   ys.length<sizeLine/\(((Itl K a).stop i H'/\∀D,H' D=none->Q (.ref D) (upd H' D (.lst ys)))\/((Itl K a).go i H'/\∃N:List V->St->Hp->Prop,(∀zs σ2 H2,N zs σ2 H2->∃m',m'<m/\W (i+1) m' zs σ2 H2)/\∀x H2,(Itl K a).yld i H' x H2->g x σ' H2 fun σ2 H3=>tc σ2 H3 fun b H4=>
    if b=true then te σ2 H4 fun v H5=>N (ys++[v]) σ2 H5 else N ys σ2 H4)):=by
 refine⟨fun i m ys σ H=>m=xs.length-i/\i<=xs.length/\Pv i ys σ H,⟨xs.length,by simp,Nat.zero_le _,h0⟩,?_⟩
 rintro i m ys σ H ⟨rfl,hi,p⟩
 obtain⟨q,ly⟩:=hl i ys σ H hi p
 refine⟨by lia,?_⟩
 by_cases hlt:i<xs.length
 ·refine .inr ⟨⟨xs,xs[i],q,by simp[hlt]⟩,Pv (i+1),fun zs σ' H' p'=>⟨xs.length-(i+1),by lia,rfl,hlt,p'⟩,fun x H' y=>?_⟩
  obtain⟨e,y⟩:=y
  subst e
  exact hs i x ys σ _ (y xs q) p
 ·have e:i=xs.length:=by lia
  subst e
  exact .inl ⟨⟨xs,q,Nat.le_refl _⟩,hd ys σ H p⟩
theorem FX_ {K:PySem.W.Frag}{a:Addr}{xs:List V}{g:TG}{tc:TT}{te:TE}{Q:VK}{σ:St}{H:Hp}(Pv:Nat->List V->St->Hp->Prop)(h0:Pv 0 [] σ H)(hz:xs.length<sizeLine)
  (hl:∀i ys σ H,i<=xs.length->Pv i ys σ H->SqT K H a xs/\ys.length<=i)
  (hs:∀i x ys σ H,xs[i]?=some x->Pv i ys σ H->g x σ H fun σ2 H2=>tc σ2 H2 fun b H3=>if b=true then te σ2 H3 fun v H4=>Pv (i+1) (ys++[v]) σ2 H4 else Pv (i+1) ys σ2 H3)
  (hd:∀ys σ H,Pv xs.length ys σ H->∀D,H D=none->Q (.ref D) (upd H D (.lst ys))):
  ∃W:Nat->Nat->List V->St->Hp->Prop,(∃m,W 0 m [] σ H)/\∀i m ys σ' H',W i m ys σ' H' ->
   ys.length<sizeLine/\(((Itt K a).stop i H'/\∀D,H' D=none->Q (.ref D) (upd H' D (.lst ys)))\/((Itt K a).go i H'/\∃N:List V->St->Hp->Prop,(∀zs σ2 H2,N zs σ2 H2->∃m',m'<m/\W (i+1) m' zs σ2 H2)/\∀x H2,(Itt K a).yld i H' x H2->g x σ' H2 fun σ2 H3=>tc σ2 H3 fun b H4=>
    if b=true then te σ2 H4 fun v H5=>N (ys++[v]) σ2 H5 else N ys σ2 H4)):=by
 refine⟨fun i m ys σ H=>m=xs.length-i/\i<=xs.length/\Pv i ys σ H,⟨xs.length,by simp,Nat.zero_le _,h0⟩,?_⟩
 rintro i m ys σ H ⟨rfl,hi,p⟩
 obtain⟨q,ly⟩:=hl i ys σ H hi p
 refine⟨by lia,?_⟩
 by_cases hlt:i<xs.length
 ·refine .inr ⟨⟨xs,xs[i],q,by simp[hlt]⟩,Pv (i+1),fun zs σ' H' p'=>⟨xs.length-(i+1),by lia,rfl,hlt,p'⟩,fun x H' y=>?_⟩
  obtain⟨e,y⟩:=y
  subst e
  exact hs i x ys σ _ (y xs q) p
 ·have e:i=xs.length:=by lia
  subst e
  exact .inl ⟨⟨xs,q,Nat.le_refl _⟩,hd ys σ H p⟩
theorem CY_ {lo:Int}{n:Nat}{g:TG}{tc:TT}{te:TE}{Q:VK}{σ:St}{H:Hp}(Pv:Nat->List V->St->Hp->Prop)(h0:Pv 0 [] σ H)(hz:n<sizeLine)
  (hl:∀i ys σ H,i<=n->Pv i ys σ H->ys.length<=i)
  (hs:∀i ys σ H,i<n->Pv i ys σ H->g (.int (lo+i)) σ H fun σ2 H2=>tc σ2 H2 fun b H3=>if b=true then te σ2 H3 fun v H4=>Pv (i+1) (ys++[v]) σ2 H4 else Pv (i+1) ys σ2 H3)
  (hd:∀ys σ H,Pv n ys σ H->∀D,H D=none->Q (.ref D) (upd H D (.lst ys))):
  ∃W:Nat->Nat->List V->St->Hp->Prop,(∃m,W 0 m [] σ H)/\∀i m ys σ' H',W i m ys σ' H' ->
   ys.length<sizeLine/\(((Itr lo n).stop i H'/\∀D,H' D=none->Q (.ref D) (upd H' D (.lst ys)))\/((Itr lo n).go i H'/\∃N:List V->St->Hp->Prop,(∀zs σ2 H2,N zs σ2 H2->∃m',m'<m/\W (i+1) m' zs σ2 H2)/\∀x H2,(Itr lo n).yld i H' x H2->g x σ' H2 fun σ2 H3=>tc σ2 H3 fun b H4=>
    if b=true then te σ2 H4 fun v H5=>N (ys++[v]) σ2 H5 else N ys σ2 H4)):=by
 refine⟨fun i m ys σ H=>m=n-i/\i<=n/\Pv i ys σ H,⟨n,by simp,Nat.zero_le _,h0⟩,?_⟩
 rintro i m ys σ H ⟨rfl,hi,p⟩
 have ly:=hl i ys σ H hi p
 refine⟨by lia,?_⟩
 by_cases hlt:i<n
 ·refine .inr ⟨hlt,Pv (i+1),fun zs σ' H' p'=>⟨n-(i+1),by lia,rfl,hlt,p'⟩,fun x H' y=>?_⟩
  obtain⟨e,y⟩:=y
  subst e y
  exact hs i ys σ _ hlt p
 ·have e:i=n:=by lia
  subst e
  exact .inl ⟨Nat.le_refl _,hd ys σ H p⟩
end L2
namespace L2
open PySem PySem.Spec PyProof.Rows
section
variable {X:Cx}
theorem Wy {bs:List Bool}{its:List Value}(r:Vals (bs.map V.bl) its){i:Nat}{v:Value}(h:its[i]?=some v):∃b,bs[i]?=some b/\v=.bool b:=by
 have hi:i<its.length:=(List.getElem?_eq_some_iff.mp h).1
 have hl:=r.length
 rw[List.length_map]at hl
 obtain⟨u,hu,ru⟩:=r.get (i:=i) (x:=V.bl bs[i]) (by rw[List.getElem?_map];simp[show i<bs.length by lia])
 rw[h]at hu
 cases hu
 exact⟨bs[i],by simp[show i<bs.length by lia],ru⟩
theorem Jz_ (bs:List Bool):(List.range bs.length).map (fun i=>bs.getD i false)=bs:=
 List.ext_getElem (by simp) fun i _ h=>by simp[h]
theorem Et_ {bs:List Bool}:(List.range bs.length).all (fun i=>bs.getD i false)=bs.all id:=by
 have e:=congrArg (fun l=>l.all id) (Jz_ bs)
 rw[List.all_map]at e;exact e
theorem AO_ {bs:List Bool}{its:List Value}{A:Around}{P:Program}{w:World}(r:Vals (bs.map V.bl) its):TruthOf P w A (fun i v=>its.toArray[i]?=some v) (fun i=>bs.getD i false):=by
 intro i v s Q E hv hq
 obtain⟨b,hb,e⟩:=Wy r (by simpa using hv)
 subst e
 refine wpAny_truthy_bool ?_
 have e:bs.getD i false=b:=by rw[List.getD_eq_getElem?_getD,hb];rfl
 have hq':Q (bs.getD i false) s:=hq
 rw[e]at hq'
 exact hq'
theorem FY_ (hc:X.calm=true):NR X (.builtin "all") (fun xs H Q=>∃(p:Addr) (bs:List Bool),xs=[.ref p]/\SqL X.K H p (bs.map V.bl)/\Q (.bl (bs.all id)) H):=by
 intro pins s σ H xs us Q I r h
 obtain⟨p,bs,rfl,hq,q⟩:=h
 obtain⟨u,rfl,ru⟩:=vals1 r
 cases ru
 obtain⟨its,rv,pl,hz⟩:=I.list hq
 have hlen:=rv.length
 rw[List.length_map]at hlen
 have hh:X.A.in1.handled=none:=I.ok.hd hc
 obtain⟨o,ho,_⟩:=id pl.isList
 have hne:p≠s.heap.objs.size:=Nat.ne_of_lt (Heap.lt_size ho)
 refine call_all_walk (wpAny_pyIter_list pl.isList ?_)
 refine⟨s.heap.objs.size,_,_,its.toArray.size,_,_,fun i=>bs.getD i false,rfl,Walks.list hh _ p hne its.toArray,⟨⟨_,Heap.get?_push_size _ rfl,rfl,rfl⟩,pl.isList.at fun o e=>Heap.get?_push_of_some _ e⟩,AO_ rv,fun h' tk hk=>?_⟩
 refine⟨.bl (bs.all id),H,I.kept (t':=tk) fun b o e=>hk b o ?_ (Heap.get?_push_of_some _ e),?_,q⟩
 ·intro hb
  have e':b=s.heap.objs.size:=by simpa using hb
  exact absurd (Heap.lt_size e) (by rw[e'];exact Nat.lt_irrefl _)
 ·rw[List.size_toArray,<-hlen,Et_];rfl
theorem Iv:NR X (.builtin "isinstance") (fun xs H Q=>∃x c cv t b,xs=[x,c]/\TyOf X.K H x t/\(∀u,RelV c u->u=cv)/\PySem.W.kitOne X.K t cv=some b/\Q (.bl b) H):=by
 intro pins s σ H xs us Q I r h
 obtain⟨x,c,cv,t,b,rfl,ty,hc,hk,q⟩:=h
 obtain⟨u,w',rfl,rx,rc⟩:=vals2 r
 rw[hc _ rc]
 exact Ee_ I rx ty hk fun tk=>⟨.bl b,H,I.tok tk,rfl,q⟩
noncomputable def EqD (K:PySem.W.Frag)(H:Hp):Nat->V->V->Bool->Prop
 |0,x,y,b=>Ws x=true/\Ws y=true/\b=eqV x y
 |n+1,x,y,b=>(Ws x=true/\Ws y=true/\b=eqV x y) \/ ∃a c xs ys,x=.ref a/\y=.ref c/\((SqL K H a xs/\SqL K H c ys)\/(SqT K H a xs/\SqT K H c ys)) /\
   ∃e:Nat->Bool,(∀i x y,xs[i]?=some x->ys[i]?=some y->EqD K H n x y (e i))/\b=(decide (xs.length=ys.length)&&(List.range (min xs.length ys.length)).all e)
theorem in1_units (A:Around):A.in1.units=A.units+1:=rfl
theorem Cj_  (h:Ws x=true):eqV x x=true:=by
 cases x<;>first|rfl|(simp[eqV];done)|exact absurd (show false=true from h) Bool.false_ne_true
theorem EqD.self     (I:Inv X pins σ H s):∀(n:Nat) {x:V} {b:Bool},EqD X.K H n x x b->b=true:=by
 intro n
 induction n with
 |zero=>
  rintro x b ⟨fx,_,rfl⟩
  exact Cj_ fx
 |succ n ih=>
  rintro x b (⟨fx,_,rfl⟩|⟨a,c,xs,ys,rfl,e2,hq,e,he,rfl⟩)
  ·exact Cj_ fx
  ·cases e2
   have exy:xs=ys:=by
    rcases hq with ⟨h1,h2⟩|⟨h1,h2⟩
    ·exact I.list_inj h1 h2
    ·exact I.tuple_inj h1 h2
   subst exy
   simp only[decide_true,Bool.true_and,Nat.min_self,List.all_eq_true,List.mem_range]
   intro i hi
   exact ih (he i xs[i] xs[i] (by simp[hi]) (by simp[hi]))
theorem Eu_   : ((List.range (min n m)).all e&&n==m)=(decide (n=m)&&(List.range (min n m)).all e):=by
 rw[Bool.and_comm]
 congr 1
theorem EqD.at     (I:Inv X pins σ H s):∀(n:Nat) (A:Around) {x y:V} {u v:Value} {b:Bool},A.units+n<cLine->RelV x u->RelV y v->EqD X.K H n x y b ->
  SeqAt.EqAt A s u v b/\∀a c,x=.ref a->y=.ref c->SeqAt.RcAt A s u v b:=by
 intro n
 induction n with
 |zero=>
  intro A x y u v b hu rx ry h
  obtain⟨fx,fy,rfl⟩:=h
  refine⟨GR_ rx ry fx fy,?_⟩
  rintro a c rfl rfl
  exact absurd (show false=true from fx) Bool.false_ne_true
 |succ n ih=>
  intro A x y u v b hu rx ry h
  have hself:=h
  rcases h with ⟨fx,fy,rfl⟩|⟨a,c,xs,ys,rfl,rfl,hq,e,he,rfl⟩
  ·refine⟨GR_ rx ry fx fy,?_⟩
   rintro a c rfl rfl
   exact absurd (show false=true from fx) Bool.false_ne_true
  ·cases rx
   cases ry
   have key:∀(its its2:List Value),Vals xs its->Vals ys its2->∀j (h1:j<its.toArray.size) (h2:j<its2.toArray.size),SeqAt.EqAt A.in1 s its.toArray[j] its2.toArray[j] (e j):=fun its its2 r1 r2 j h1 h2=>by
    have l1:=r1.length
    have l2:=r2.length
    rw[List.size_toArray]at h1 h2
    obtain⟨u1,g1,q1⟩:=r1.get (i:=j) (x:=xs[j]'s!"") (by simp[show j<xs.length by lia])
    obtain⟨u2,g2,q2⟩:=r2.get (i:=j) (x:=ys[j]'s!"") (by simp[show j<ys.length by lia])
    have k1:its.toArray[j]'(by rw[List.size_toArray];exact h1)=u1:=by
     have:=(List.getElem?_eq_some_iff.mp g1).2
     simpa using this
    have k2:its2.toArray[j]'(by rw[List.size_toArray];exact h2)=u2:=by
     have:=(List.getElem?_eq_some_iff.mp g2).2
     simpa using this
    rw[k1,k2]
    exact (ih A.in1 (by rw[in1_units];lia) q1 q2 (he j _ _ (by simp[show j<xs.length by lia]) (by simp[show j<ys.length by lia]))).1
   have rc:SeqAt.RcAt A s (.ref a) (.ref c) (decide (xs.length=ys.length)&&(List.range (min xs.length ys.length)).all e):=by
    rcases hq with ⟨h1,h2⟩|⟨h1,h2⟩
    ·obtain⟨its,r1,p1,_⟩:=I.list h1
     obtain⟨its2,r2,p2,_⟩:=I.list h2
     have l1:=r1.length
     have l2:=r2.length
     by_cases hl:xs.length=ys.length
     ·have:=SeqAt.RcAt.lists (e:=e) p1.isList p2.isList (by rw[List.size_toArray,List.size_toArray];lia) s!"" (key its its2 r1 r2)
      rw[List.size_toArray,<-l1]at this
      rw[decide_eq_true hl,Bool.true_and,<-hl,Nat.min_self]
      exact this
     ·rw[decide_eq_false hl,Bool.false_and]
      exact SeqAt.RcAt.lists_lengths p1.isList p2.isList (by rw[List.size_toArray,List.size_toArray];simp;lia) s!""
    ·obtain⟨its,r1,p1,_⟩:=I.tuple h1
     obtain⟨its2,r2,p2,_⟩:=I.tuple h2
     have l1:=r1.length
     have l2:=r2.length
     have:=SeqAt.RcAt.tuples (e:=e) (show s.heap.IsTuple a its.toArray from p1) (show s.heap.IsTuple c its2.toArray from p2) s!"" (key its its2 r1 r2)
     rw[List.size_toArray,List.size_toArray,<-l1,<-l2,Eu_]at this
     exact this
   refine⟨?_,fun a' c' _ _=>rc⟩
   by_cases hac:a=c
   ·subst hac
    rw[EqD.self I (n+1) hself]
    exact SeqAt.EqAt.same _
   ·exact SeqAt.EqAt.of_refs hac rc
noncomputable def rEqD (K:PySem.W.Frag)(n:Nat):R2:=fun x y H Q=>∃a c b,x=.ref a/\y=.ref c/\EqD K H n x y b/\Q (.bl b) H
theorem GX_ (n:Nat)(hu:X.A.units+n<cLine):OpR X (compareOp .Eq) (rEqD X.K n):=by
 intro pins s σ H x y v u Q I rx ry h
 obtain⟨a,c,b,ex,ey,h,q⟩:=h
 exact (EqD.at I n X.A hu rx ry h).2 a c ex ey _ _ _ _ ⟨.bl b,H,I,rfl,q⟩
theorem EqD.flat {K:PySem.W.Frag}    (hq:(SqL K H a xs/\SqL K H c ys)\/(SqT K H a xs/\SqT K H c ys))(fx:∀x∈xs,Ws x=true)(fy:∀y∈ys,Ws y=true)(hi:∀x∈xs,∀y∈ys,eqV x y=decide (x=y))(n:Nat):
  EqD K H (n+1) (.ref a) (.ref c) (decide (xs=ys)):=by
 have base:∀m i x y,xs[i]?=some x->ys[i]?=some y->EqD K H m x y (decide (x=y)):=fun m i x y h1 h2=>by
  have m1:=List.mem_of_getElem? h1
  have m2:=List.mem_of_getElem? h2
  cases m with
  |zero=>exact⟨fx _ m1,fy _ m2,(hi _ m1 _ m2).symm⟩
  |succ m=>exact .inl ⟨fx _ m1,fy _ m2,(hi _ m1 _ m2).symm⟩
 refine .inr ⟨a,c,xs,ys,rfl,rfl,hq,fun i=>match xs[i]?,ys[i]? with|some x,some y=>decide (x=y)|_,_=>true,fun i x y h1 h2=>?_,?_⟩
 ·simp only[h1,h2]
  exact base n i x y h1 h2
 ·rw[Bool.eq_iff_iff]
  simp only[decide_eq_true_eq,Bool.and_eq_true,List.all_eq_true,List.mem_range]
  constructor
  ·rintro rfl
   refine⟨rfl,fun i hi=>?_⟩
   have hi:i<xs.length:=by lia
   simp[hi]
  ·rintro⟨hl,h⟩
   refine List.ext_getElem? fun i=>?_
   by_cases hi:i<xs.length
   ·have:=h i s!""
    simp[hi,show i<ys.length by lia]at this
    simp[hi,show i<ys.length by lia,this]
   ·rw[List.getElem?_eq_none s!"",List.getElem?_eq_none s!""]
end
end L2
namespace L2
open PySem PySem.Spec PyProof.Rows
noncomputable def JA_ (outer:List (Str×NameKind))(sc:Scope):Bool:=
 sc.kind == .function&&sc.names.all (fun y=>y.2 != .cell&&(y.2 != .local||sc.names.lookup y.1==some .local)&&(y.2 != .free||outer.lookup y.1==some .cell||outer.lookup y.1==some .free))
theorem OD   (h:JA_ X.env.scope.names sc=true):BlkSc X sc:=by
 unfold JA_ at h
 rw[Bool.and_eq_true,List.all_eq_true]at h
 obtain⟨h1,h2⟩:=h
 refine⟨by simpa using h1,fun y hy z=>?_,fun y hy z=>?_,fun y hy z=>?_⟩
 ·have:=h2 y hy
  simp only[Bool.and_eq_true]at this
  have:=this.1.1
  rw[z]at this
  exact absurd this (by decide)
 ·have:=h2 y hy
  simp only[Bool.and_eq_true]at this
  have:=this.1.2
  rw[z]at this
  simpa using this
 ·have:=h2 y hy
  simp only[Bool.and_eq_true]at this
  have:=this.2
  rw[z]at this
  have t:(X.env.scope.names.lookup y.1==some .cell||X.env.scope.names.lookup y.1==some .free)=true:=by simpa using this
  rw[Bool.or_eq_true]at t
  rcases t with t|t
  ·exact .inl (by show X.env.scope.names.lookup y.1=some .cell;simpa using t)
  ·exact .inr (by show X.env.scope.names.lookup y.1=some .free;simpa using t)
section
variable {t u:TS} {te ta tb tc':TE} {tt tu:TT} {A B:TA} {D:Ends} {σ:St} {H:Hp} {Q:VK} {R:Bool->Hp->Prop} {S:List V->Hp->Prop} {i:Nat} {v:V} {g:TG} {r r':R2} {K:PySem.W.Frag} {wi:TI} {cp:Caps}
theorem JB_:tSeq t u D σ H=t {D with nx:=u D} σ H:=rfl
theorem GY_:Jh_ D σ H=D.nx σ H:=rfl
theorem JC_:tAsg te g D σ H=te σ H fun x H1=>g x σ H1 D.nx:=rfl
theorem Ev_  : AG_ i v σ H N=N (σ.set i (some v)) H:=rfl
theorem JD_:tVar i σ H Q=∃v,σ[i]?=some (some v)/\Q v H:=rfl
theorem r_c:tC v σ H Q=Q v H:=rfl
theorem r_op:tOp r ta tb σ H Q=ta σ H fun x H1=>tb σ H1 fun y H2=>r x y H2 Q:=rfl
theorem r_un  : tUn f ta σ H Q=ta σ H fun x H1=>f x H1 Q:=rfl
theorem r_I    : rI C f x y H Q=∃i j,x=.int i/\y=.int j/\C i j/\Q (f i j) H:=rfl
theorem r_I0   : rI0 f x y H Q=∃i j,x=.int i/\y=.int j/\Q (f i j) H:=rfl
theorem r_U   : rU f x H Q=∃i,x=.int i/\Q (f i) H:=rfl
theorem GZ_    : If_ sp dvs E A σ H Q=A σ H fun vs H1=>sp (vs++dvs) H1 Q E:=rfl
theorem Ha_:Jn_ te A σ H S=te σ H fun x H1=>A σ H1 fun xs H2=>S (x::xs) H2:=rfl
theorem JE_:tNil σ H S=S [] H:=rfl
theorem JF_:tRet te D σ H=te σ H D.rt:=rfl
theorem Hb_:Ji_ te D σ H=te σ H fun _ H1=>D.nx σ H1:=rfl
theorem r_if:tIfS tt t u D σ H=tt σ H fun b H1=>if b=true then t D σ H1 else u D σ H1:=rfl
theorem r_B:tB te σ H R=te σ H fun x H1=>∃c,x=.bl c/\R c H1:=rfl
theorem Hc_:FM_ te σ H R=te σ H fun x H1=>∃c,x=.bl c/\R c H1:=rfl
theorem JG_:tAnd tt tu σ H R=tt σ H fun c H1=>if c=true then tu σ H1 R else R false H1:=rfl
theorem r_or:tOr tt tu σ H R=tt σ H fun c H1=>if c=true then R true H1 else tu σ H1 R:=rfl
theorem JH_:tNot tt σ H R=tt σ H fun c H1=>R (!c) H1:=rfl
theorem Hd_:Je_ ta tb σ H Q=ta σ H fun x H1=>∃c,x=.bl c/\if c=true then tb σ H1 Q else Q (.bl false) H1:=rfl
theorem Ew_:GQ_ r r' ta tb tc' σ H Q=ta σ H fun x H1=>tb σ H1 fun y H2=>r x y H2 fun z H3=>∃k,z=.bl k/\(if k=true then tc' σ H3 fun w' H4=>r' y w' H4 Q else Q (.bl false) H3):=rfl
theorem r_CB  : tCB f A σ H Q=A σ H fun vs H1=>f vs H1 Q:=rfl
theorem JI_:tLst A σ H Q=A σ H fun xs H1=>xs.length<=sizeLine/\∀p,H1 p=none->Q (.ref p) (upd H1 p (.lst xs)):=rfl
theorem JJ_:tTup A σ H Q=A σ H fun xs H1=>xs.length<=sizeLine/\∀p,H1 p=none->Q (.ref p) (upd H1 p (.tup xs)):=rfl
theorem JK_  : rIxL K x y H Q=∃p xs i v,x=.ref p/\y=.int i/\SqL K H p xs/\atI xs i=some v/\Q v H:=rfl
theorem JL_  : rIxT K x y H Q=∃p xs i v,x=.ref p/\y=.int i/\SqT K H p xs/\atI xs i=some v/\Q v H:=rfl
theorem r_sl   : tSl f te tl th σ H Q=te σ H fun x H1=>tl σ H1 fun l H2=>th σ H2 fun u H3=>f x l u H3 Q:=rfl
theorem He_  : Jr_ te σ H U=te σ H fun x H1=>∃i,x=.int i/\U (some i) H1:=rfl
theorem Ck_  : Eh_ σ H U=U none H:=rfl
theorem r_BM   : tBM K T f te A σ H Q=te σ H fun x H1=>tyV K T x H1/\A σ H1 fun xs H2=>f x xs H2 Q:=rfl
theorem Cl_   : El_ x vs H Q=∃l xs y,x=.ref l/\vs=[y]/\H l=some (.lst xs)/\xs.length<sizeLine/\Q .non (upd H l (.lst (xs++[y]))):=rfl
theorem r_Eq  : rEq x y H Q=(scal x y=true/\Q (.bl (decide (x=y))) H):=rfl
theorem r_Ne  : rNe x y H Q=(scal x y=true/\Q (.bl (!decide (x=y))) H):=rfl
theorem JM_   : rEqD K n x y H Q=∃a c b,x=.ref a/\y=.ref c/\EqD K H n x y b/\Q (.bl b) H:=rfl
theorem Ex_  : Jk_ K te σ H Z=te σ H fun x H1=>∃a,x=.ref a/\(∃xs,SqL K H1 a xs)/\Z (Itl K a) H1:=rfl
theorem Hf_  : iTup K te σ H Z=te σ H fun x H1=>∃a,x=.ref a/\(∃xs,SqT K H1 a xs)/\Z (Itt K a) H1:=rfl
theorem Ey_  : Jl_ A σ H Z=A σ H fun vs H1=>∃j:Int,vs=[.int j] /\ -(2 ^ 62)<=j/\j<2 ^ 62/\Z (Itr 0 j.toNat) H1:=rfl
theorem Hg_:Il_ σ H R=R true H:=rfl
end
theorem Same.new    (h:H p=none):Same H (upd H p o):=fun b u e=>by rw[Ah (B9 e h)];exact e
theorem Same.newT    (s:Same H H')(h:H' p=none):Same H (upd H' p o):=s.trans (Same.new h)
theorem Same.over    (s:Same H H')(h:H p=none):Same H (upd H' p o):=fun b u e=>by rw[Ah (B9 e h)];exact s b u e
theorem AP_    (h:upd H p o D=none):H D=none/\D≠p:=by
 by_cases e:D=p
 ·subst e;rw[Ae]at h;cases h
 ·rw[Ah e]at h;exact⟨h,e⟩
theorem Same.seqT {K:PySem.W.Frag}    (e:Same H H')(h:SqT K H a xs):SqT K H' a xs:=by
 rcases h with (h|⟨o,h⟩)|h
 ·exact .inl (.inl (e _ _ h))
 ·exact .inl (.inr ⟨o,e _ _ h⟩)
 ·exact .inr h
theorem hu9   (hr:Room k A):A.units+8<cLine:=by have:=hr.units;lia
section
variable {K:PySem.W.Frag} {wi:TI} {cp:Caps} {g:TG} {tc:TT} {te:TE} {σ:St} {H:Hp} {Q:VK}
theorem JN_               : (cxOf CX P w K mg base N qual scope f cd A outer s H E).K=K:=rfl
noncomputable def CZ_ (J:It)(cp:Caps)(g:TG)(tc:TT)(te:TE)(σ:St)(H1:Hp)(Q:VK):Prop:=∃W:Nat->Nat->List V->St->Hp->Prop,(∃m,W 0 m [] (cp.st σ) H1)/\∀i m ys σ' H',W i m ys σ' H' ->
 ys.length<sizeLine/\((J.stop i H'/\∀D,H' D=none->Q (.ref D) (upd H' D (.lst ys)))\/(J.go i H'/\∃N:List V->St->Hp->Prop,(∀zs σ2 H2,N zs σ2 H2->∃m',m'<m/\W (i+1) m' zs σ2 H2)/\∀x H2,J.yld i H' x H2->g x σ' H2 fun σ2 H3=>tc σ2 H3 fun b H4=>
  if b=true then te σ2 H4 fun v H5=>N (ys++[v]) σ2 H5 else N ys σ2 H4))
theorem Hh_:Im_ wi cp g tc te σ H Q=wi σ H fun J H1=>CZ_ J cp g tc te σ H1 Q:=rfl
noncomputable def ForW (J:It)(g:TG)(tb:TS)(D:Ends)(σ:St)(H1:Hp):Prop:=∃W:Nat->Nat->St->Hp->Prop,(∃m,W 0 m σ H1)/\∀i m σ H,W i m σ H ->
 (J.stop i H/\D.nx σ H)\/(J.go i H/\∃N:St->Hp->Prop,(∀σ' H',N σ' H'->∃m',m'<m/\W (i+1) m' σ' H')/\∀x H',J.yld i H x H'->g x σ H' fun σ2 H2=>tb {D with nx:=N,ct:=N,bk:=D.nx} σ2 H2)
theorem JO_   : tFor wi g tb D σ H=wi σ H fun J H1=>ForW J g tb D σ H1:=rfl
theorem forL        (Pv:Nat->St->Hp->Prop)(h0:Pv 0 σ H)(hl:∀i σ H,i<=xs.length->Pv i σ H->SqL K H a xs)
  (hs:∀i x σ H,xs[i]?=some x->Pv i σ H->g x σ H fun σ2 H2=>tb {D with nx:=Pv (i+1),ct:=Pv (i+1),bk:=D.nx} σ2 H2) (hd:∀σ H,Pv xs.length σ H->D.nx σ H):ForW (Itl K a) g tb D σ H:=FL_ Pv h0 hl hs hd
theorem forT        (Pv:Nat->St->Hp->Prop)(h0:Pv 0 σ H)(hl:∀i σ H,i<=xs.length->Pv i σ H->SqT K H a xs)
  (hs:∀i x σ H,xs[i]?=some x->Pv i σ H->g x σ H fun σ2 H2=>tb {D with nx:=Pv (i+1),ct:=Pv (i+1),bk:=D.nx} σ2 H2) (hd:∀σ H,Pv xs.length σ H->D.nx σ H):ForW (Itt K a) g tb D σ H:=HX_ Pv h0 hl hs hd
theorem forR {lo:Int}       (Pv:Nat->St->Hp->Prop)(h0:Pv 0 σ H)
  (hs:∀i σ H,i<n->Pv i σ H->g (.int (lo+i)) σ H fun σ2 H2=>tb {D with nx:=Pv (i+1),ct:=Pv (i+1),bk:=D.nx} σ2 H2) (hd:∀σ H,Pv n σ H->D.nx σ H):ForW (Itr lo n) g tb D σ H:=DU_ Pv h0 hs hd
theorem FZ_   (Pv:Nat->List V->St->Hp->Prop)(h0:Pv 0 [] (cp.st σ) H)(hz:xs.length<sizeLine)
  (hl:∀i ys σ H,i<=xs.length->Pv i ys σ H->SqL K H a xs/\ys.length<=i)
  (hs:∀i x ys σ H,xs[i]?=some x->Pv i ys σ H->g x σ H fun σ2 H2=>tc σ2 H2 fun b H3=>if b=true then te σ2 H3 fun v H4=>Pv (i+1) (ys++[v]) σ2 H4 else Pv (i+1) ys σ2 H3)
  (hd:∀ys σ H,Pv xs.length ys σ H->∀D,H D=none->Q (.ref D) (upd H D (.lst ys))):CZ_ (Itl K a) cp g tc te σ H Q:=Es_ Pv h0 hz hl hs hd
theorem KF_   (Pv:Nat->List V->St->Hp->Prop)(h0:Pv 0 [] (cp.st σ) H)(hz:xs.length<sizeLine)
  (hl:∀i ys σ H,i<=xs.length->Pv i ys σ H->SqT K H a xs/\ys.length<=i)
  (hs:∀i x ys σ H,xs[i]?=some x->Pv i ys σ H->g x σ H fun σ2 H2=>tc σ2 H2 fun b H3=>if b=true then te σ2 H3 fun v H4=>Pv (i+1) (ys++[v]) σ2 H4 else Pv (i+1) ys σ2 H3)
  (hd:∀ys σ H,Pv xs.length ys σ H->∀D,H D=none->Q (.ref D) (upd H D (.lst ys))):CZ_ (Itt K a) cp g tc te σ H Q:=FX_ Pv h0 hz hl hs hd
theorem Io_ {lo:Int}  (Pv:Nat->List V->St->Hp->Prop)(h0:Pv 0 [] (cp.st σ) H)(hz:n<sizeLine)
  (hl:∀i ys σ H,i<=n->Pv i ys σ H->ys.length<=i)
  (hs:∀i ys σ H,i<n->Pv i ys σ H->g (.int (lo+i)) σ H fun σ2 H2=>tc σ2 H2 fun b H3=>if b=true then te σ2 H3 fun v H4=>Pv (i+1) (ys++[v]) σ2 H4 else Pv (i+1) ys σ2 H3)
  (hd:∀ys σ H,Pv n ys σ H->∀D,H D=none->Q (.ref D) (upd H D (.lst ys))):CZ_ (Itr lo n) cp g tc te σ H Q:=CY_ Pv h0 hz hl hs hd
theorem Ga_    (f:V->V)(e:cp.st σ=none::σ')(hl:SqT K H a xs)(hz:xs.length<sizeLine)(hs:∀x∈xs,∀R:VK,R (f x) H->te (some x::σ') H R)(hd:∀D,H D=none->Q (.ref D) (upd H D (.lst (xs.map f)))):
  CZ_ (Itt K a) cp (AG_ 0) Il_ te σ H Q:=by
 refine KF_ (xs:=xs) (fun i ys σ2 H2=>H2=H/\ys=(xs.take i).map f/\∃o,σ2=o::σ') ⟨rfl,by simp,none,e⟩ hz (fun i ys σ2 H2 hi h=>?_) (fun i x ys σ2 H2 hx h=>?_) (fun ys σ2 H2 h=>?_)
 ·obtain⟨rfl,rfl,_⟩:=h
  exact⟨hl,by rw[List.length_map,List.length_take];lia⟩
 ·obtain⟨rfl,rfl,o,rfl⟩:=h
  refine hs x (List.mem_of_getElem? hx) _ ⟨rfl,?_,some x,rfl⟩
  rw[List.take_add_one,hx];simp
 ·obtain⟨rfl,rfl,_⟩:=h
  rw[List.take_length]
  exact hd
end
noncomputable def tCut (t u:TS):TS:=fun D σ H=>∃R:St->Hp->Prop,t {D with nx:=R} σ H/\∀σ' H',R σ' H'->u D σ' H'
theorem Iw  {st:Stmt}{rest:List Stmt}  (h1:PS X st t)(h2:PSs X rest u):PSs X (st::rest) (tCut t u):=by
 intro pins s σ H D I h
 obtain⟨R,ha,hb⟩:=h
 refine wpAny_execs_cons (thn (h1 pins s σ H {D with nx:=R} I ha) fun f s1 q=>?_)
 cases f with
 |next=>
  obtain⟨σ',H',I',q⟩:=q
  exact h2 pins s1 σ' H' D I' (hb σ' H' q)
 |ret v=>exact q
 |brk=>exact q
 |cont=>exact q
theorem Ao:1000000<sizeLine:=by rw[sizeLine_eq];decide
theorem OE {ns:List Int}{x:V}(h:x∈ns.map V.int):∃n,n∈ns/\x=.int n:=by
 obtain⟨n,hn,e⟩:=List.mem_map.mp h
 exact⟨n,hn,e.symm⟩
theorem Sv {ns:List Int}{i:Nat}{x:V}(h:(ns.map V.int)[i]?=some x):∃n,ns[i]?=some n/\x=.int n:=by
 rw[List.getElem?_map]at h
 cases e:ns[i]? with
 |none=>rw[e]at h;cases h
 |some n=>rw[e]at h;exact⟨n,rfl,(Option.some.inj h).symm⟩
noncomputable def cutI (ns:List Int)(lo hi:Option Int):List Int:=(ns.drop (HT.sIx ns.length 0 lo)).take (HT.sIx ns.length ns.length hi-HT.sIx ns.length 0 lo)
theorem Gb_ (ns:List Int)(lo hi:Option Int):cutV (ns.map V.int) lo hi=(cutI ns lo hi).map V.int:=by
 unfold cutV cutI
 rw[List.length_map,<-List.map_drop,<-List.map_take]
theorem JP_     (h0:0<=i)(h:xs[i.toNat]?=some v):atI xs i=some v:=by
 have:=PX h
 rwa [show ((i.toNat:Nat):Int)=i by lia]at this
theorem JQ_  : ∀u,RelV (V.ty n) u->u=.type n:=fun _ h=>h
theorem PY  : ∀u,RelV (V.ref a) u->u=.ref a:=fun _ h=>h
end L2
namespace L2
open PySem PySem.W PySem.Spec PySem.Calls PyProof.Rows
section
variable {prog:Program} {w:World} {A:Around} {E:Value->Shared->Prop} {s:Shared} {K:Frag} {x D:Addr} {ox:Obj}
structure ExcCls (K:Frag)(D:Addr):Prop where
 ga:findIn K (.ref D) "__getattribute__"=some (some (.builtin "BaseException.__getattribute__"))
 hk:findIn K (.ref D) "__getattr__"=some none
 cl:(clsIn K D).isSome=true
 ca:findIn K (.ref D) "__class__"=some (some (.builtin "object.__class__"))
 gs:specialIn K (.builtin "object.__class__") "__get__"=some (some (.builtin "getset_descriptor.__get__"))
 tk:takesIn K (.builtin "object.__class__")=some true
 mo:mroIn K D (.type "object")=some true
 mb:mroIn K D (.type "BaseException")=some true
noncomputable def Wz (x D:Addr)(h:Heap):Prop:=∃ox,h.get? x=some ox/\ox.cls=.ref D
theorem Wz.type   (I:Wz x D h):Looks M h (typeOf (.ref x)) (.ref D):=by
 obtain⟨ox,h1,h2⟩:=I
 exact h2 ▸ (Looks.ld h1).andThen .now
theorem Gc_   (X:K.In h)(C:ExcCls K D):Looks M h (Builtin.ObjectAttr.find (.ref x) (.ref D) "__class__") (.bind (.builtin "getset_descriptor.__get__") (.builtin "object.__class__")):=
 (looks_findIn X C.ca).andThen ((show Looks M h (Builtin.ObjectAttr.getOf (some (.builtin "object.__class__"))) _ from looks_specialIn X C.gs).andThen
  ((show Looks M h (Builtin.ObjectAttr.dataDescriptor? (some (.builtin "object.__class__")) (some (.builtin "getset_descriptor.__get__"))) (some (.builtin "getset_descriptor.__get__",.builtin "object.__class__")) from (looks_takesIn X C.tk).andThen .now).andThen (Looks.tag .now)))
open Builtin Builtin.ObjectAttr Builtin.Getset_descriptor in
theorem Ip_ {R:Result->Shared->Prop}{tp:Value}(X:K.In s.heap)(I:Wz x D s.heap)(hm:mroIn K D (.type "object")=some true)(h:R (.ok (.ret (.ref D))) s):codeAny (model prog w) A (.call (.builtin "getset_descriptor.__get__") ⟨[.builtin "object.__class__",.ref x,tp],[]⟩) R s:=by
 have l0:=I.type (M:=model prog w)
 have l1:=looks_mroIn (M:=model prog w) X hm
 obtain⟨_,_,_,_,_⟩:=s
 have sg:=KF.slot_gs
 refine codeAny_call_builtin sg.plain KF.entry_gs (sg.check _ _ _ _ _ _ _ _ KF.type_class (KF.args_gs _ _ _) ?_)
 unfold Builtin.«getset_descriptor.__get__» descrGet
 rw[dga_obj]
 unfold descrGetter descrCheckInstance isInstance descrNameAndClass
 refine wpAny_bind (wpAny_pure ?_)
 simp only[KF.owner_class]
 repeat lk
 refine⟨Code.quiet_builtin _ (by decide +kernel),codeAny_builtin KF.entry_class ?_⟩
 unfold Builtin.«object.__class__» shownTypeOf
 repeat lk
 exact h
theorem Ez_    (X:K.In s.heap)(I:Wz x D s.heap)(C:ExcCls K D)(hq:Q () s):wpAny M A (checkBuiltinCall "BaseException.__getattribute__" ⟨[.ref x,nameV],[]⟩) Q E s:=by
 have a1:=F.args_bexc_ga (.ref x) nameV
 have l0:=I.type (M:=M)
 have l1:=looks_mroIn (M:=M) X C.mb
 obtain⟨_,_,_,_,_⟩:=s
 simp only[checkBuiltinCall,show builtinKind "BaseException.__getattribute__"=some .slot by decide +kernel,show splitId "BaseException.__getattribute__"=some ("BaseException","__getattribute__") by decide +kernel,isInstance]
 repeat (first|lk|wp_step)
 exact hq
theorem EA_   (X:K.In s.heap)(I:Wz x D s.heap)(C:ExcCls K D)(hq:Q (.done (.ret (.ref D))) s):wpAny (model prog w) A (Builtin.«object.__getattribute__» ⟨[.ref x,.str "__class__" tk],[]⟩) Q E s:=by
 obtain⟨hh,g,d,t,os⟩:=s
 have L0:=I.type (M:=model prog w)
 have L1:=Gc_ (M:=model prog w) (x:=x) X C
 unfold Builtin.«object.__getattribute__»
 refine wpAny_bind (wpAny_pure ?_)
 refine wpAny_bind (wpAny_pure ?_)
 refine wpAny_bind (L0.at ?_)
 refine wpAny_bind (L1.at ?_)
 show wpAny _ _ (Builtin.ObjectAttr.bindTo _ _ _ _) _ _ _
 unfold Builtin.ObjectAttr.bindTo
 dsimp only
 refine wpAny_bind (wpAny_holding (wpAny_call (Ip_ (K:=K) (s:=⟨hh,g,d,t,os⟩) X I C.mo ?_)))
 exact wpAny_pure hq
theorem EB_  (X:K.In s.heap)(I:Wz x D s.heap)(C:ExcCls K D)(h:Q (some (.ref D)) {s with toks:=s.toks+1}):wpAny (model prog w) A (getAttr? (.ref x) "__class__") Q E s:=by
 obtain⟨hh,g,d,t,os⟩:=s
 have L0:=I.type (M:=model prog w)
 have L1:=looks_findIn (M:=model prog w) X C.ga
 have L2:=looks_findIn (M:=model prog w) X C.hk
 unfold getAttr? getAttrBy? getAttrBy
 refine wpAny_bind (wpAny_mkText (wpAny_bind (wpAny_attempt (wpAny_holding (wpAny_bind (L0.at (wpAny_bind (L1.at ?_))))))))
 show wpAny _ _ (getAttrByItsOwn _ _ _ _ _ _) _ _ _
 unfold getAttrByItsOwn hookBefore
 refine wpAny_bind ?_
 rw[if_pos (by rfl)]
 refine L2.at (wpAny_bind (wpAny_attempt (wpAny_holding ?_)))
 unfold callGetattribute
 rw[if_neg (by decide)]
 unfold boundAndCalled
 have f3:=PySem.F.attr_ValueError.ga.bind (.ref x)
 refine wpAny_bind (wpAny_of_eq f3 ?_)
 refine wpAny_call (codeAny_call_builtin PySem.F.attr_ValueError.ga.plain F.entry_bexc_ga (Ez_ (K:=K) (s:=⟨hh,g,d,t+1,os⟩) X I C (EA_ (K:=K) (s:=⟨hh,g,d,t+1,os⟩) X I C ?_)))
 exact wpAny_pure (wpAny_pure h)
theorem Gd_ (C:ExcCls K D):KitX K (.ref x) (.ref D) (Wz x D):=by
 have cl:=C.cl
 unfold clsIn at cl
 refine⟨fun _ _ _ I=>I.type,fun _ _ X _=>?_,fun h tp dd its n sl X htp=>?_,fun X I k=>EB_ X I C k⟩
 ·split at cl
  ·rename_i ho
   intro A' Q' E' s' k q
   exact wpAny_bind (wpAny_loadPart (k _ _ (X _ _ ho)) (wpAny_pure q))
  ·cases cl
 ·split at cl
  ·rename_i ho
   cases hb:(Value.ref D==Value.ref tp) with
   |false=>rfl
   |true=>
    obtain rfl:D=tp:=Value.ref.inj (beq_iff_eq.mp hb)
    cases (X _ _ ho).symm.trans htp
  ·cases cl
end
section
variable {P:Program} {w:World}
theorem C5.there     (x:C5 P w H h a o):∃ob,h.get? a=some ob:=by
 induction o with
 |lst xs=>obtain⟨_,_,_,_,e⟩:=x;exact⟨_,e⟩
 |tup xs=>obtain⟨_,_,_,ob,e,_⟩:=x;exact⟨_,e⟩
 |dK kvs=>obtain⟨_,_,_,_,o,_,_,e,_⟩:=x;exact⟨_,e⟩
 |dT kvs=>obtain⟨_,_,_,_,o,_,_,e,_⟩:=x;exact⟨_,e⟩
 |set S n=>obtain⟨o,_,_,_,e,_⟩:=x;exact⟨_,e⟩
 |ins C dx fs=>obtain⟨_,_,_,e,_⟩:=x;exact⟨_,e⟩
 |own y=>obtain⟨_,e⟩:=x;exact⟨_,e⟩
 |xd fs=>obtain⟨_,⟨_,_,_,e,_⟩,_⟩:=x;exact⟨_,e⟩
 |rng lo hi=>obtain⟨_,_,_,e⟩:=x;exact⟨_,e⟩
 |frz ob u ih=>obtain⟨e,_⟩:=x;exact⟨_,e⟩
 |tbl ps=>exact⟨_,(show h.get? a=some _ from x)⟩
 |met f y=>exact⟨_,(show h.get? a=some _ from x)⟩
 |ext φ=>obtain⟨_,⟨_,e⟩,_⟩:=x;exact⟨_,e⟩
structure Fly (P:Program)(w:World)(fs:List Addr)(H1 H':Hp)(h1 g B:Heap):Prop where
 un:Un fs [] H1 H' h1 g
 hok:HOk P w H' g
 cov:∀b o,g.get? b=some o->(H' b≠none \/ ∃o',h1.get? b=some o')->b∉fs->B.get? b=some o
theorem Fly.move  {H1 H':Hp}{h1 g B h2:Heap}(x:Fly P w fs H1 H' h1 g B)(frees:∀b∈fs,H' b=none)(st:B.StaysIn h2)(up:∀b∈fs,∀o,g.get? b=some o->∃sl,h2.get? b=some {o with slots:=sl}):Fly P w fs H1 H' h1 h2 B:=by
 have keep:∀b o,g.get? b=some o->(H' b≠none \/ ∃o',h1.get? b=some o')->b∉fs->h2.get? b=some o:=fun b o e h n=>st b o (x.cov b o e h n)
 have nfs:∀b u,H' b=some u->b∉fs:=fun b u e z=>by rw[frees b z]at e;cases e
 refine⟨⟨fun b o e n hb hx=>?_,fun b o e n hb hx=>?_,fun b o e n hx=>x.un.free b o e n hx,fun b o e hx=>?_,x.un.tups,x.un.frzs,x.un.tbls⟩,fun b u e=>?_,fun b o e h n=>?_⟩
 ·exact keep b o (x.un.keep b o e n hb hx) (.inr ⟨o,e⟩) hb
 ·obtain⟨sl,e1⟩:=x.un.slot b o e n hb hx
  obtain⟨sl',e2⟩:=up b hb _ e1
  exact⟨sl',e2⟩
 ·obtain⟨o',e1⟩:=x.un.there b o e hx
  by_cases hb:b∈fs
  ·obtain⟨sl',e2⟩:=up b hb _ e1
   exact⟨_,e2⟩
  ·exact⟨o',keep b o' e1 (.inr ⟨o,e⟩) hb⟩
 ·refine (x.hok b u e).stay (fun c v hc q=>?_) (fun _ q=>q) fun _ _ q=>q
  rcases hc with rfl|hc
  ·exact keep c v q (.inl (by rw[e];simp)) (nfs c u e)
  ·exact keep c v q (.inl (by rw[hc];simp)) (nfs c _ hc)
 ·-- B has it still
  have ⟨o1,e1⟩:∃o1,g.get? b=some o1:=by
   rcases h with h|⟨o',h⟩
   ·cases q:H' b with
    |none=>exact absurd q h
    |some u=>exact (x.hok b u q).there
   ·exact x.un.there b o' h (by simp)
  have e2:=x.cov b o1 e1 h n
  have e3:=st b o1 e2
  rw[e]at e3
  cases e3
  exact e2
noncomputable def CXe (P:Program)(w:World):CXT:=fun outer H s E e s'=>∃(ea:Addr) (cls a0:Value) (H':Hp) (B:Heap),e=.ref ea/\s'.os=s.os/\AllBare s'.gens/\Fly P w (frs outer) H H' s.heap s'.heap B/\Heap.FlyingW B outer ea cls a0 s'.heap/\E cls none H'
theorem SY    {H1 H':Hp}  {g B:Heap}(I:Inv X pins σ H1 s1)(x:Fly P w (frs X.stack) H1 H' s1.heap g B):∀b∈frs X.stack,H' b=none:=fun b hb=>by
 obtain⟨_,o,ho,_⟩:=I.stack.mem hb
 exact x.un.free b o ho (I.stkFree b hb) (by simp)
theorem JH {K:PySem.W.Frag}             (hE:∀c d H',E' c d H'->E c d H'):
  Lj (CXe P w) (cxOf (CXe P w) P w K mg base N qual scope f cd A outer s H E) E':=by
 intro pins σ H1 s1 e s' I hc
 obtain⟨ea,cls,a0,H',B,rfl,os,bare,fl,fw,q⟩:=hc
 have fr:(cxOf (CXe P w) P w K mg base N qual scope f cd A outer s H E).A.frames=some (envOfC qual scope s.heap.objs.size f cd::outer):=I.ok.frames
 refine wpAny_leaves_onW fr rfl fw fun h' fw' ups=>?_
 have fl2:=fl.move (SY I fl) fw'.1 (fun b hb o e=>by
  obtain⟨_,o',ho',nf⟩:=fw.2.2.1.mem hb
  rw[e]at ho';cases ho'
  exact ups b o e nf)
 have I2:Inv (cxOf (CXe P w) P w K mg base N qual scope f cd A outer s H E) pins σ H' {s' with heap:=h' }:=I.call' (s':={s' with heap:=h' }) os fl2.un fl2.hok bare (fun b hb=>by cases hb)
 refine⟨ea,cls,a0,H',B,rfl,I2.os,I2.bare,⟨I2.base,I2.hok,fun b o e h n=>fl2.cov b o e ?_ (fun z=>?_)⟩,fw',hE _ _ _ q⟩
 ·rcases h with h|⟨o',h⟩
  ·exact .inl h
  ·obtain⟨o2,e2⟩:=I.base.there b o' h (by show b∉([]:List Addr);simp)
   exact .inr ⟨o2,e2⟩
 ·rcases List.mem_cons.mp (I.stkSub b z) with e' | e'
  ·rcases h with h|⟨o',h⟩
   ·exact h (by rw[e'];exact I2.free)
   ·have:=Heap.lt_size h
    rw[e']at this
    exact absurd (Nat.lt_of_lt_of_le this I.ok.above) (Nat.lt_irrefl _)
  ·exact n e'
theorem JR_ {K:PySem.W.Frag}
   {H1:Hp}
  (I:Inv (cxOf (CXe P w) P w K mg base N qual scope f cd A outer s H E) pins σ H1 s1) (hx:Heap.MadeExcOf s1.heap h' ea cls vs) (q:E cls none H1):
  (cxOf (CXe P w) P w K mg base N qual scope f cd A outer s H E).xe (.ref ea) {s1 with heap:=h' }:=by
 have fr:(cxOf (CXe P w) P w K mg base N qual scope f cd A outer s H E).A.frames=some (envOfC qual scope s.heap.objs.size f cd::outer):=I.ok.frames
 have hin:∀env∈(envOfC qual scope s.heap.objs.size f cd::outer),∀b,env.frame=some b->b∈frs (envOfC qual scope s.heap.objs.size f cd::outer):=fun env he b hb=>List.mem_filterMap.mpr ⟨env,he,hb⟩
 have stk:=I.stack
 have fl:Fly P w (frs (envOfC qual scope s.heap.objs.size f cd::outer)) H1 H1 s1.heap s1.heap (PySem.W.hideAll s1.heap (frs (envOfC qual scope s.heap.objs.size f cd::outer))):=⟨Un.refl,I.hok,fun b o e _ n=>PySem.W.hideAll_get _ e n⟩
 refine wpAny_leaves_madeW (base:=PySem.W.hideAll s1.heap (frs (envOfC qual scope s.heap.objs.size f cd::outer))) (h:=s1.heap) fr rfl (fun b o q=>PySem.W.of_hideAll _ q) ?_ hx fun h'' t fw' ht hnt ups=>?_
 ·exact PySem.W.funFrames_hide stk hin
 ·have fl2:=fl.move (SY (X:=cxOf (CXe P w) P w K mg base N qual scope f cd A outer s H E) I fl) fw'.1 (fun b hb o e=>by
   obtain⟨_,o',ho',nf⟩:=stk.mem hb
   rw[e]at ho';cases ho'
   exact ups b o (hx.keeps b o e) nf)
  have I2:Inv (cxOf (CXe P w) P w K mg base N qual scope f cd A outer s H E) pins σ H1 {s1 with heap:=h'' }:=I.call' (s':={s1 with heap:=h'' }) rfl fl2.un fl2.hok I.bare (fun b hb=>by cases hb)
  refine⟨ea,cls,.ref t,H1,_,rfl,I2.os,I2.bare,⟨I2.base,I2.hok,fun b o e h n=>fl2.cov b o e ?_ (fun z=>?_)⟩,fw',q⟩
  ·rcases h with h|⟨o',h⟩
   ·exact .inl h
   ·obtain⟨o2,e2⟩:=I.base.there b o' h (by show b∉([]:List Addr);simp)
    exact .inr ⟨o2,e2⟩
  ·rcases List.mem_cons.mp (I.stkSub b z) with e' | e'
   ·rcases h with h|⟨o',h⟩
    ·exact h (by rw[e'];exact I2.free)
    ·have:=Heap.lt_size h
     rw[e']at this
     exact absurd (Nat.lt_of_lt_of_le this I.ok.above) (Nat.lt_irrefl _)
   ·exact n e'
end
theorem Iq_ {K:Frag}     (X:K.In h)(q:excIn K C bmB newId=true):
  ∃bm N nm q bs hdct sn sub ab col dd k0 k1 k2 k3 k5 mN,h.get? C=some (excClassObj nm q C N bs bm hdct sn sub ab col dd k0 k1 k2 k3 k5 newId)/\h.Ns N mN/\mN "__init__"=none/\OwnTail h bmB bm:=by
 unfold excIn at q
 split at q
 case h_2=>cases q
 rename_i d0 c0 s0 hl
 split at q
 case h_2=>cases q
 rename_i B tl a0 a1 a2 a3 id0 a5 em es
 have g:=X C _ hl
 repeat rw[Bool.and_eq_true]at q
 rcases q with ⟨⟨⟨⟨⟨e1,e2⟩,e3⟩,e4⟩,e5⟩,e6⟩
 cases eq_of_beq e1
 cases eq_of_beq e2
 rcases s0 with ⟨l0⟩
 cases es
 rcases c0 with ⟨f0,f1,f2,f3,f4,f5,f6,f7,f8,f9,f10⟩
 cases em
 cases f10
 ·exact⟨tl,f3,f0,f4,f1,f5,f6,f7,f8,f9,d0,a0,a1,a2,a3,a5,h.nsMap f3,g,.of_isNs (isNs_of_in X e5),nsMap_none_of_in X e5 (eq_of_beq e6),tail_of_in X e4⟩
 ·cases e3
def bmV:List Value:=[.type "ValueError",.type "Exception",.type "BaseException",.type "object"]
section
variable {P:Program} {w:World} {K:PySem.W.Frag} {mg:Str->Option Value} {base:Heap} {N:List Str} {qual:Str} {scope:Scope} {f:Addr} {cd:Value} {A:Around} {outer:List Env} {s:Shared} {H:Hp} {E:XK}
noncomputable def Hi_ (C:Addr)(E:XK)(ta:TA):TS:=fun _ σ H=>ta σ H fun vs H1=>vs.length<=sizeLine/\E (.ref C) none H1
theorem M0      {rest:List Expr}  (hm:mg x=some (.ref C))(hx:excIn K C bmV newId=true)(hg:Gl (cxOf (CXe P w) P w K mg base N qual scope f cd A outer s H E) x)
  (hn:newId = "ValueError.__new__") (ha:PA (cxOf (CXe P w) P w K mg base N qual scope f cd A outer s H E) (e₀::rest) ta)
  (he:starEach (e₀::rest) (cxOf (CXe P w) P w K mg base N qual scope f cd A outer s H E).env=(false,eval e₀ (cxOf (CXe P w) P w K mg base N qual scope f cd A outer s H E).env)::starEach rest (cxOf (CXe P w) P w K mg base N qual scope f cd A outer s H E).env:=by rfl)
  (hplain:(backTo cpos (starEach rest (cxOf (CXe P w) P w K mg base N qual scope f cd A outer s H E).env)).any (·.1)=false:=by rfl) (hd:(x==("__debug__" : Str))=false:=by decide):
  PS (cxOf (CXe P w) P w K mg base N qual scope f cd A outer s H E) (.Raise (some (.Call (.Name x np) (e₀::rest) [] cpos)) none pos) (Hi_ C E ta):=by
 intro pins s1 σ H1 D I h
 subst hn
 obtain⟨bm,Nc,nm,q,bs,hdct,sn,sub,ab,col,dd,k0,k1,k2,k3,k5,mN,hC,hN,hni,T⟩:=Iq_ I.mod.kin hx
 refine wpAny_Raise_call_subU (C:=C) (nm:=nm) (q:=q) (N:=Nc) (bs:=bs) (bm:=bm) (hdct:=hdct) (sn:=sn) (sub:=sub) (ab:=ab) (col:=col) (dd:=dd) (k0:=k0) (k1:=k1) (k2:=k2) (k3:=k3) (k5:=k5)
  PySem.F.excBase_ValueError (bmB:=bmV) (by decide +kernel) PySem.F.excBase_ValueError (mN:=mN) (T.hasType PySem.F.excBase_ValueError.hasBase) (I.ok.hd rfl) (by rw[he];show (false||(backTo cpos (starEach rest _)).any (·.1))=false;rw[hplain];rfl) hni (PU I hg hm ⟨rfl,?_⟩ hd)
 have hA:=ha cpos pins s1 σ H1 _ I h
 rw[he]at hA ⊢
 refine Calls.evalArgs_plain (thn hA fun us s2 ⟨vs,H2,I2,r2,hz,q2⟩=>⟨rfl,by rw[<-r2.length];exact hz,I2.bk _ _ hC,hN.keeps I2.bk,T.keeps I2.bk,fun h' e hm=>JR_ I2 hm q2⟩)
end
end L2
namespace L2
open PySem PySem.Spec PyProof.Rows
noncomputable abbrev Cx.body (X:Cx)(xe:Value->Shared->Prop)(pn:List (Addr×Obj)):Cx:={X with xe:=xe,pn:=pn}
noncomputable abbrev Cx.suite (X:Cx)(ea:Addr)(pn:List (Addr×Obj)):Cx:={X with A:=X.A.mark (some (.ref ea)),calm:=false,xe:=fun _ _=>False,pn:=pn}
section
variable {X:Cx} {pins pins':List (Addr×Obj)} {σ:St} {H:Hp} {s:Shared} {xe xe':Value->Shared->Prop} {ea:Addr}
theorem Inv.toBody (I:Inv X pins σ H s):Inv (X.body xe (X.pn++pins)) [] σ H s:=
 ⟨⟨I.ok.mod,I.ok.kind,I.ok.glob,I.ok.blt,I.ok.above,I.ok.inj,I.ok.has,I.ok.cab,I.ok.hd,I.ok.frames,I.ok.stk,I.ok.exf,I.ok.bs,I.ok.bsz,I.ok.noex,I.ok.exfs,I.ok.funs,I.ok.frf⟩,I.os,I.bare,I.base,I.loc,I.cell,I.free,I.freeC,fun p hp=>I.pin p (by simpa using hp),I.hok,I.len⟩
theorem Inv.ofBody (I:Inv (X.body xe (X.pn++pins)) pins' σ H s):Inv X pins σ H s:=
 ⟨⟨I.ok.mod,I.ok.kind,I.ok.glob,I.ok.blt,I.ok.above,I.ok.inj,I.ok.has,I.ok.cab,I.ok.hd,I.ok.frames,I.ok.stk,I.ok.exf,I.ok.bs,I.ok.bsz,I.ok.noex,I.ok.exfs,I.ok.funs,I.ok.frf⟩,I.os,I.bare,I.base,I.loc,I.cell,I.free,I.freeC,fun p hp=>I.pin p (List.mem_append_left _ hp),I.hok,I.len⟩
theorem Inv.reBody  (I:Inv (X.body xe pn) pins' σ H s):Inv (X.body xe' pn) pins' σ H s:=
 ⟨⟨I.ok.mod,I.ok.kind,I.ok.glob,I.ok.blt,I.ok.above,I.ok.inj,I.ok.has,I.ok.cab,I.ok.hd,I.ok.frames,I.ok.stk,I.ok.exf,I.ok.bs,I.ok.bsz,I.ok.noex,I.ok.exfs,I.ok.funs,I.ok.frf⟩,I.os,I.bare,I.base,I.loc,I.cell,I.free,I.freeC,I.pin,I.hok,I.len⟩
theorem Inv.toSuite (I:Inv X pins σ H s):Inv (X.suite ea (X.pn++pins)) [] σ H s:=
 ⟨⟨I.ok.mod,I.ok.kind,I.ok.glob,I.ok.blt,I.ok.above,I.ok.inj,I.ok.has,I.ok.cab,fun z=>absurd (show false=true from z) Bool.false_ne_true,I.ok.frames,I.ok.stk,I.ok.exf,I.ok.bs,I.ok.bsz,I.ok.noex,I.ok.exfs,I.ok.funs,I.ok.frf⟩,I.os,I.bare,I.base,I.loc,I.cell,I.free,I.freeC,fun p hp=>I.pin p (by simpa using hp),I.hok,I.len⟩
theorem Inv.ofSuite (hd:X.calm=true->X.A.handled=none)(I:Inv (X.suite ea (X.pn++pins)) pins' σ H s):Inv X pins σ H s:=
 ⟨⟨I.ok.mod,I.ok.kind,I.ok.glob,I.ok.blt,I.ok.above,I.ok.inj,I.ok.has,I.ok.cab,hd,I.ok.frames,I.ok.stk,I.ok.exf,I.ok.bs,I.ok.bsz,I.ok.noex,I.ok.exfs,I.ok.funs,I.ok.frf⟩,I.os,I.bare,I.base,I.loc,I.cell,I.free,I.freeC,fun p hp=>I.pin p (List.mem_append_left _ hp),I.hok,I.len⟩
theorem Inv.forget       (I:Inv X pins σ H s)(hN:X.N.Nodup)(hi:X.N[i]?=some n)(hx:X.env.scope.names.lookup n=some .local)
  (hl:∀(i:Nat) (x:Str) (v:V),X.N[i]?=some x->σ[i]?=some (some v)->Vis X.env.scope x->∃u,RelV v u/\Look X.env s.heap m x u) (hn:s.heap.Ns X.env.locals m)
  (hn':h'.Ns X.env.locals (fun x=>if x=n then v else m x)) (hs:Heap.SameBut X.env.locals s.heap h'):Inv X pins (σ.set i none) H {s with heap:=h',toks:=t' }:=by
 have cne:=I.cne
 obtain⟨oL,_,_,hoL,_⟩:=id hn
 have tracked:HOk X.prog X.w H h':=fun b ob e=>by
  refine (I.hok b ob e).stay (fun c w' hc q=>(hs.2 c ?_).trans q) (fun _ q=>q) fun _ _ q=>q
  rintro rfl
  rcases hc with rfl|hc
  ·rw[I.free]at e;cases e
  ·rw[I.free]at hc;cases hc
 refine⟨I.ok,I.os,I.bare,⟨fun b o e n hb hx=>?_,fun b o e n hb hx=>?_,I.base.free,fun b o e hx=>?_,I.base.tups,I.base.frzs,I.base.tbls⟩,⟨_,hn',fun j y v' e1 e2 e3=>?_⟩,fun y c e=>?_,I.free,I.freeC,fun p hp=>?_,tracked,by simpa using I.len⟩
 ·exact (hs.2 b (Nat.ne_of_lt (Nat.lt_of_lt_of_le (Heap.lt_size e) I.ok.above))).trans (I.base.keep b o e n hb hx)
 ·obtain⟨sl,e1⟩:=I.base.slot b o e n hb hx
  exact⟨sl,(hs.2 b (Nat.ne_of_lt (Nat.lt_of_lt_of_le (Heap.lt_size e) I.ok.above))).trans e1⟩
 ·obtain⟨o',e1⟩:=I.base.there b o e hx
  exact⟨o',(hs.2 b (Nat.ne_of_lt (Nat.lt_of_lt_of_le (Heap.lt_size e) I.ok.above))).trans e1⟩
 ·by_cases hj:j=i
  ·subst hj
   have hlt:j<σ.length:=by
    have:=(List.getElem?_eq_some_iff.mp e2).1
    simpa using this
   rw[List.getElem?_set_self hlt]at e2
   cases e2
  ·rw[List.getElem?_set_ne (Ne.symm hj)]at e2
   obtain⟨u',r',q⟩:=hl j y v' e1 e2 e3
   refine⟨u',r',?_⟩
   rcases q with ⟨k,e⟩|⟨k,c,e,z⟩
   ·refine .inl ⟨k,?_⟩
    have:y≠n:=fun e=>hj (Wn hN e1 (e ▸ hi))
    simp[this,e]
   ·exact .inr ⟨k,c,e,z.sameBut hs (cne y c e)⟩
 ·obtain⟨w',z⟩:=I.cell y c e
  exact⟨w',z.sameBut hs (cne y c e)⟩
 ·obtain⟨e,n,ne,nf,d⟩:=I.pin p hp
  exact⟨(hs.2 p.1 ne).trans e,n,ne,nf,d⟩
end
noncomputable def Sw (CX:CXT)(X:Cx)(σ:St)(E:XK):Prop:=∀(pins:List (Addr×Obj)) (H:Hp) (s:Shared) (e:Value) (s':Shared),Inv X pins σ H s->CX X.stack H s E e s'->X.xe e s'
section
variable {X:Cx} {CX:CXT} {k:Nat} {f C:Addr} {fd:FuncData} {ps:List Str} {sp:Sp} {dvs:List V} {ds:List Value} {E:St->XK} {x:Str} {p pos:Pos} {e:Expr} {es:List Expr} {t:TA}
theorem EC_ {pins:List (Addr×Obj)}{σ:St}{H:Hp}{s:Shared}{Q:VK}{us:List Value}{vs:List V}{E:XK}(F:FnOk X.prog X.w X.K X.mg X.base CX k f fd ps sp)(hr:Room k X.A)(hb:Ap X.K fd ps ds)(hd:Vals dvs ds)(hx:Sw CX X σ E)
  (I:Inv X pins σ H s) (r:Vals vs us) (h:sp (vs++dvs) H Q E):wpAny (model X.prog X.w) X.A (call (.ref f) us) (EP X pins σ Q) X.xe s:=by
 have r2:Vals (vs++dvs) (us++ds):=r.append hd
 have hl:(us++ds).length=ps.length:=by rw[<-r2.length];exact F.len _ _ _ _ h
 refine wpAny_call (codeAny_mono (F.run X.A X.stack s H ⟨us,[]⟩ (us++ds) (vs++dvs) Q E hr I.env0 (hb s us I.kIn hl) r2 h) fun r s' hq=>?_)
 cases r with
 |error e=>exact hx pins H s e s' I hq
 |ok fl=>
  cases fl with
  |ret u=>exact I.after hq
  |next=>exact False.elim hq
  |brk=>exact False.elim hq
  |cont=>exact False.elim hq
end
noncomputable def excO (ea C:Addr):HO:=.ext (Wz ea C)
noncomputable def Ends.un (D:Ends)(i:Nat):Ends:={nx:=fun σ H=>D.nx (σ.set i none) H,rt:=D.rt,bk:=fun σ H=>D.bk (σ.set i none) H,ct:=fun σ H=>D.ct (σ.set i none) H}
noncomputable def tTry (K:PySem.W.Frag)(Ca:Addr)(i:Nat)(E:St->XK)(tb ts:TS):TS:=fun D σ H=>tb D σ H/\∀σ' cls H',E σ' cls none H' ->
 ∃C,cls=.ref C/\PySem.W.exmOne K (.ref C) (.ref Ca)=some true/\∀ea,H' ea=none->ts (D.un i) (σ'.set i (some (.ref ea))) (upd H' ea (excO ea C))
theorem ED_           (hN:X.N.Nodup)(hi:X.N[i]?=some n)(hn:X.env.scope.names.lookup n=some .local)
  (hg:Gl X c) (hm:X.mg c=some (.ref Ca)) (hst:X.stack=X.env::X.outer) (hL:X.env.frame=some X.env.locals) (hex:X.ex=[])
  (hb:∀xe pn,(∀σ,Sw (CXe X.prog X.w) (X.body xe pn) σ (E σ))->PSs (X.body xe pn) body tb) (hs:∀ea pn,PSs (X.suite ea pn) (b₀::suite) ts) (hd:(c==("__debug__" : Str))=false:=by decide):
  PS X (.Try body [.ExceptHandler (some (.Name c np)) (some n) (b₀::suite) hpos] [] [] pos) (tTry X.K Ca i E tb ts):=by
 intro pins s σ H D I h
 obtain⟨hbody,hhand⟩:=h
 have hB:=hb (fun e s'=>∃pins' σ' H1 s1,Inv (X.body (fun _ _=>True) (X.pn++pins)) pins' σ' H1 s1/\CXe X.prog X.w X.stack H1 s1 (E σ') e s') (X.pn++pins) (fun σ pins' H s e s' I' hcx=>⟨pins',σ,H,s,I'.reBody,hcx⟩) [] s σ H D I.toBody hbody
 refine wpAny_Try_except (wpAny_mono hB (fun f s1 q=>?_) fun e s1 q=>?_)
 ·cases f with
  |next=>obtain⟨σ1,H1,I1,q1⟩:=q;exact wpAny_execs_nil ⟨σ1,H1,I1.ofBody,q1⟩
  |brk=>obtain⟨σ1,H1,I1,q1⟩:=q;exact⟨σ1,H1,I1.ofBody,q1⟩
  |cont=>obtain⟨σ1,H1,I1,q1⟩:=q;exact⟨σ1,H1,I1.ofBody,q1⟩
  |ret v=>obtain⟨x1,σ1,H1,I1,r1,q1⟩:=q;exact⟨x1,σ1,H1,I1.ofBody,r1,q1⟩
 ·obtain⟨pins',σ',H1,s2,I2,ea,cls,a0,H',B,rfl,os,bare,fl,fw,hE⟩:=q
  obtain⟨C,rfl,hexm,hts⟩:=hhand σ' cls H' hE
  have I2':Inv X pins σ' H1 s2:=I2.ofBody
  have fr:X.A.frames=some (X.env::X.outer):=by rw[I.ok.frames,hst]
  have frees:=SY I2' fl
  have fw0:=fw
  rw[hst]at fw
  have invAt:∀h',Heap.FlyingW B (X.env::X.outer) ea (.ref C) a0 h'->s1.heap.UpToSlots h'->Inv X pins σ' H' {s1 with heap:=h' }:=fun h' fw' ups=>by
   have fl2:=fl.move frees fw'.1 (fun b hb o e=>by
    obtain⟨_,o',ho',nf⟩:=fw0.2.2.1.mem hb
    rw[e]at ho';cases ho'
    exact ups b o e nf)
   exact I2'.call' (s':={s1 with heap:=h' }) os fl2.un fl2.hok bare (fun b hb=>by cases hb)
  refine wpAny_looks_onW fr hL fw fun h4 held4 up4=>?_
  refine wpAny_landsW held4 fun h5 fw5 up5=>?_
  have I5:=invAt h5 fw5 (up4.trans up5)
  have I5m:Inv (X.suite ea (X.pn++pins)) [] σ' H' {s1 with heap:=h5}:=I5.toSuite
  refine wpAny_handleBy_cons (codeAny_handlers_test (PU (X:=X.suite ea (X.pn++pins)) I5m hg hm ?_ hd)) (by intro q;cases q)
  have LT:PySem.W.Looks (model X.prog X.w) h5 (typeOf (.ref ea)) (.ref C):=by
   obtain⟨ob,hob,hoc⟩:=fw5.there
   exact hoc ▸ (PySem.W.Looks.ld hob).andThen .now
  refine (PySem.W.exm_one (K:=X.K) (M:=model X.prog X.w) I5.kIn LT hexm) _ _ _ _ (fun b o e=>e) ?_
  refine codeAny_handlers_suite_as ?_
  refine lands_againW fw5 fun h6 fw6 up6=>?_
  have I6:=invAt h6 fw6 ((up4.trans up5).trans up6)
  -- the exception's object is not tracked yet
  have hne:H' ea=none:=by
   cases q:H' ea with
   |none=>rfl
   |some u=>
    have nfs:ea∉frs X.stack:=fun z=>by rw[frees ea z]at q;cases q
    obtain⟨o,ho⟩:=(fl.hok ea u q).there
    have:=fl.cov ea o ho (.inl (by rw[q];simp)) nfs
    rw[fw.2.1]at this
    cases this
  have new:C5 X.prog X.w (upd H' ea (excO ea C)) h6 ea (excO ea C):=by
   obtain⟨ob,hob,hoc⟩:=fw6.there
   refine⟨⟨ob,hob,hoc⟩,⟨ob,hob⟩,fun g1 g2 ⟨o1,e1,c1⟩ k=>⟨o1,k o1 e1,c1⟩⟩
  have hsz:s2.heap.get? ea=none:=by
   cases q:s2.heap.get? ea with
   |none=>rfl
   |some o=>
    by_cases z:ea∈frs X.stack
    ·obtain⟨_,o',ho',nf⟩:=fw0.2.2.1.mem z
     obtain⟨oe,vs,hoe,_,hdt,_⟩:=fw.first
     rw[ho']at hoe;cases hoe
     exact absurd hdt (nf vs)
    ·obtain⟨o',e'⟩:=fl.un.there ea o q (by simp)
     have:=fl.cov ea o' e' (.inr ⟨o,q⟩) z
     rw[fw.2.1]at this
     cases this
  have I6t:Inv X pins σ' (upd H' ea (excO ea C)) {s1 with heap:=h6}:=by
   refine⟨I6.ok,I6.os,I6.bare,?_,I6.loc,I6.cell,?_,fun x c e=>?_,fun p hp=>?_,I6.hok.track hne new,I6.len⟩
   ·-- newer than the entry
    have h0:X.s₀.heap.get? ea=none:=by
     cases q:X.s₀.heap.get? ea with
     |none=>rfl
     |some o=>
      obtain⟨o',e'⟩:=I2'.base.there ea o q (by rw[hex];simp)
      rw[hsz]at e';cases e'
    refine⟨I6.base.keep,I6.base.slot,fun b o e n hx=>?_,I6.base.there,fun b xs q=>?_,fun b ob xs q=>?_,fun b ps q=>?_⟩
    ·rw[Ah (fun z=>by rw[z,h0]at e;cases e)];exact I6.base.free b o e n hx
    ·have:=I6.base.tups b xs q;rw[Ah (B9 this hne)];exact this
    ·have:=I6.base.frzs b ob xs q;rw[Ah (B9 this hne)];exact this
    ·obtain⟨more,e⟩:=I6.base.tbls b ps q
     exact⟨more,by rw[Ah (B9 e hne)];exact e⟩
   ·rw[Ah (fun z=>?_)]
    ·exact I6.free
    ·have:=I2'.lt
     obtain⟨m,⟨o,_,_,ho,_⟩,_⟩:=I2'.loc
     rw[z,hsz]at ho;cases ho
   ·rw[Ah (fun z=>?_)]
    ·exact I6.freeC x c e
    ·obtain⟨v,o,ho,_⟩:=I2'.cell x c e
     rw[z,hsz]at ho;cases ho
   ·obtain⟨e,n,r⟩:=I6.pin p hp
    refine⟨e,?_,r⟩
    rw[Ah (fun z=>?_)]
    ·exact n
    ·have:=(I2'.pin p hp).1
     rw[z,hsz]at this;cases this
  have I6m:Inv (X.suite ea (X.pn++pins)) [] σ' (upd H' ea (excO ea C)) {s1 with heap:=h6}:=I6t.toSuite
  refine Wo (X:=X.suite ea (X.pn++pins)) I6m hN hi (.inl hn) (v:=.ref ea) rfl (fun s7 I7=>?_) (.inr hn)
  refine wpAny_mono (hs ea (X.pn++pins) [] s7 _ _ (D.un i) I7 (hts ea hne)) (fun f s8 q8=>?_) (fun _ _ z=>False.elim z)
  have hcl:(X.env.scope.kind == .class||(X.env.scope.kind == .module&&X.env.locals != X.env.globals))=false:=by rw[I.ok.kind];rfl
  have goes:∀{σ8:St} {H8:Hp},Inv (X.suite ea (X.pn++pins)) [] σ8 H8 s8->∀(R:Unit->Shared->Prop),(∀s9,Inv X pins (σ8.set i none) H8 s9->R () s9) ->
    wpAny (model X.prog X.w) X.A (do bindName X.env n .none;unbindBehindTheSuite X.env n hpos) R X.xe s8:=fun {σ8 H8} I8 R hR=>by
   have I8':Inv X pins σ8 H8 s8:=I8.ofSuite I.ok.hd
   obtain⟨m,hns,hl⟩:=I8'.loc
   exact wpAny_nameGoes_keeps hn hns hcl fun h9 v hn9 sb=>hR _ (I8'.forget hN hi hn hl hns hn9 sb)
  cases f with
  |next=>obtain⟨σ8,H8,I8,q⟩:=q8;exact goes I8 _ fun s9 I9=>⟨_,H8,I9,q⟩
  |brk=>obtain⟨σ8,H8,I8,q⟩:=q8;exact goes I8 _ fun s9 I9=>⟨_,H8,I9,q⟩
  |cont=>obtain⟨σ8,H8,I8,q⟩:=q8;exact goes I8 _ fun s9 I9=>⟨_,H8,I9,q⟩
  |ret v=>obtain⟨x8,σ8,H8,I8,r8,q⟩:=q8;exact goes I8 _ fun s9 I9=>⟨x8,_,H8,I9,r8,q⟩
theorem YR  : NR X (.builtin "isinstance") (fun xs H Q=>∃ea C c cv b,xs=[.ref ea,c]/\H ea=some (excO ea C)/\ExcCls X.K C/\(∀u,RelV c u->u=cv)/\PySem.W.kitOne X.K (.ref C) cv=some b/\Q (.bl b) H):=by
 intro pins s σ H xs us Q I r h
 obtain⟨ea,C,c,cv,b,rfl,hea,hC,hc,hk,q⟩:=h
 obtain⟨u,w',rfl,rx,rc⟩:=vals2 r
 rw[hc _ rc]
 cases rx
 obtain⟨p,_,_⟩:=(show C5 X.prog X.w H s.heap ea (.ext (Wz ea C)) from I.hok ea _ hea)
 exact PySem.W.kia_one (Gd_ hC) I.kIn p hk (fun z=>nomatch z) fun tk=>⟨.bl b,H,I.tok tk,rfl,q⟩
end L2
namespace L2
open PySem PySem.Spec PyProof.Rows
section
variable {X:Cx}
noncomputable def Kt (K:PySem.W.Frag):R2:=fun x y H Q=>∃a b xs ys,x=.ref a/\y=.ref b/\SqT K H a xs/\SqT K H b ys/\xs.length+ys.length<=sizeLine /\
 (xs=[]->Q (.ref b) H)/\(xs ≠ []->ys=[]->Q (.ref a) H)/\(xs ≠ []->ys ≠ []->∀p,H p=none->Q (.ref p) (upd H p (.tup (xs++ys))))
theorem J7:OpR X (binaryOp .Add) (Kt X.K):=by
 intro pins s σ H x y v u Q I rx ry h
 obtain⟨a,b,xs,ys,rfl,rfl,ha,hb,hz,q0,q1,q2⟩:=h
 by_cases hx:xs=[]
 ·subst hx
  cases rx
  cases ry
  obtain⟨its,r1,p1,_⟩:=I.tuple ha
  obtain⟨its2,r2,p2,_⟩:=I.tuple hb
  have:its=[]:=r1.nil_iff.mpr rfl
  subst this
  obtain⟨⟨cls,dd,data,sl⟩,ho,hc,n,hd⟩:=id p1
  obtain⟨⟨cls2,dd2,data2,sl2⟩,ho2,hc2,n2,hd2⟩:=id p2
  simp only at hc hd hc2 hd2
  subst hc hd hc2 hd2
  exact concat_meets ⟨_,ho,rfl⟩ ⟨_,ho2,rfl⟩ noFill_tuple_add seq_tuple_add PySem.F.slot_tuple_add PySem.F.entry_tuple_add (PySem.F.args_tuple_add_2 _ _)
   (PyProof.Rows.tuple_addW0 a b _ _ n n2 dd dd2 sl sl2 rfl) ⟨ho,ho2,⟨.ref b,H,I,rfl,q0 rfl⟩⟩
 ·exact Ih_ pins s σ H _ _ v u Q I rx ry ⟨a,b,xs,ys,rfl,rfl,ha,hb,hx,hz,q1 hx,q2 hx⟩
end
theorem EE_      (Pv:Nat->St->Hp->Prop)(h0:∃m,Pv m σ H)
  (hs:∀m σ H,Pv m σ H->c σ H fun b H1=>if b=true then ∃N:St->Hp->Prop,(∀σ' H',N σ' H'->∃m',m'<m/\Pv m' σ' H')/\tb {D with nx:=N,ct:=N,bk:=D.nx} σ H1 else D.nx σ H1):GN_ c tb D σ H:=⟨Pv,h0,hs⟩
theorem JS_ {K:PySem.W.Frag}    {lo hi:Option Int}:rSlT K x lo hi H Q=∃a xs,x=.ref a/\SqT K H a xs /\
 ¬ (HT.sIx xs.length 0 lo=0/\HT.sIx xs.length xs.length hi=xs.length)/\∀p,H p=none->Q (.ref p) (upd H p (.tup (cutV xs lo hi))):=rfl
inductive TyW (K:PySem.W.Frag)(H:Hp):V->Value->Prop where
 | non:TyW K H .non (.type "NoneType")
 | bl (x:Bool):TyW K H (.bl x) (.type "bool")
 | int (i:Int):TyW K H (.int i) (.type "int")
 | str (x:Str):TyW K H (.str x) (.type "str")
 | lst {a:Addr} {xs:List V} (e:SqL K H a xs):TyW K H (.ref a) (.type "list")
 | tup {a:Addr} {xs:List V} (e:SqT K H a xs):TyW K H (.ref a) (.type "tuple")
 | exc {a C:Addr} (e:H a=some (excO a C)) (c:ExcCls K C):TyW K H (.ref a) (.ref C)
theorem F6  : NR X (.builtin "isinstance") (fun xs H Q=>∃x c cv t b,xs=[x,c]/\TyW X.K H x t/\(∀u,RelV c u->u=cv)/\PySem.W.kitOne X.K t cv=some b/\Q (.bl b) H):=by
 intro pins s σ H xs us Q I r h
 obtain⟨x,c,cv,t,b,rfl,ty,hc,hk,q⟩:=h
 cases ty with
 |non=>exact Iv pins s σ H _ us Q I r ⟨_,c,cv,_,b,rfl,.non,hc,hk,q⟩
 |bl y=>exact Iv pins s σ H _ us Q I r ⟨_,c,cv,_,b,rfl,.bl y,hc,hk,q⟩
 |int y=>exact Iv pins s σ H _ us Q I r ⟨_,c,cv,_,b,rfl,.int y,hc,hk,q⟩
 |str y=>exact Iv pins s σ H _ us Q I r ⟨_,c,cv,_,b,rfl,.str y,hc,hk,q⟩
 |exc e hC=>exact YR pins s σ H _ us Q I r ⟨_,_,c,cv,b,rfl,e,hC,hc,hk,q⟩
 |@lst a xs e=>
  obtain⟨u,w',rfl,rx,rc⟩:=vals2 r
  rw[hc _ rc]
  cases rx
  obtain⟨its,_,pl,_⟩:=I.list e
  obtain⟨o,ho,hcl,_⟩:=pl.isList
  exact PySem.W.kia_one PySem.W.kitx_list I.kIn ⟨o,ho,hcl⟩ hk (fun z=>nomatch z) fun tk=>⟨.bl b,H,I.tok tk,rfl,q⟩
 |@tup a xs e=>
  obtain⟨u,w',rfl,rx,rc⟩:=vals2 r
  rw[hc _ rc]
  cases rx
  obtain⟨its,_,⟨o,ho,hcl,_⟩,_⟩:=I.tuple e
  exact PySem.W.kia_one PySem.W.kitx_tuple I.kIn ⟨o,ho,hcl⟩ hk (fun z=>nomatch z) fun tk=>⟨.bl b,H,I.tok tk,rfl,q⟩
end L2
namespace GW
noncomputable def JT_ (L:Int):List Int->List Int
 |[]=>[0]
 |x::r=>if x=L-1 then 0::JT_ L r else (x+1)::r
noncomputable def Gp (L:Int)(w:List Int):List Int:=(JT_ L w.reverse).reverse
noncomputable def Hj_ (L:Int):List Int->Int
 |[]=>0
 |x::r=>Hj_ L r*L+x+1
noncomputable def EF_ (L:Int)(w:List Int):Int:=Hj_ L w.reverse
noncomputable def inW (L x:Int):Bool:=decide (0<=x)&&decide (x<L)
noncomputable def isW (L:Int)(ws:List Int):Bool:=ws.all (inW L)
theorem Ir_  : inW L x=true↔0<=x/\x<L:=by simp[inW]
theorem Ci   : isW L ws=true ↔ ∀x∈ws,0<=x/\x<L:=by simp[isW,Ir_]
noncomputable def many (L:Int):Nat->Int
 |0=>0
 |k+1=>many L k*L+1
noncomputable def val (L:Int):List Int->Int
 |[]=>0
 |x::r=>val L r*L+x
end GW
namespace PySem
section
variable {prog:Program} {w:World} {A:Around} {E:Value->Shared->Prop} {s:Shared}
noncomputable abbrev lsO (acc:Array Value)(c:Nat):Obj:={cls:=.type "list",dict:=none,data:=.seq acc c,slots := #[]}
noncomputable def KP (wr:Addr->Prop)(h h':Heap):Prop:=∀b o,¬ wr b->h.get? b=some o->h'.get? b=some o
structure Gat (prog:Program)(w:World)(s:Shared)(r I:Addr)(T:String)(n:Nat)(wr:Addr->Prop)(J:Nat->List Value->Heap->Prop)(Fn:List Value->Heap->Prop):Prop where
 type:s.TypeIs (.ref r) T
 nl:(Value.type T==Value.type "list")=false
 nt:(Value.type T==Value.type "tuple")=false
 le:n<=sizeLine
 hint:∀(A:Around) (t:Shared) (Q:Bool->Shared->Prop) (E:Value->Shared->Prop),(∀b o,s.heap.get? b=some o->t.heap.get? b=some o)->(∀b tk,Q b {t with toks:=tk})->wpAny (model prog w) A (Builtin.List.listLengthHint (.ref r)) Q E t
 iter:∀(A:Around) (h1:Heap) (Q:Value->Shared->Prop) (E:Value->Shared->Prop),(∀b o,s.heap.get? b=some o->h1.get? b=some o)->h1.objs.size=s.heap.objs.size+1->(∀h',J 0 [] h'->(∀b o,h1.get? b=some o->h'.get? b=some o)->Q (.ref I) {s with heap:=h' })->wpAny (model prog w) A (pyIter (.ref r)) Q E {s with heap:=h1}
 next:∀(A:Around) i acc (t:Shared) (Q:Option Value->Shared->Prop) (E:Value->Shared->Prop),A.handled=none->J i acc t.heap->acc.length=i->i<=n->s.heap.objs.size<t.heap.objs.size ->
  (∀v h' tk,i<n->J (i+1) (acc++[v]) h'->KP wr t.heap h'->Q (some v) {t with heap:=h',toks:=tk})->(∀h' tk,i=n->Fn acc h'->KP wr t.heap h'->Q none {t with heap:=h',toks:=tk})->wpAny (model prog w) A (pyNext (.ref I)) Q E t
 frame:∀i acc h h',J i acc h->(∀b o,b≠s.heap.objs.size->h.get? b=some o->h'.get? b=some o)->J i acc h'
 nw:¬ wr s.heap.objs.size
variable {I r:Addr} {T:String} {n:Nat} {wr:Addr->Prop} {J:Nat->List Value->Heap->Prop} {Fn:List Value->Heap->Prop} {R:Result->Shared->Prop} {res:Value}
theorem Gat.loop (G:Gat prog w s r I T n wr J Fn)(hh:A.handled=none)
  (hR:∀h' tk acc c,Fn acc h'->acc.length=n->h'.get? s.heap.objs.size=some (lsO acc.toArray c)->KP wr s.heap h'->R (.ok (.ret res)) {s with heap:=h',toks:=tk}):
  ∀(k:Nat) (h:Heap) (tk c:Nat) (acc:List Value),n-acc.length=k->acc.length<=n->J acc.length acc h->h.get? s.heap.objs.size=some (lsO acc.toArray c)->KP wr s.heap h->codeAny (model prog w) A (.builtin "list.extend.loop" ⟨[.ref s.heap.objs.size,.ref I,res],[]⟩) R {s with heap:=h,toks:=tk}:=by
 intro k
 induction k with
 |zero=>
  intro h tk c acc hk hi j hS kp
  refine codeAny_builtin F.entry_extend_loop ?_
  rw[Around.under_plainId F.plain_extend_loop _]
  refine wpAny_bind (G.next A.in1 _ acc {s with heap:=h,toks:=tk} _ _ hh j rfl hi (Heap.lt_size hS) (fun v h' tk l=>by lia) fun h' tk e j' kk=>?_)
  exact wpAny_pure (hR h' tk acc c j' s!"" (kk _ _ G.nw hS) fun b o m q=>kk b o m (kp b o m q))
 |succ k ih=>
  intro h tk c acc hk hi j hS kp
  refine codeAny_builtin F.entry_extend_loop ?_
  rw[Around.under_plainId F.plain_extend_loop _]
  refine wpAny_bind (G.next A.in1 _ acc {s with heap:=h,toks:=tk} _ _ hh j rfl hi (Heap.lt_size hS) (fun v h' tk l j' kk=>?_) fun h' tk e=>by lia)
  have hS':=kk _ _ G.nw hS
  have up:∀b o,b≠s.heap.objs.size->h'.get? b=some o->(h'.update s.heap.objs.size (Obj.mapSeq (·.push v))).get? b=some o:=fun b o m q=>(Heap.get?_update_other _ _ (Ne.symm m)).trans q
  have hl:(acc++[v]).length=acc.length+1:=by simp
  have:=G.le
  obtain⟨c',hS2⟩:∃c',(h'.update s.heap.objs.size (Obj.mapSeq (·.push v))).get? s.heap.objs.size=some (lsO (acc++[v]).toArray c'):=⟨_,by rw[<-List.push_toArray];exact Heap.get?_update_self _ hS' rfl⟩
  exact wpAny_bind (wpAny_updateSeq hS' rfl (wpAny_pure ⟨plainId_quiet F.plain_extend_loop _,ih _ tk c' (acc++[v]) s!"" s!"" (by rw[hl];exact G.frame _ _ _ _ j' up) hS2 fun b o m q=>up b o (Nat.ne_of_lt (Heap.lt_size q)) (kk b o m (kp b o m q))⟩) (by simp;lia))
theorem Gat.extend    (G:Gat prog w s r I T n wr J Fn)(hh:A.handled=none)(k1:∀b o,s.heap.get? b=some o->h1.get? b=some o)(hz:h1.objs.size=s.heap.objs.size+1)(hS:h1.get? s.heap.objs.size=some (lsO #[] c₀))
  (hZ:∀c t,c.quiet=true->codeAny (model prog w) A c R t->Z (.again c) t)
  (hR:∀h' tk acc c,Fn acc h'->acc.length=n->h'.get? s.heap.objs.size=some (lsO acc.toArray c)->KP wr s.heap h'->R (.ok (.ret res)) {s with heap:=h',toks:=tk}):
  wpAny (model prog w) A.in1 (Builtin.List.listExtendWith (.ref s.heap.objs.size) (.ref r) res) Z E {s with heap:=h1}:=by
 have hr:r<s.heap.objs.size:=let ⟨_,ho,_⟩:=G.type;Heap.lt_size ho
 have e1:Builtin.List.listSameRef (.ref s.heap.objs.size) (.ref r)=false:=by simp[Builtin.List.listSameRef,Nat.ne_of_gt hr]
 have hT:Shared.TypeIs {s with heap:=h1} (.ref r) T:=let ⟨o,ho,x⟩:=G.type;⟨o,k1 _ _ ho,x⟩
 have oth:∀(h:Heap) f b o,b≠s.heap.objs.size->h.get? b=some o->(h.update s.heap.objs.size f).get? b=some o:=fun h f b o n q=>(Heap.get?_update_other _ _ (Ne.symm n)).trans q
 have go:∀(h:Heap) c tk,J 0 [] h->h.get? s.heap.objs.size=some (lsO #[] c)->(∀b o,b≠s.heap.objs.size->h1.get? b=some o->h.get? b=some o)->Z (.again (.builtin "list.extend.loop" ⟨[.ref s.heap.objs.size,.ref I,res],[]⟩)) {s with heap:=h,toks:=tk}:=fun h c tk j q k=>
  hZ _ _ (plainId_quiet F.plain_extend_loop _) (G.loop hh hR n h tk c [] rfl (Nat.zero_le _) j q fun b o _ x=>k b o (Nat.ne_of_lt (Heap.lt_size x)) (k1 b o x))
 unfold Builtin.List.listExtendWith
 refine wpAny_bind (wpAny_typeOf hT ?_)
 simp only[e1,G.nl,G.nt,Bool.or_false,Bool.false_eq_true,if_false]
 refine wpAny_bind (G.iter A.in1 h1 _ _ k1 hz fun h' j kk=>wpAny_bind (wpAny_holding (G.hint A.in1 _ _ _ (fun b o q=>kk b o (k1 b o q)) fun bb tk=>?_)))
 have hS':=kk _ _ hS
 refine wpAny_ite_split (fun _=>?_) fun _=>wpAny_pure (go h' c₀ tk j hS' fun b o _ q=>kk b o q)
 wp_walk
 exact go _ _ tk (G.frame _ _ _ _ (G.frame _ _ _ _ j fun b o m q=>oth _ _ b o m q) fun b o m q=>oth _ _ b o m q) (Heap.get?_update_self _ (Heap.get?_update_self _ hS' rfl) rfl) fun b o m q=>oth _ _ b o m (oth _ _ b o m (kk b o q))
theorem Gat.list  (G:Gat prog w s r I T n wr J Fn)(hh:A.handled=none)
  (hQ:∀h' tk acc c,Fn acc h'->acc.length=n->h'.get? s.heap.objs.size=some (lsO acc.toArray c)->KP wr s.heap h'->Q (.ref s.heap.objs.size) {s with heap:=h',toks:=tk}):wpAny (model prog w) A (call (.type "list") [.ref r]) Q E s:=by
 have hS:(s.heap.push (lsO #[] 0)).get? s.heap.objs.size=some (lsO #[] 0):=Heap.get?_push_size _ rfl
 refine callType_codes (Q₁:=fun obj s₁=>obj=.ref s.heap.objs.size/\s₁={s with heap:=s.heap.push (lsO #[] 0)}) F.called_list (F.typeCall_list_1 _) F.entry_list_init (code_list_new _ ⟨rfl,rfl⟩) fun obj s₁ h₁=>?_
 obtain⟨rfl,rfl⟩:=h₁
 have oth:∀b o,s.heap.get? b=some o->((s.heap.push (lsO #[] 0)).update s.heap.objs.size (Obj.mapSeq fun _ => #[])).get? b=some o:=fun b o q=>(Heap.get?_update_other _ _ (Nat.ne_of_gt (Heap.lt_size q))).trans (Heap.get?_push_of_some _ q)
 obtain⟨c2,hS2⟩:∃c,((s.heap.push (lsO #[] 0)).update s.heap.objs.size (Obj.mapSeq fun _ => #[])).get? s.heap.objs.size=some (lsO #[] c):=⟨_,Heap.get?_update_self _ hS rfl⟩
 have hz:((s.heap.push (lsO #[] 0)).update s.heap.objs.size (Obj.mapSeq fun _ => #[])).objs.size=s.heap.objs.size+1:=by rw[Heap.size_after_update,Heap.size_push]
 refine⟨⟨_,hS,rfl⟩,F.args_list_init_2 _ _,?_⟩
 wp_walk using Gat.extend (A:=A.in1) (R:=wants (fun r s₂=>r=.none/\Q (.ref s.heap.objs.size) s₂) E) (c₀:=c2) G hh oth hz hS2
 ·exact fun _ _ a b=>⟨a,b⟩
 exact fun h' tk acc c k1 k2 k3 k4=>⟨rfl,hQ h' tk acc c k1 k2 k3 k4⟩
end
end PySem
namespace L2
open PySem PySem.Spec PyProof.Rows
theorem boot_ValueError:bootBuiltins "ValueError"=some (.type "ValueError"):=by decide +kernel
section
variable {P:Program} {w:World} {K:PySem.W.Frag} {mg:Str->Option Value} {base:Heap}
theorem Fun.okE  {st:Stmt}      (F:Fun K x qual st f fd)(S:FnScope N ps (Ab st))(len:∀vs H Q E,sp vs H Q E->vs.length=ps.length)
  (hbody:∀(cdv:Value) (A:Around) (outer:List Env) (s:Shared) (H:Hp) (vs:List V) (Q:VK) (E:XK),Room k (A.deeper (envOfC qual (Ab st) s.heap.objs.size f cdv))->sp vs H Q E ->
   ∃t,PSs (cxOf (CXe P w) P w K mg base N qual (Ab st) f cdv A outer s H E) (Ak st) t/\t {nx:=fun _ H'=>Q .non H',rt:=Q} (start N vs) H):FnOk P w K mg base (CXe P w) (k+1) f fd ps sp:=by
 obtain⟨oc,od,kV,doc,pm,an,cdv,ct,osl,rfl,lk,hcd⟩:=F.ex
 exact Jp_ lk hcd S len fun A outer s H vs Q E hr hsp=>hbody cdv A outer s H vs Q E hr hsp
theorem PZ  : Lj (CXe P w) X E0:=fun _ _ _ _ _ _ _ h=>by
 obtain⟨_,_,_,_,_,_,_,_,_,_,q⟩:=h
 exact q.elim
end
section
variable {te ta tb:TE} {A:TA} {D:Ends} {σ:St} {H:Hp} {Q:VK} {K:PySem.W.Frag} {tbd ts:TS}
theorem EG_   : Hi_ C E A D σ H=A σ H fun vs H1=>vs.length<=sizeLine/\E (.ref C) none H1:=rfl
theorem JU_    : tTry K Ca i E tbd ts D σ H=(tbd D σ H/\∀σ' cls H',E σ' cls none H' ->
 ∃C,cls=.ref C/\PySem.W.exmOne K (.ref C) (.ref Ca)=some true/\∀ea,H' ea=none->ts (D.un i) (σ'.set i (some (.ref ea))) (upd H' ea (excO ea C))):=rfl
theorem Hk_  : (Ends.un D i).nx σ H=D.nx (σ.set i none) H:=rfl
theorem Hl_   : (Ends.un D i).rt v H=D.rt v H:=rfl
end
end L2
namespace L2
open PySem PySem.Spec PyProof.Rows
theorem Is_ (x y:Int):eqV (.int x) (.int y)=decide (V.int x=V.int y):=by
 by_cases h:x=y
 ·subst h;simp[eqV]
 ·rw[decide_eq_false (fun z=>h (by injection z))];simp[eqV,h]
theorem EqD.ints {K:PySem.W.Frag}{H:Hp}{a c:Addr}{xs ys:List Int}(hq:(SqL K H a (xs.map V.int)/\SqL K H c (ys.map V.int))\/(SqT K H a (xs.map V.int)/\SqT K H c (ys.map V.int)))(n:Nat):EqD K H (n+1) (.ref a) (.ref c) (decide (xs=ys)):=by
 have:=EqD.flat hq (fun x hx=>by obtain⟨_,_,rfl⟩:=OE hx;rfl) (fun x hx=>by obtain⟨_,_,rfl⟩:=OE hx;rfl) (fun x hx y hy=>by obtain⟨_,_,rfl⟩:=OE hx;obtain⟨_,_,rfl⟩:=OE hy;exact Is_ _ _) n
 have e:decide (xs.map V.int=ys.map V.int)=decide (xs=ys):=by
  rw[Bool.eq_iff_iff]
  simp only[decide_eq_true_eq]
  constructor
  ·intro h
   exact (List.map_inj_right (fun a b h=>by injection h)).mp h
  ·intro h;rw[h]
 rw[e]at this
 exact this
end L2
namespace L2
open PySem PySem.Spec PyProof.Rows
section
variable {X:Cx} {K:PySem.W.Frag}
theorem WA (h:X.K=K):IxR X (rIxT K):=by subst h;exact CZ
end
end L2
namespace GW
noncomputable def KG (ways:List (List Int))(r x:Int):Int:=(ways.getD r.toNat []).getD x.toNat 0
noncomputable def Fp (ways:List (List Int))(ws:List Int):Int:=ws.foldl (KG ways) 0
noncomputable def S0 (ways:List (List Int))(ws:List Int):List Int:=(List.range (ws.length+1)).map fun j=>Fp ways (ws.take j)
structure Wf (L:Int)(marks:List Int)(ways:List (List Int)):Prop where
 l1:1<=L
 l6:L<=6
 n1:1<=marks.length
 n40:marks.length<=40
 len:ways.length=marks.length
 rows:∀row∈ways,(row.length:Int)=L/\∀x∈row,0<=x/\x<marks.length
 mks:∀m∈marks,0<=m/\m<=1000000000
theorem Sx     (h1:ways[r.toNat]?=some row)(h2:row[x.toNat]?=some g):KG ways r x=g:=by
 unfold KG
 have e:ways.getD r.toNat []=row:=by rw[List.getD_eq_getElem?_getD,h1];rfl
 rw[e,List.getD_eq_getElem?_getD,h2];rfl
theorem Wf.row {L:Int}{marks:List Int}{ways:List (List Int)}(wf:Wf L marks ways){r:Int}(h0:0<=r)(h1:r<marks.length):∃row,ways[r.toNat]?=some row/\row∈ways/\(row.length:Int)=L:=by
 have hlt:r.toNat<ways.length:=by rw[wf.len];lia
 exact⟨ways[r.toNat],by simp[hlt],List.getElem_mem hlt,(wf.rows _ (List.getElem_mem hlt)).1⟩
theorem Wf.step {L:Int}{marks:List Int}{ways:List (List Int)}(wf:Wf L marks ways){r x:Int}(h0:0<=r)(h1:r<marks.length)(x0:0<=x)(x1:x<L):∃row g,ways[r.toNat]?=some row/\row[x.toNat]?=some g/\KG ways r x=g/\0<=g/\g<marks.length:=by
 obtain⟨row,hr,hm,hl⟩:=wf.row h0 h1
 have hlt:x.toNat<row.length:=by lia
 have hg:row[x.toNat]?=some row[x.toNat]:=by simp[hlt]
 exact⟨row,row[x.toNat],hr,hg,Sx hr hg,(wf.rows row hm).2 _ (List.getElem_mem hlt)⟩
theorem Da_ (ways:List (List Int))(ws:List Int)(x:Int):Fp ways (ws++[x])=KG ways (Fp ways ws) x:=by
 unfold Fp
 rw[List.foldl_append];rfl
theorem M3 {ways:List (List Int)}{ws:List Int}{i:Nat}{x:Int}(h:ws[i]?=some x):Fp ways (ws.take (i+1))=KG ways (Fp ways (ws.take i)) x:=by
 rw[List.take_add_one,h]
 exact Da_ _ _ _
theorem Wf.walk    (wf:Wf L marks ways)  (hw:isW L ws=true):∀i,0<=Fp ways (ws.take i)/\Fp ways (ws.take i)<marks.length:=by
 intro i
 induction i with
 |zero=>have:=wf.n1;simp[Fp];lia
 |succ i ih=>
  cases e:ws[i]? with
  |none=>
   have hle:=List.getElem?_eq_none_iff.mp e
   rw[List.take_of_length_le s!""]
   rw[List.take_of_length_le hle]at ih
   exact ih
  |some x=>
   rw[M3 e]
   have hx:=Ci.mp hw x (List.mem_of_getElem? e)
   obtain⟨_,g,_,_,h,h0,h1⟩:=wf.step ih.1 ih.2 hx.1 hx.2
   rw[h];exact⟨h0,h1⟩
theorem WB (ways:List (List Int))(ws:List Int):(S0 ways ws).length=ws.length+1:=by simp[S0]
end GW
namespace L2
open PySem PySem.Spec PyProof.Rows GW
noncomputable def Rows (K:PySem.W.Frag)(H:Hp)(w:Addr)(ways:List (List Int)):Prop:=∃ts:List Addr,SqT K H w (ts.map V.ref)/\ts.length=ways.length/\∀(i:Nat) (t:Addr) (row:List Int),ts[i]?=some t->ways[i]?=some row->SqT K H t (row.map V.int)
theorem Rows.mono {K:PySem.W.Frag}    (h:Rows K H w ways)(e:Same H H'):Rows K H' w ways:=by
 obtain⟨ts,h1,h2,h3⟩:=h
 exact⟨ts,e.seqT h1,h2,fun i t r a b=>e.seqT (h3 i t r a b)⟩
theorem Rows.at {K:PySem.W.Frag}{H:Hp}{w:Addr}{ways:List (List Int)}(h:Rows K H w ways){i:Nat}{row:List Int}(hr:ways[i]?=some row):∃xs t,SqT K H w xs/\atI xs (i:Int)=some (V.ref t)/\SqT K H t (row.map V.int):=by
 obtain⟨ts,h1,h2,h3⟩:=h
 have hlt:i<ts.length:=by rw[h2];exact (List.getElem?_eq_some_iff.mp hr).1
 have ht:ts[i]?=some ts[i]:=by simp[hlt]
 exact⟨_,ts[i],h1,PX (by rw[List.getElem?_map,ht];rfl),h3 i _ _ ht hr⟩
theorem Rows.atZ {K:PySem.W.Frag}    (h:Rows K H w ways)   (h0:0<=r)(hr:ways[r.toNat]?=some row):∃xs t,SqT K H w xs/\atI xs r=some (V.ref t)/\SqT K H t (row.map V.int):=by
 obtain⟨xs,t,a,b,c⟩:=h.at hr
 exact⟨xs,t,a,by rw[<-b];congr 1;lia,c⟩
theorem AQ_    (h:xs[xs.length-1]?=some v):atI xs (-1)=some v:=by
 have hlt:=(List.getElem?_eq_some_iff.mp h).1
 unfold atI ixN
 rw[if_neg s!"",if_pos s!""]
 show xs[(-1+(xs.length:Int)).toNat]?=some v
 rw[show (-1+(xs.length:Int)).toNat=xs.length-1 by lia]
 exact h
theorem S1 {ns:List Int}{i:Int}{v:Int}(h0:0<=i)(h:ns[i.toNat]?=some v):atI (ns.map V.int) i=some (V.int v):=JP_ h0 (by rw[List.getElem?_map,h];rfl)
end L2
namespace PySem
open Sem (wp)
open AutoSeq1 (wpAny_loadPart')
section
variable {prog:Program} {w:World} {A:Around} {E:Value->Shared->Prop} {s:Shared}
theorem newT   (hl:l.length<=sizeLine)(h:∀h',s.heap.push {cls:=.type "tuple",data:=.seq l.toArray}=h'->Q (.ref s.heap.objs.size) {s with heap:=h' }):wpAny (model prog w) A (newTuple l) Q E s:=wpAny_newTuple (h _ rfl)
theorem psh {h h':Heap}{o:Obj}(q:h.push o=h')(ho:o.isFreed=false):(∀c u,h.get? c=some u->h'.get? c=some u)/\h'.get? h.objs.size=some o/\h'.objs.size=h.objs.size+1:=by
 subst q
 exact⟨fun c u x=>Heap.get?_push_of_some _ x,Heap.get?_push_size _ ho,Heap.size_push ..⟩
theorem Db_ {it l:Addr}    (hit:s.heap.IsTupleIter it l i)(hl:s.heap.IsTuple l items)
  (hQ:∀x h',items[i]?=some x->h'.IsTupleIter it l (i+1)->Heap.SameBut it s.heap h'->Q x {s with heap:=h' })
  (hE:items[i]?=none->A.handled=none/\∀h' e,Heap.ExtBut it s.heap h'->(∃o,h'.get? e=some o/\o.cls=.type "StopIteration")->E (.ref e) {s with heap:=h' }):wpAny (model prog w) A (Builtin.SmallTypes.nextOf (.ref it)) Q E s:=by
 obtain⟨⟨c,dc,da,sl⟩,ho,hc,hd⟩:=id hit
 obtain⟨⟨c',dc',da',sl'⟩,hol,hc',nl,hdl⟩:=hl
 replace hc:c=_:=hc;replace hd:da=_:=hd;replace hc':c'=_:=hc';replace hdl:da'=_:=hdl
 subst hc hd hc' hdl
 have e1:=F.slot_tuple_iterator_next
 unfold Builtin.SmallTypes.nextOf
 refine wpAny_bind (wpAny_callSpecial?_slot hit.typeIs e1 (wpAny_call_entry e1 hit.typeIs F.entry_tuple_iterator_next ?_ (F.args_tuple_iterator_next_1 _)))
 wp_walk
 cases hx:items[i]? with
 |some x=>
  simp only[Int.toNat_natCast,hx]
  wp_walk
  exact⟨x,rfl,wpAny_pure (hQ x _ hx ⟨_,Heap.get?_update_self _ ho (by simp[Obj.mapFields,Obj.isFreed]),rfl,by simp[Obj.mapFields,rawInt]⟩ (Heap.SameBut.update ..))⟩
 |none=>
  obtain⟨hh,hE⟩:=hE hx
  have h1:A.in1.handled=none:=hh
  simp only[Int.toNat_natCast,hx]
  wp_walk
  unfold raiseNew
  wp_walk
  exact hE _ _ (((Heap.SameBut.update ..).extBut.push _).push _) ⟨_,Heap.get?_push_size _ rfl,rfl⟩
end
end PySem
namespace L2
open PySem PySem.Spec PyProof.Rows
section
variable {X:Cx} {pins:List (Addr×Obj)} {σ:St} {H:Hp} {s:Shared}
theorem Inv.un2  {e it:Addr}(I:Inv X pins σ H s)(k:∀b o,b≠e->b≠it->s.heap.get? b=some o->h'.get? b=some o)(f1:FpOk X pins H e)(f2:FpOk X pins H it):Un (frs X.stack) [e,it] H H s.heap h'/\HOk X.prog X.w H h':=by
 have ne:∀b u,H b=some u->b≠e/\b≠it:=fun b u q=>⟨(fun z=>by rw[z,f1.1]at q;cases q),(fun z=>by rw[z,f2.1]at q;cases q)⟩
 have nch:∀{b:Addr},b ∉ [e,it]->b≠e/\b≠it:=fun hb=>by simpa using hb
 refine⟨⟨fun b o q _ _ hb=>k b o (nch hb).1 (nch hb).2 q,fun b o q _ _ hb=>⟨o.slots,k b o (nch hb).1 (nch hb).2 q⟩,fun _ _ _ n _=>n,fun b o q hb=>⟨o,k b o (nch hb).1 (nch hb).2 q⟩,fun _ _ q=>q,fun _ _ _ q=>q,fun b ps q=>⟨#[],by rw[q];simp⟩⟩,fun b u q=>?_⟩
 refine (I.hok b u q).stay (fun c v hc qv=>?_) (fun _ q=>q) fun _ _ q=>q
 have hne:c≠e/\c≠it:=by
  rcases hc with rfl|hc
  ·exact ne _ _ q
  ·exact ne _ _ hc
 exact k c v hne.1 hne.2 qv
theorem FpOk.ch  (f:FpOk X pins H b):(b∈X.ex\/X.s₀.heap.objs.size<=b)/\b≠X.env.locals/\(∀x c,X.env.cells.lookup x=some c->c≠b)/\∀p∈X.pn++pins,p.1≠b:=⟨f.2.2.2.1,f.2.1,f.2.2.2.2.1,f.2.2.2.2.2⟩
end
theorem Hm_ {K:PySem.W.Frag}       : gTup K n t v σ H N=∃a xs,v=.ref a/\SqT K H a xs/\xs.length=n/\t xs σ H N:=rfl
theorem EH_       : Jj_ t u vs σ H N=∃v r,vs=v::r/\t v σ H fun σ' H'=>u r σ' H' N:=rfl
theorem Hn_     : gNil vs σ H N=(vs=[]/\N σ H):=rfl
section
variable {td ty tv tx:TE} {D:Ends} {σ:St} {H:Hp} {Q:VK}
theorem Ho_:Ju_ td ty σ H Q=td σ H fun x H1=>ty σ H1 fun y H2=>∃a v,x=.ref a/\DGet H2 a y (some v)/\Q v H2:=rfl
theorem Hp_:Jv_ td ty tv D σ H=tv σ H fun v H1=>td σ H1 fun x H2=>ty σ H2 fun y H3=>∃a H4,x=.ref a/\DPut H3 a y v H4/\D.nx σ H4:=rfl
theorem EI_:GV_ td ty σ H Q=td σ H fun x H1=>∃a,x=.ref a/\IsD H1 a/\ty σ H1 fun y H2=>∃o,DGet H2 a y o/\Q (o.getD .non) H2:=rfl
end
end L2
namespace GW
noncomputable def Hq_ (w:List Int):List (Int×List Int)->Nat->List Int->List (Int×List Int)
 |ents,_,[]=>ents
 |ents,x,g::r=>Hq_ w (if g∈ents.map (·.1) then ents else ents++[(g,w++[(x:Int)])]) (x+1) r
noncomputable def bfs (ways:List (List Int)):Nat->List (Int×List Int)->Nat->List (Int×List Int)
 |0,ents,_=>ents
 |f+1,ents,i=>match ents[i]? with
  |none=>ents
  |some e=>bfs ways f (Hq_ e.2 ents 0 (ways.getD e.1.toNat [])) (i+1)
noncomputable def EJ_ (ways:List (List Int)):List (Int×List Int):=bfs ways (ways.length+1) [(0,[])] 0
end GW
namespace L2
open PySem PySem.Spec PyProof.Rows
noncomputable def ups (n:Nat):List Int:=(List.range n).map fun i:Nat=>(i:Int)
noncomputable def rNeD (K:PySem.W.Frag)(n:Nat):R2:=fun x y H Q=>∃a c b,x=.ref a/\y=.ref c/\EqD K H n x y b/\Q (.bl (!b)) H
theorem JV_ {K:PySem.W.Frag}     : rNeD K n x y H Q=∃a c b,x=.ref a/\y=.ref c/\EqD K H n x y b/\Q (.bl (!b)) H:=rfl
theorem JW_  (n:Nat)(hu:X.A.units+n<cLine):OpR X (compareOp .NotEq) (rNeD X.K n):=by
 intro pins s σ H x y v u Q I rx ry h
 obtain⟨a,c,b,rfl,rfl,h,q⟩:=h
 cases rx
 cases ry
 cases n with
 |zero=>exact absurd (show false=true from h.1) Bool.false_ne_true
 |succ n=>
  rcases h with ⟨fx,_⟩|⟨a',c',xs,ys,e1,e2,hq,e,he,rfl⟩
  ·exact absurd (show false=true from fx) Bool.false_ne_true
  ·cases e1
   cases e2
   have key:∀(its its2:List Value),Vals xs its->Vals ys its2->∀j (h1:j<its.toArray.size) (h2:j<its2.toArray.size),SeqAt.EqAt X.A.in1 s its.toArray[j] its2.toArray[j] (e j):=fun its its2 r1 r2 j h1 h2=>by
    have l1:=r1.length
    have l2:=r2.length
    rw[List.size_toArray]at h1 h2
    obtain⟨u1,g1,q1⟩:=r1.get (i:=j) (x:=xs[j]'s!"") (by simp[show j<xs.length by lia])
    obtain⟨u2,g2,q2⟩:=r2.get (i:=j) (x:=ys[j]'s!"") (by simp[show j<ys.length by lia])
    have k1:its.toArray[j]'(by rw[List.size_toArray];exact h1)=u1:=by
     have:=(List.getElem?_eq_some_iff.mp g1).2
     simpa using this
    have k2:its2.toArray[j]'(by rw[List.size_toArray];exact h2)=u2:=by
     have:=(List.getElem?_eq_some_iff.mp g2).2
     simpa using this
    rw[k1,k2]
    exact (EqD.at I n X.A.in1 (by rw[in1_units];lia) q1 q2 (he j _ _ (by simp[show j<xs.length by lia]) (by simp[show j<ys.length by lia]))).1
   have fin:EP X pins σ Q (.bool (!(decide (xs.length=ys.length)&&(List.range (min xs.length ys.length)).all e))) s:=⟨.bl _,H,I,rfl,q⟩
   rcases hq with ⟨h1,h2⟩|⟨h1,h2⟩
   ·obtain⟨its,r1,p1,_⟩:=I.list h1
    obtain⟨its2,r2,p2,_⟩:=I.list h2
    have l1:=r1.length
    have l2:=r2.length
    by_cases hl:xs.length=ys.length
    ·have:=SeqAt.RcNeAt.lists (e:=e) p1.isList p2.isList (by rw[List.size_toArray,List.size_toArray];lia) s!"" (key its its2 r1 r2)
     rw[List.size_toArray,<-l1]at this
     rw[decide_eq_true hl,Bool.true_and,<-hl,Nat.min_self]at fin
     exact this _ _ _ _ fin
    ·have:=SeqAt.RcNeAt.lists_lengths (A:=X.A) p1.isList p2.isList (by rw[List.size_toArray,List.size_toArray];simp;lia) s!""
     rw[decide_eq_false hl,Bool.false_and]at fin
     exact this _ _ _ _ fin
   ·obtain⟨its,r1,p1,_⟩:=I.tuple h1
    obtain⟨its2,r2,p2,_⟩:=I.tuple h2
    have l1:=r1.length
    have l2:=r2.length
    have:=SeqAt.RcNeAt.tuples (e:=e) (show s.heap.IsTuple a its.toArray from p1) (show s.heap.IsTuple c its2.toArray from p2) s!"" (key its its2 r1 r2)
    rw[List.size_toArray,List.size_toArray,<-l1,<-l2,Eu_]at this
    exact this _ _ _ _ fin
theorem Vals.ofIx:∀{xs:List V} {us:List Value},us.length=xs.length->(∀(i:Nat) (v:Value),us[i]?=some v->∃x,xs[i]?=some x/\RelV x v)->Vals xs us
 |[],[],_,_=>.nil
 |[],_::_,h,_=>by simp at h
 |_::_,[],h,_=>by simp at h
 |x::xs,u::us,h,k=>by
  refine .cons ?_ (Vals.ofIx (by simpa using h) fun i v hv=>?_)
  ·obtain⟨y,e,r⟩:=k 0 u rfl
   cases e
   exact r
  ·obtain⟨y,e,r⟩:=k (i+1) v (by simpa using hv)
   exact⟨y,by simpa using e,r⟩
noncomputable def Itm (K:PySem.W.Frag)(a:Addr)(xs:List V):It:=⟨fun i H=>i<xs.length/\SqL K H a xs,fun i H x H'=>∃t v,H t=none/\xs[i]?=some v/\x=.ref t/\H'=upd H t (.tup [.int i,v]),fun i H=>i=xs.length/\SqL K H a xs⟩
theorem Dc_ {P:Program}{w:World}{K:PySem.W.Frag}{elts:List Expr}{x1}{tpos:Pos}(a e it:Addr)(hei:e≠it)(hai:a≠it)(hae:a≠e)(xs:List V):Turn P w K (.Tuple elts x1 tpos) (Itm K a xs) [e,it] e (fun i h=>∃old,IsEnum h e it (i:Nat) old/\h.IsListIter it a i) where
 mem:=by simp
 obj:=fun i h st b hb=>by
  obtain⟨old,h1,o,h2,c,d⟩:=st
  rcases List.mem_cons.mp hb with rfl|hb
  ·exact⟨_,h1,fun v z=>by cases z⟩
  ·rw[List.mem_singleton.mp hb]
   exact⟨o,h2,fun v z=>by rw[d]at z;cases z⟩
 keep:=fun i h h' st k=>by
  obtain⟨old,h1,h2⟩:=st
  exact⟨old,k e (by simp) _ h1,h2.at fun o q=>k it (by simp) o q⟩
 item:=by
  intro X hP hw hK hc i pins s σ H E I hf st hg
  subst hP hw hK
  obtain⟨hi,hq⟩:=hg
  obtain⟨old,he,hit⟩:=st
  obtain⟨its,rv,p,hz⟩:=I.list hq
  have hl:=rv.length
  have pt:s.heap.IsList a its.toArray:=p.isList
  have f1:=hf e (by simp)
  have f2:=hf it (by simp)
  have Dw:=Draws.list (prog:=X.prog) (w:=X.w) (A:=X.A.in1) (I.ok.hd hc) it a hai its.toArray
  refine wpAny_pyNext_enum_itemD Dw he ⟨hit,pt⟩ (by simp;lia) hei (by simp[hei,Ne.symm hae]) fun u h' tk hu heo hst' hget hsz hk=>?_
  have hT:s.heap.objs.size≠e:=Nat.ne_of_gt (Heap.lt_size he)
  refine⟨_,rfl,wpAny_letOwnedTupleGo_enum heo fun h2 he2 hs2=>?_⟩
  have hk2:∀b o,b≠e->b≠it->s.heap.get? b=some o->h2.get? b=some o:=fun b o h1 h3 q=>(hs2.2 b h1).trans (hk b o h1 h3 q)
  obtain⟨un,hok⟩:=I.un2 hk2 f1 f2
  have hn:H s.heap.objs.size=none:=I.hok.fresh (Nat.le_refl _)
  have hv:xs[i]?=some xs[i]:=by simp[hi]
  obtain⟨u',hu',ru⟩:=rv.get hv
  have eu:u'=u:=by
   have hu2:its[i]?=some u:=by simpa using hu
   rw[hu']at hu2
   exact Option.some.inj hu2
  subst eu
  have hget2:h2.get? s.heap.objs.size=some {cls:=.type "tuple",data:=.seq #[.int i tk,u']}:=(hs2.2 _ hT).trans hget
  have new:C5 X.prog X.w (upd H s.heap.objs.size (.tup [.int i,xs[i]])) h2 s.heap.objs.size (.tup [.int i,xs[i]]):=⟨by have:=Ao;simp;lia,[.int i tk,u'],.cons ⟨tk,rfl⟩ (.cons ru .nil),_,hget2,rfl,_,rfl⟩
  refine⟨.ref s.heap.objs.size,upd H s.heap.objs.size (.tup [.int i,xs[i]]),I.call' (s':={s with heap:=h2,toks:=tk+1}) (ch:=[e,it]) rfl (un.track (Nat.le_refl _) hn) (hok.track hn new) I.bare (fun b hb=>?_),rfl,⟨_,_,hn,hv,rfl,rfl⟩,?_,fun b hb=>?_⟩
  ·exact (hf b hb).ch
  ·refine⟨u',by simpa using he2,?_⟩
   exact hst'.1.at fun o q=>(hs2.2 it (Ne.symm hei)).trans q
  ·have hb':=hf b hb
   have:∃o,s.heap.get? b=some o:=by
    rcases List.mem_cons.mp hb with rfl|hb
    ·exact⟨_,he⟩
    ·rw[List.mem_singleton.mp hb]
     obtain⟨o,ho,_⟩:=hit
     exact⟨o,ho⟩
   obtain⟨o,ho⟩:=this
   rw[Ah (Nat.ne_of_lt (Heap.lt_size ho))]
   exact hb'.1
 done:=by
  intro X hP hw hK hc i pins s σ H E I hf st hg
  subst hP hw hK
  obtain⟨hi,hq⟩:=hg
  subst hi
  obtain⟨old,he,hit⟩:=st
  obtain⟨its,rv,p,hz⟩:=I.list hq
  have hl:=rv.length
  have pt:s.heap.IsList a its.toArray:=p.isList
  have Dw:=Draws.list (prog:=X.prog) (w:=X.w) (A:=X.A.in1) (I.ok.hd hc) it a hai its.toArray
  obtain⟨f0,f1,f2,f3,f4,f5⟩:=hf it (by simp)
  refine wpAny_pyNext_enum_endD Dw he ⟨by rw[List.size_toArray,<-hl];exact hit,pt⟩ fun h' eb=>⟨rfl,I.turned (t':=s.toks) (fun b o hb e=>eb b o hb e) f0 f1 f3 f4 f5⟩
 self:=fun A i s Q E st h=>by
  obtain⟨old,he,_⟩:=st
  exact wpAny_pyIter_enum he h
noncomputable def Hr_ (K:PySem.W.Frag)(tl:TE):TI:=fun σ H R=>tl σ H fun x H1=>∃a xs,x=.ref a/\SqL K H1 a xs/\R (Itm K a xs) H1
theorem Cm_ {K:PySem.W.Frag}     : Hr_ K te σ H Z=te σ H fun x H1=>∃a xs,x=.ref a/\SqL K H1 a xs/\Z (Itm K a xs) H1:=rfl
theorem Ge_   {x1}     (hg:Gl X "enumerate")(hm:X.mg "enumerate"=none)(he:PE X e te)(hs:starEach [e] X.env=[(false,eval e X.env)]:=by rfl):PI X (.Tuple elts x1 tpos) (.Call (.Name "enumerate" p) [e] [] pos) (Hr_ X.K te):=by
 intro pins s σ H R I h
 refine Call_ (SJ I hg hm boot_enumerate (PyProof.Rows.callWith_type1 (thn (Aa he Af hs pos pins s σ H (fun vs H1=>∃a xs,vs=[.ref a]/\SqL X.K H1 a xs/\R (Itm X.K a xs) H1) I ?_) fun us s1 ⟨vs,H1,I1,r1,q1⟩=>?_) hs rfl))
 ·show te σ H _
  have:(fun x H1=>∃a xs,x=V.ref a/\SqL X.K H1 a xs/\R (Itm X.K a xs) H1)=(fun x H1=>tNil σ H1 fun xs H2=>∃a ys,x::xs=[V.ref a]/\SqL X.K H2 a ys/\R (Itm X.K a ys) H2):=by
   funext x H1
   simp[tNil]
  rw[<-this]
  exact h
 ·obtain⟨a,xs,rfl,hq,q⟩:=q1
  cases r1 with
  |cons r rr=>
   cases rr
   cases r
   obtain⟨its,rv,p,hz⟩:=I1.list hq
   have pt:s1.heap.IsList a its.toArray:=p.isList
   obtain⟨oa,hoa,_⟩:=id pt
   have ha:=Heap.lt_size hoa
   refine call_enumerate_list pt fun h' he' hit' hsz hk=>?_
   refine wpAny_pyIter_enum (s:={s1 with heap:=h' }) he' ?_
   have I2:Inv X pins σ H1 {s1 with heap:=h' }:=I1.kept (t':=s1.toks) hk
   refine⟨s1.heap.objs.size+1,[s1.heap.objs.size+1,s1.heap.objs.size],_,_,H1,rfl,I2,Dc_ a (s1.heap.objs.size+1) s1.heap.objs.size (Nat.succ_ne_self _) (Nat.ne_of_lt ha) (Nat.ne_of_lt (Nat.lt_succ_of_lt ha)) xs,⟨_,he',hit'⟩,fun b hb=>?_,q⟩
   have hle:s1.heap.objs.size<=b:=by
    rcases List.mem_cons.mp hb with rfl|hb
    ·lia
    ·rw[List.mem_singleton.mp hb];exact Nat.le_refl _
   exact I1.fpOk hle (I1.hok.fresh hle)
theorem forM {K:PySem.W.Frag}        (Pv:Nat->St->Hp->Prop)(h0:Pv 0 σ H)(hl:∀i σ H,i<=xs.length->Pv i σ H->SqL K H a xs)
  (hs:∀i v σ H t,xs[i]?=some v->Pv i σ H->H t=none->g (.ref t) σ (upd H t (.tup [.int i,v])) fun σ2 H2=>tb {D with nx:=Pv (i+1),ct:=Pv (i+1),bk:=D.nx} σ2 H2) (hd:∀σ H,Pv xs.length σ H->D.nx σ H):ForW (Itm K a xs) g tb D σ H:=by
 refine⟨fun i m σ H=>m=xs.length-i/\i<=xs.length/\Pv i σ H,⟨xs.length,by simp,Nat.zero_le _,h0⟩,?_⟩
 rintro i m σ H ⟨rfl,hi,p⟩
 by_cases hlt:i<xs.length
 ·refine .inr ⟨⟨hlt,hl i σ H hi p⟩,Pv (i+1),fun σ' H' p'=>⟨xs.length-(i+1),by lia,rfl,hlt,p'⟩,fun x H' y=>?_⟩
  obtain⟨t,v,hn,hv,rfl,rfl⟩:=y
  exact hs i v σ H t hv p hn
 ·have e:i=xs.length:=by lia
  subst e
  exact .inl ⟨⟨rfl,hl _ σ H hi p⟩,hd σ H p⟩
theorem EK_     : GS_ x vs H Q=∃l xs i k y,x=.ref l/\vs=[.int i]/\H l=some (.lst xs) /\ -(2 ^ 63)<=i/\i<2 ^ 63/\seqIndex? i xs.length=some k/\xs[k]?=some y/\Q y (upd H l (.lst (xs.eraseIdx k))):=rfl
noncomputable def rng (i j:Int):List Int:=(List.range (j-i).toNat).map fun k:Nat=>i+(k:Int)
end L2
namespace PySem
open Sem (wp)
noncomputable def Heap.DEnt (h:Heap)(d:Addr)(es:Array DictEntry)(ep:Nat):Prop:=∃o,h.get? d=some o/\o.ExactDict/\o.data=.dict es ep
section
variable {prog:Program} {w:World} {A:Around} {E:Value->Shared->Prop} {s:Shared} {d it:Addr} {es:Array DictEntry} {i ep:Nat}
theorem Heap.DEnt.typeIs (h:s.heap.DEnt d es ep):s.TypeIs (.ref d) "dict" := let ⟨o,ho,hc,_⟩:=h;⟨o,ho,hc.1⟩
theorem Heap.DEnt.at {h h':Heap}(x:h.DEnt d es ep)(e:∀o,h.get? d=some o->h'.get? d=some o):h'.DEnt d es ep:=let ⟨o,ho,r⟩:=x;⟨o,e _ ho,r⟩
theorem Heap.DEnt.lt_size {h:Heap}(x:h.DEnt d es ep):d<h.objs.size:=let ⟨_,ho,_⟩:=x;Heap.lt_size ho
theorem S5  (hd:(d==sysModules)=false)(hm:s.heap.DEnt d es ep)
  (hQ:Q (.ref s.heap.objs.size) {s with heap:=s.heap.push {cls:=.type "dict_keyiterator",data:=.fields #[.ref d,.int 0 0,.int es.size 0,.int ep 0]} }):wpAny (model prog w) A (pyIter (.ref d)) Q E s:=by
 have hT:=hm.typeIs
 obtain⟨o,ho,hc,hdat⟩:=id hm
 refine wpAny_pyIter_slot hT F.slot_dict_iter (wpAny_call_entry F.slot_dict_iter hT F.entry_dict_iter (?_:wpAny _ _ (Builtin.«dict.__iter__» _) _ _ s) (F.args_dict_iter_1 _))
 unfold Builtin.«dict.__iter__»;refine wpAny_bind ?_
 unfold Builtin.Dict.dictSlotNone;refine wpAny_bind (wpAny_notOrdered_dict hT ?_)
 show wpAny _ _ (pure (Value.ref d)) _ _ s;refine wpAny_pure ?_
 show wpAny _ _ (Builtin.Dict.showsAll d >>= _) _ _ s;unfold Builtin.Dict.showsAll
 rw[if_neg (fun z=>by rw[hd]at z;cases z)]
 refine wpAny_bind (wpAny_pure (wpAny_bind (wpAny_dictEntries ho hdat (wpAny_bind (wpAny_dictEpoch ho hdat ?_)))))
 refine wpAny_bind (wpAny_newObj_type (wpAny_pure ⟨_,rfl,"dict_keyiterator",_,⟨_,Heap.get?_push_size _ rfl,rfl⟩,F.slot_dict_keyiterator_next.lookup,?_⟩));simpa [rawInt] using hQ
theorem Ku  (hit:s.heap.IsKeyIter it d i es.size ep)(hm:s.heap.DEnt d es ep)(hlt:i<es.size)
  (hQ:∀h',h'.IsKeyIter it d (i+1) es.size ep->Heap.SameBut it s.heap h'->Q (some es[i].key) {s with heap:=h' }):wpAny (model prog w) A (pyNext (.ref it)) Q E s:=by
 obtain⟨o,ho,hc,hd⟩:=id hit
 obtain⟨od,hod,hcd,hdd⟩:=id hm
 have hown:Builtin.Dict_items.ownsTuple "dict_keyiterator"=false:=by decide
 unfold pyNext
 refine wpAny_bind (wpAny_attempt (wpAny_callSpecial?_slot (name:=Str.ofString "__next__") hit.typeIs F.slot_dict_keyiterator_next (wpAny_call_entry F.slot_dict_keyiterator_next hit.typeIs F.entry_dict_keyiterator_next ?_ (F.args_dict_keyiterator_next_1 _))))
 refine wpAny_bind (wpAny_pure (wpAny_bind (wpAny_bind ?_)))
 first|refine wpAny_bind (wpAny_typeNameOfWhole_keyiter hit.typeIs (wpAny_pure (wpAny_bind (wpAny_fieldsOf ho hd ?_))))|refine wpAny_bind (wpAny_typeNameOf_keyiter hit.typeIs (wpAny_pure (wpAny_bind (wpAny_fieldsOf ho hd ?_))))
 simp only[hown,Bool.false_eq_true,if_false];show wpAny _ _ (if (Value.ref d==Value.none)=true then _ else _) _ _ s
 rw[if_neg (show ¬ ((Value.ref d==Value.none)=true) from fun z=>Bool.false_ne_true z)]
 refine wpAny_bind (wpAny_pure (wpAny_bind (wpAny_dictEntries hod hdd ?_)))
 rw[if_neg (by simp)];refine wpAny_bind (wpAny_pure (wpAny_bind (wpAny_dictEpoch hod hdd ?_)))
 rw[if_neg (by simp)];refine wpAny_pure ?_
 simp only[show ¬ ((i:Int)<0) from by lia,if_false,Int.toNat_natCast,Array.getElem?_eq_getElem hlt];refine wpAny_bind ?_
 first|refine wpAny_bind (wpAny_typeNameOfWhole_keyiter hit.typeIs (wpAny_pure (wpAny_bind (wpAny_isOneOf_keyiter hit.typeIs ?_))))|refine wpAny_bind (wpAny_typeNameOf_keyiter hit.typeIs (wpAny_pure (wpAny_bind (wpAny_isOneOf_keyiter hit.typeIs ?_))))
 show wpAny _ _ (setField (.ref it) 1 (rawInt ((i:Int)+1)) >>= _) _ _ s;refine wpAny_bind (wpAny_setField ho hd (by simp) ?_)
 have hit':(s.heap.update it (Obj.mapFields (·.setIfInBounds 1 (rawInt ((i:Int)+1))))).IsKeyIter it d (i+1) es.size ep:=⟨_,Heap.get?_update_self _ ho (Obj.isFreed_of_fields (Obj.data_mapFields hd _)),(Obj.cls_mapFields ..).trans hc,by rw[Obj.data_mapFields hd];simp[rawInt]⟩
 refine wpAny_bind (wpAny_holding (wpAny_bind (wpAny_isOneOf_keyiter (s:={s with heap:=s.heap.update it (Obj.mapFields (·.setIfInBounds 1 (rawInt ((i:Int)+1))))}) hit'.typeIs ?_)))
 show wpAny _ _ (pure es[i].key) _ _ _;exact wpAny_pure (wpAny_pure ⟨_,rfl,wpAny_pure (hQ _ hit' (Heap.SameBut.update ..))⟩)
theorem Lo  (hh:A.handled=none)(hit:s.heap.IsKeyIter it d i es.size ep)(hm:s.heap.DEnt d es ep)(hge:es.size<=i)
  (hQ:∀h',Heap.ExtBut it s.heap h'->Q none {s with heap:=h' }):wpAny (model prog w) A (pyNext (.ref it)) Q E s:=by
 obtain⟨o,ho,hc,hd⟩:=id hit
 obtain⟨od,hod,hcd,hdd⟩:=id hm
 have hown:Builtin.Dict_items.ownsTuple "dict_keyiterator"=false:=by decide
 unfold pyNext
 refine wpAny_bind (wpAny_attempt (wpAny_callSpecial?_slot (name:=Str.ofString "__next__") hit.typeIs F.slot_dict_keyiterator_next (wpAny_call_entry F.slot_dict_keyiterator_next hit.typeIs F.entry_dict_keyiterator_next ?_ (F.args_dict_keyiterator_next_1 _))))
 refine wpAny_bind (wpAny_pure (wpAny_bind (wpAny_bind ?_)))
 first|refine wpAny_bind (wpAny_typeNameOfWhole_keyiter hit.typeIs (wpAny_pure (wpAny_bind (wpAny_fieldsOf ho hd ?_))))|refine wpAny_bind (wpAny_typeNameOf_keyiter hit.typeIs (wpAny_pure (wpAny_bind (wpAny_fieldsOf ho hd ?_))))
 simp only[hown,Bool.false_eq_true,if_false];show wpAny _ _ (if (Value.ref d==Value.none)=true then _ else _) _ _ s
 rw[if_neg (show ¬ ((Value.ref d==Value.none)=true) from fun z=>Bool.false_ne_true z)]
 refine wpAny_bind (wpAny_pure (wpAny_bind (wpAny_dictEntries hod hdd ?_)))
 rw[if_neg (by simp)];refine wpAny_bind (wpAny_pure (wpAny_bind (wpAny_dictEpoch hod hdd ?_)))
 rw[if_neg (by simp)];refine wpAny_pure ?_
 simp only[show ¬ ((i:Int)<0) from by lia,if_false,Int.toNat_natCast,Array.getElem?_eq_none hge];refine wpAny_bind ?_
 first|refine wpAny_bind (wpAny_typeNameOfWhole_keyiter hit.typeIs (wpAny_pure ?_))|refine wpAny_bind (wpAny_typeNameOf_keyiter hit.typeIs (wpAny_pure ?_))
 show wpAny _ _ (setField (.ref it) 0 .none >>= _) _ _ s;refine wpAny_bind (wpAny_setField ho hd (by simp) ?_)
 show wpAny _ _ (newExc (.type "StopIteration") [] >>= _) _ _ _;refine wpAny_bind ?_
 simp only[newExc,newTuple];refine wpAny_bind (wpAny_newObj_type ?_ (by size_fits))
 refine wpAny_bind (m:=firstArgMember _ _) (wpAny_of_eq (a:=Value.none) (by first|rfl|(simp only[firstArgMember];rfl)) (wpAny_newObj_type ?_ (by size_fits)))
 simp only[raiseNew];refine wpAny_bind (wpAny_handled ?_)
 rw[show A.in1.handled=none from hh];refine wpAny_bind (wpAny_pure (wpAny_throw ?_))
 refine wpAny_bind (wpAny_isInstance (T := "StopIteration") (b:=true) ⟨_,Heap.get?_push_size _ rfl,rfl⟩ isSubtype_stop (wpAny_pure (hQ _ (((Heap.SameBut.update ..).extBut.push _).push _))))
theorem Walks.dent (hh:A.handled=none)(I:Addr)(hne:d≠I):Walks prog w A I [I,d] [I] es.size (fun i v=>∃e,es[i]?=some e/\v=e.key) (fun i h=>h.IsKeyIter I d i es.size ep/\h.DEnt d es ep) where
 sub:=fun b hb=>by simp at hb;simp[hb]
 frame:=fun _ _ _ st hk=>⟨st.1.at fun o e=>hk I (by simp) o e,st.2.at fun o e=>hk d (by simp) o e⟩
 item:=fun i s Q E hi st hQ=>by
  refine Ku st.1 st.2 hi fun h' hit' hs'=>?_
  exact hQ _ h' s.toks ⟨es[i],by simp[hi],rfl⟩ ⟨hit',st.2.at fun o e=>hs'.extBut d o hne e⟩ fun b o hb e=>hs'.extBut b o (fun z=>hb (by simp[z])) e
 done:=fun s Q E st hQ=>Lo hh st.1 st.2 (Nat.le_refl _) fun h' he'=>hQ h' s.toks fun b o hb e=>he' b o (fun z=>hb (by simp[z])) e
 self:=fun _ _ _ _ st hQ=>wpAny_pyIter_keyiter st.1 hQ
theorem Gf_ (lo:(d==sysModules)=false):PySem.W.KdlSrc prog w "dict" d d es.size (fun i v=>∃e,es[i]?=some e/\v=e.key) (fun h=>h.DEnt d es ep) where
 type:=fun _ hm=>hm.typeIs
 there:=fun _ hm=>⟨hm.lt_size,hm.lt_size⟩
 keep:=fun _ _ hm hk=>hm.at fun o e=>hk d (.inl rfl) o e
 notList:=by decide
 notTuple:=by decide
 hint:=fun _ _ _ _ hm hq=>PySem.W.kdl_hint_dict hm.typeIs hq
 iter:=fun _ _ hh hm=>⟨_,_,(fun _ _ hq=>S5 lo hm hq),Walks.dent hh _ (Nat.ne_of_lt hm.lt_size),⟨⟨_,Heap.get?_push_size _ rfl,rfl,rfl⟩,hm.at fun o e=>Heap.get?_push_of_some _ e⟩⟩
end
end PySem
namespace L2
open PySem PySem.Spec PyProof.Rows
theorem P0 {α β:Type}{F:α->β->Prop}:∀{l:List α} {m:List β} {i:Nat} {a:α},Paired F l m->l[i]?=some a->∃b,m[i]?=some b/\F a b
 |_,_,_,_,.nil,e=>by simp at e
 |_,_,0,_,.cons r _,e=>by simp at e;subst e;exact⟨_,rfl,r⟩
 |_,_,i+1,a,.cons _ t,e=>by
  obtain⟨b,h1,h2⟩:=P0 (i:=i) (a:=a) t (by simpa using e)
  exact⟨b,by simpa using h1,h2⟩
theorem AR_       (ok:HOk P w H h)(e:Rd H a (.dT kvs)):
  ∃o es ep,h.get? a=some o/\o.ExactDict/\o.data=.dict es ep/\es.size=kvs.length/\(a==sysModules)=false/\kvs.length<=sizeLine /\
   ∀(i:Nat) (k:List Key) (v:V),kvs[i]?=some (k,v)->∃b en,es[i]?=some en/\en.key=.ref b/\H b=some (.tup (k.map kV)):=by
 obtain⟨z,y,xs,r,o,es,ep,h1,h2,h3,h4,h5⟩:=(show C5 P w H h a (.dT kvs) from FU_ ok e)
 have hl:=Paired.length r
 have hs:es.size=kvs.length:=by rw[<-Array.length_toList,h4,List.length_map,hl]
 refine⟨o,es,ep,h1,h2,h3,hs,y,z,fun i k v hk=>?_⟩
 obtain⟨q,hq,e1,e2,_⟩:=P0 r hk
 refine⟨q.2.1,entryOfKey (tupleKind (Ed P w)) q,?_,rfl,e2⟩
 rw[<-Array.getElem?_toList,h4,List.getElem?_map,hq];rfl
section
variable {X:Cx} {pins:List (Addr×Obj)} {σ:St} {H:Hp} {s:Shared} {a:Addr}
theorem Inv.freeze   (I:Inv X pins σ H s)(e:H a=some (.dT kvs))(ho:s.heap.get? a=some o):Inv X pins σ (upd H a (.frz o (.dT kvs))) s:=by
 refine AL_ (h':=s.heap) (t':=s.toks) I (by rw[e];exact True.intro) ⟨rfl,fun _ _=>rfl⟩ ⟨o,ho⟩ ?_
 obtain⟨z,y,xs,r,q⟩:=(show C5 X.prog X.w H s.heap a (.dT kvs) from I.hok a _ e)
 refine⟨ho,z,y,xs,Paired.mapP r fun p x hx=>⟨hx.1,?_,hx.2.2⟩,q⟩
 rw[Ah (fun z=>by have h1:=hx.2.1;rw[z,e]at h1;cases h1)]
 exact hx.2.1
end
noncomputable def Itd (o:Obj)(a:Addr)(kvs:List (List Key×V)):It:=⟨fun i H=>i<kvs.length/\H a=some (.frz o (.dT kvs)),fun i H x H'=>H'=H/\∃b k v,kvs[i]?=some (k,v)/\x=.ref b/\H b=some (.tup (k.map kV)),fun i H=>kvs.length<=i/\H a=some (.frz o (.dT kvs))⟩
theorem Dd_ {P:Program}{w:World}{K:PySem.W.Frag}{tg:Expr}{o:Obj}{a it:Addr}{kvs:List (List Key×V)}{es:Array DictEntry}{ep:Nat}(hai:a≠it)(hc:o.ExactDict)(hd:o.data=.dict es ep)(hs:es.size=kvs.length):
  Turn P w K tg (Itd o a kvs) [it] it (fun i h=>h.IsKeyIter it a i es.size ep) where
 mem:=by simp
 obj:=fun i h st b hb=>by
  have e:b=it:=by simpa using hb
  subst e
  obtain⟨o,e,c,d⟩:=st
  exact⟨o,e,fun v z=>by rw[d]at z;cases z⟩
 keep:=fun i h h' st k=>st.at fun o e=>k it (by simp) o e
 item:=by
  intro X hP hw hK hcm i pins s σ H E I hf st hg
  subst hP hw hK
  obtain⟨hi,hq⟩:=hg
  obtain⟨hko,_⟩:=(show C5 X.prog X.w H s.heap a (.frz o (.dT kvs)) from I.hok a _ hq)
  obtain⟨o',es',ep',g1,g2,g3,g4,g5,g6,g7⟩:=AR_ I.hok (.inr ⟨o,hq⟩)
  rw[hko]at g1
  cases g1
  rw[hd]at g3
  cases g3
  obtain⟨kv,hkv⟩:∃kv,kvs[i]?=some kv:=⟨kvs[i],by simp[hi]⟩
  obtain⟨k,v⟩:=kv
  obtain⟨b,en,e1,e2,e3⟩:=g7 i k v hkv
  obtain⟨f0,f1,f2,f3,f4,f5⟩:=hf it (by simp)
  have hlt:i<es.size:=by lia
  have ee:es[i]=en:=by rw[Array.getElem?_eq_getElem hlt]at e1;exact Option.some.inj e1
  refine Ku st ⟨o,hko,hc,hd⟩ hlt fun h' st' sb=>?_
  have I1:Inv X pins σ H {s with heap:=h' }:=I.turned (t':=s.toks) (fun b o hb e=>(sb.2 b hb).trans e) f0 f1 f3 f4 f5
  obtain⟨io,e,c,d⟩:=id st'
  exact⟨_,rfl,FK_ (s:={s with heap:=h' }) e c d (by decide) ⟨.ref b,H,I1,(by rw[ee,e2];rfl),⟨rfl,b,k,v,hkv,rfl,e3⟩,st',fun b hb=>(hf b hb).1⟩⟩
 done:=by
  intro X hP hw hK hcm i pins s σ H E I hf st hg
  subst hP hw hK
  obtain⟨hi,hq⟩:=hg
  obtain⟨hko,_⟩:=(show C5 X.prog X.w H s.heap a (.frz o (.dT kvs)) from I.hok a _ hq)
  obtain⟨f0,f1,f2,f3,f4,f5⟩:=hf it (by simp)
  exact Lo (I.ok.hd hcm) st ⟨o,hko,hc,hd⟩ s!"" fun h' eb=>⟨rfl,I.turned (t':=s.toks) (fun b o hb e=>eb b o hb e) f0 f1 f3 f4 f5⟩
 self:=fun _ _ _ _ _ st h=>wpAny_pyIter_keyiter st h
noncomputable def Hs_ (td:TE):TI:=fun σ H R=>td σ H fun x H1=>∃a kvs,x=.ref a/\H1 a=some (.dT kvs)/\∀o,R (Itd o a kvs) (upd H1 a (.frz o (.dT kvs)))
theorem Cn_     : Hs_ te σ H Z=te σ H fun x H1=>∃a kvs,x=.ref a/\H1 a=some (.dT kvs)/\∀o,Z (Itd o a kvs) (upd H1 a (.frz o (.dT kvs))):=rfl
theorem Gg_     (hl:PE X l tl):PI X tg l (Hs_ tl):=by
 intro pins s σ H R I h
 refine thn (hl pins s σ H _ I h) fun v s1 ⟨x,H1,I1,r1,q1⟩=>?_
 obtain⟨a,kvs,e,hq,q⟩:=q1
 subst e
 cases r1
 obtain⟨o,es,ep,g1,g2,g3,g4,g5,g6,g7⟩:=AR_ I1.hok (.inl hq)
 have I2:=I1.freeze hq g1
 refine S5 g5 ⟨o,g1,g2,g3⟩ ?_
 refine⟨s1.heap.objs.size,[s1.heap.objs.size],_,_,_,rfl,I2.kept (t':=s1.toks) fun b o e=>Heap.get?_push_of_some _ e,Dd_ (o:=o) (kvs:=kvs) (Nat.ne_of_lt (Heap.lt_size g1)) g2 g3 g4,⟨_,Heap.get?_push_size _ rfl,rfl,rfl⟩,fun b hb=>?_,q o⟩
 have e:b=s1.heap.objs.size:=by simpa using hb
 subst e
 exact I2.fpOk (Nat.le_refl _) (I2.hok.fresh (Nat.le_refl _))
theorem forD         (Pv:Nat->St->Hp->Prop)(h0:Pv 0 σ H)(hl:∀i σ H,i<=kvs.length->Pv i σ H->H a=some (.frz o (.dT kvs)))
  (hs:∀i k v b σ H,kvs[i]?=some (k,v)->Pv i σ H->H b=some (.tup (k.map kV))->g (.ref b) σ H fun σ2 H2=>tb {D with nx:=Pv (i+1),ct:=Pv (i+1),bk:=D.nx} σ2 H2) (hd:∀σ H,Pv kvs.length σ H->D.nx σ H):ForW (Itd o a kvs) g tb D σ H:=by
 refine⟨fun i m σ H=>m+i=kvs.length/\Pv i σ H,⟨kvs.length,by lia,h0⟩,fun i m σ H ⟨hm,hp⟩=>?_⟩
 have hq:=hl i σ H s!"" hp
 by_cases hi:i<kvs.length
 ·refine .inr ⟨⟨hi,hq⟩,Pv (i+1),fun σ' H' h=>⟨m-1,by lia,by lia,h⟩,fun x H' hy=>?_⟩
  obtain⟨rfl,b,k,v,hk,rfl,hb⟩:=hy
  exact hs i k v b σ _ hk hp hb
 ·have e:i=kvs.length:=by lia
  subst e
  exact .inl ⟨⟨Nat.le_refl _,hq⟩,hd σ H hp⟩
theorem Iy  (hc:X.calm=true):NR X (.type "list") (fun xs H Q=>∃p kvs,xs=[.ref p]/\Rd H p (.dT kvs)/\∀l rs,H l=none->rs.length=kvs.length ->
  (∀(i:Nat) (k:List Key) (v:V),kvs[i]?=some (k,v)->∃b,rs[i]?=some (V.ref b)/\H b=some (.tup (k.map kV)))->Q (.ref l) (upd H l (.lst rs))):=by
 intro pins s σ H xs us Q I r h
 obtain⟨p,kvs,rfl,hp,q⟩:=h
 obtain⟨u,rfl,rx⟩:=vals1 r
 cases rx
 obtain⟨o,es,ep,g1,g2,g3,g4,g5,g6,g7⟩:=AR_ I.hok hp
 refine PySem.W.kdl_call (Gf_ (es:=es) (ep:=ep) g5) (I.ok.hd hc) ⟨o,g1,g2,g3⟩ s!"" fun h' tk acc' c' hk hD hacc=>?_
 let f:DictEntry->V:=fun e=>match e.key with | .ref b=>V.ref b|_=>.non
 have hat:∀(i:Nat) (k:List Key) (v:V),kvs[i]?=some (k,v)->∃b,(es.toList.map f)[i]?=some (V.ref b)/\H b=some (.tup (k.map kV)):=fun i k v hkv=>by
  obtain⟨b,en,e1,e2,e3⟩:=g7 i k v hkv
  refine⟨b,?_,e3⟩
  rw[List.getElem?_map,Array.getElem?_toList,e1]
  show some (f en)=_
  simp only[f,e2]
 have hlen:(es.toList.map f).length=kvs.length:=by rw[List.length_map,Array.length_toList,g4]
 have hv:Vals (es.toList.map f) acc'.toList:=by
  refine Vals.ofIx (by rw[hlen,<-g4];simpa using hacc.1) fun i v hv=>?_
  obtain⟨e,he,rfl⟩:=hacc.2 i v (by simpa using hv)
  have hi:i<kvs.length:=by rw[<-g4];exact (Array.getElem?_eq_some_iff.mp he).1
  obtain⟨b,en,e1,e2,e3⟩:=g7 i kvs[i].1 kvs[i].2 (by simp[hi])
  rw[he]at e1
  cases e1
  refine⟨V.ref b,?_,by rw[e2];rfl⟩
  rw[List.getElem?_map,Array.getElem?_toList,he]
  show some (f e)=_
  simp only[f,e2]
 exact⟨.ref _,_,I.laid (t':=tk) hk (Nat.le_refl _) (show C5 X.prog X.w _ h' _ (.lst (es.toList.map f)) from ⟨by rw[hlen];exact g6,acc'.toList,c',hv,by simpa using hD⟩),rfl,q _ _ (I.hok.fresh (Nat.le_refl _)) hlen hat⟩
end L2
namespace GB
open GW
variable {α:Type} [DecidableEq α]
noncomputable def KG_ (step:α->Int->α)(a:α)(ws:List Int):α:=ws.foldl step a
noncomputable def put (step:α->Int->α)(r:α)(w:List Int)(ents:List (α×List Int))(x:Nat):List (α×List Int):=if step r x∈ents.map (·.1) then ents else ents++[(step r x,w++[(x:Int)])]
structure B (L:Int)(step:α->Int->α)(st:α)(ok:α->Prop)(ents:List (α×List Int))(i:Nat)(top:Int):Prop where
 hd:ents[0]?=some (st,[])
 il:i<=ents.length
 sh:∀(j:Nat) (e:α×List Int),ents[j]?=some e->e.2.length<=j
 nod:(ents.map (·.1)).Nodup
 rng:∀e∈ents,ok e.1
 wd:∀e∈ents,isW L e.2=true/\KG_ step st e.2=e.1
 inc:∀(j k:Nat) (a b:α×List Int),j<k->ents[j]?=some a->ents[k]?=some b->EF_ L a.2<EF_ L b.2
 bnd:∀e∈ents,EF_ L e.2<top
 don:∀j,j<i->∀e,ents[j]?=some e->∀x:Int,0<=x->x<L->∃e'∈ents,e'.1=step e.1 x/\EF_ L e'.2<=EF_ L (e.2++[x])
variable {L:Int} {step:α->Int->α} {st:α} {ok:α->Prop} {ents:List (α×List Int)} {i:Nat} {top:Int}
noncomputable def KH_ (ways:List (List Int))(r:Int)(ws:List Int):Int:=ws.foldl (KG ways) r
end GB
namespace L2
open PySem PySem.Spec PyProof.Rows GW GB
noncomputable def TK (H H':Hp):Prop:=∀b xs,H b=some (.tup xs)->H' b=some (.tup xs)
theorem TK.refl (H:Hp):TK H H:=fun _ _ h=>h
theorem TK.of  (s:Same H H'):TK H H':=fun b xs h=>s b _ h
theorem TK.trans  (a:TK H H')(b:TK H' H''):TK H H'':=fun c xs h=>b c xs (a c xs h)
theorem TK.new    (h:H p=none):TK H (upd H p o):=TK.of (Same.new h)
theorem TK.lst {H:Hp}{p:Addr}{o:HO}{xs:List V}(h:H p=some (.lst xs)):TK H (upd H p o):=fun b ys e=>by rw[Ah (fun z=>by rw[z,h]at e;cases e)];exact e
theorem TK.dT {H:Hp}{p:Addr}{o:HO}{kvs:List (List Key×V)}(h:H p=some (.dT kvs)):TK H (upd H p o):=fun b ys e=>by rw[Ah (fun z=>by rw[z,h]at e;cases e)];exact e
end L2
namespace L2
theorem EL_    : GT_ σ H Q=∀p,H p=none->Q (.ref p) (upd H p (.dT [])):=rfl
end L2
namespace L2
open PySem PySem.Spec PyProof.Rows GW
theorem Same.none  (s:Same H H')  (h:H' p=none):H p=none:=by
 cases e:H p with
 |none=>rfl
 |some u=>rw[s _ _ e]at h;cases h
noncomputable def Au (K:PySem.W.Frag)(H:Hp)(xs:List V)(ws:List (List Int)):Prop:=xs.length=ws.length/\∀(i:Nat) (w:List Int),ws[i]?=some w->∃t,xs[i]?=some (.ref t)/\H t=some (.tup (w.map V.int))
theorem Au.nil {K:PySem.W.Frag}  : Au K H [] []:=⟨rfl,fun i w h=>by simp at h⟩
theorem Au.mono {K:PySem.W.Frag}    (h:Au K H xs ws)(k:TK H H'):Au K H' xs ws:=by
 refine⟨h.1,fun i w hw=>?_⟩
 obtain⟨t,a,b⟩:=h.2 i w hw
 exact⟨t,a,k _ _ b⟩
theorem Au.snoc {K:PySem.W.Frag}    (h:Au K H xs ws)   (ht:H t=some (.tup (w.map V.int))):Au K H (xs++[.ref t]) (ws++[w]):=by
 refine⟨by rw[List.length_append,List.length_append,h.1];rfl,fun i v hi=>?_⟩
 by_cases hil:i<ws.length
 ·rw[List.getElem?_append_left hil]at hi
  rw[List.getElem?_append_left (by rw[h.1];exact hil)]
  exact h.2 i v hi
 ·have:=(List.getElem?_eq_some_iff.mp hi).1
  rw[List.length_append,List.length_singleton]at this
  have ei:i=ws.length:=by lia
  subst ei
  rw[List.getElem?_append_right (Nat.le_refl _),Nat.sub_self]at hi
  simp at hi
  subst hi
  refine⟨t,?_,ht⟩
  rw[List.getElem?_append_right (by rw[h.1];exact Nat.le_refl _),h.1,Nat.sub_self];rfl
theorem Au.at {K:PySem.W.Frag}{H:Hp}{xs:List V}{ws:List (List Int)}(h:Au K H xs ws){i:Nat}{x:V}(hx:xs[i]?=some x):∃t w,ws[i]?=some w/\x=.ref t/\H t=some (.tup (w.map V.int)):=by
 have hi:i<ws.length:=by rw[<-h.1];exact (List.getElem?_eq_some_iff.mp hx).1
 obtain⟨t,a,b⟩:=h.2 i ws[i] (by simp[hi])
 rw[hx]at a
 exact⟨t,ws[i],by simp[hi],Option.some.inj a,b⟩
theorem Au.eq {K:PySem.W.Frag}     (h:Au K H xs ws)(g:Au K H ys ws)(ha:SqL K H a xs)(hb:SqL K H b ys)(n:Nat):EqD K H (n+2) (.ref a) (.ref b) true:=by
 refine .inr ⟨a,b,xs,ys,rfl,rfl,.inl ⟨ha,hb⟩,fun _=>true,fun i x y hx hy=>?_,by rw[h.1,g.1];simp⟩
 obtain⟨t,w,e1,rfl,e2⟩:=h.at hx
 obtain⟨u,w',f1,rfl,f2⟩:=g.at hy
 rw[e1]at f1
 cases f1
 have:=EqD.ints (K:=K) (H:=H) (a:=t) (c:=u) (xs:=w) (ys:=w) (.inr ⟨SqT.of e2,SqT.of f2⟩) n
 rw[decide_eq_true rfl]at this
 exact this
noncomputable def rInW (K:PySem.W.Frag)(neg:Bool):R2:=fun x y H Q=>∃p t xs w ws,y=.ref p/\x=.ref t/\SqL K H p xs/\Au K H xs ws/\SqT K H t (w.map V.int)/\Q (.bl (if neg then !decide (w∈ws) else decide (w∈ws))) H
theorem JX_ {K:PySem.W.Frag}     : rInW K neg x y H Q=∃p t xs w ws,y=.ref p/\x=.ref t/\SqL K H p xs/\Au K H xs ws/\SqT K H t (w.map V.int)/\Q (.bl (if neg then !decide (w∈ws) else decide (w∈ws))) H:=rfl
theorem Co_          (hu:X.A.units+8<cLine)(I:Inv X pins σ H s)(hp:SqL X.K H p xs)(hw:Au X.K H xs ws)(ht:SqT X.K H t (w.map V.int)):
  ∃(its:Array Value) (e:Value->Bool),s.heap.IsList p its/\(∀y,y∈its->SeqAt.EqAt X.A.in1 s y (.ref t) (e y))/\its.any e=decide (w∈ws):=by
 obtain⟨its,r,pl,_⟩:=I.list hp
 have hl:=r.length
 let e:Value->Bool:=fun y => @decide (∃(i:Nat) (a:Addr),y=.ref a/\xs[i]?=some (.ref a)/\ws[i]?=some w) (Classical.propDecidable _)
 have ee:∀(i:Nat) (a:Addr) (v:List Int),xs[i]?=some (.ref a)->ws[i]?=some v->e (.ref a)=decide (v=w):=fun i a v hx hv=>by
  obtain⟨a',a1,a2⟩:=hw.2 i v hv
  rw[hx]at a1
  cases a1
  rw[Bool.eq_iff_iff]
  show @decide _ (Classical.propDecidable _)=true↔_
  rw[@decide_eq_true_iff _ (Classical.propDecidable _),decide_eq_true_eq]
  constructor
  ·rintro⟨j,b,hb,hxj,hwj⟩
   cases hb
   obtain⟨b',b1,b2⟩:=hw.2 j w hwj
   rw[hxj]at b1
   cases b1
   rw[a2]at b2
   have:=Option.some.inj b2
   injection this with this
   exact (List.map_inj_right (fun x y z=>V.int.inj z)).mp this
  ·rintro rfl
   exact⟨i,a,rfl,hx,hv⟩
 refine⟨its.toArray,e,pl.isList,fun y hy=>?_,?_⟩
 ·have hy':y∈its:=by simpa using hy
  obtain⟨i,hi,ei⟩:=List.getElem_of_mem hy'
  have hix:i<xs.length:=by lia
  obtain⟨u,hu',ru⟩:=r.get (i:=i) (x:=xs[i]) (by simp[hix])
  rw[List.getElem?_eq_getElem hi,ei]at hu'
  cases hu'
  obtain⟨a,v,e1,e2,e3⟩:=hw.at (i:=i) (x:=xs[i]) (by simp[hix])
  rw[e2]at ru
  cases ru
  rw[ee i a v (by rw[List.getElem?_eq_getElem hix,e2]) e1]
  exact (EqD.at (x:=V.ref a) (y:=V.ref t) I 2 X.A.in1 (by rw[in1_units];lia) rfl rfl (EqD.ints (xs:=v) (ys:=w) (.inr ⟨SqT.of e3,ht⟩) 1)).1
 ·rw[Bool.eq_iff_iff,decide_eq_true_eq]
  rw[show its.toArray.any e=its.any e by simp,List.any_eq_true]
  constructor
  ·rintro⟨y,hy,hey⟩
   obtain⟨j,b,_,_,hwj⟩:=(@decide_eq_true_iff _ (Classical.propDecidable _)).mp hey
   exact List.mem_of_getElem? hwj
  ·intro hm
   obtain⟨i,hi,ei⟩:=List.getElem_of_mem hm
   obtain⟨a,a1,a2⟩:=hw.2 i w (by rw[List.getElem?_eq_getElem hi,ei])
   obtain⟨u,hu',ru⟩:=r.get a1
   cases ru
   refine⟨.ref a,List.mem_of_getElem? hu',?_⟩
   rw[ee i a w a1 (by rw[List.getElem?_eq_getElem hi,ei])]
   simp
theorem JY_  (hu:X.A.units+8<cLine):OpR X (compareOp .In) (rInW X.K false):=by
 intro pins s σ H x y v u Q I rx ry h
 obtain⟨p,t,xs,w,ws,rfl,rfl,hp,hw,ht,q⟩:=h
 cases ry
 cases rx
 obtain⟨its,e,h1,h2,h3⟩:=Co_ hu I hp hw ht
 refine SeqAt.in_listAt e h1 h2 ⟨.bl _,H,I,rfl,?_⟩
 rw[h3]
 exact q
theorem EM_  (hu:X.A.units+8<cLine):OpR X (compareOp .NotIn) (rInW X.K true):=by
 intro pins s σ H x y v u Q I rx ry h
 obtain⟨p,t,xs,w,ws,rfl,rfl,hp,hw,ht,q⟩:=h
 cases ry
 cases rx
 obtain⟨its,e,h1,h2,h3⟩:=Co_ hu I hp hw ht
 refine SeqAt.notIn_listAt e h1 h2 ⟨.bl _,H,I,rfl,?_⟩
 rw[h3]
 exact q
theorem Kt.ofS {K:PySem.W.Frag}     (ha:H a=some (.tup xs))(hb:H b=some (.tup ys))(hz:xs.length+ys.length<=sizeLine)(h:∀p H',Same H H'->H' p=some (.tup (xs++ys))->Q (.ref p) H'):Kt K (.ref a) (.ref b) H Q:=by
 refine⟨a,b,xs,ys,rfl,rfl,SqT.of ha,SqT.of hb,hz,fun e=>?_,fun _ e=>?_,fun _ _ p hp=>h p _ (Same.new hp) Ae⟩
 ·subst e;exact h b H (Same.refl _) (by simpa using hb)
 ·subst e;exact h a H (Same.refl _) (by simpa using ha)
theorem Inv.unL        (I:Inv X pins σ H s)(k:∀b o,b∉fp->s.heap.get? b=some o->h'.get? b=some o)(f:∀b∈fp,FpOk X pins H b):Un (frs X.stack) fp H H s.heap h'/\HOk X.prog X.w H h':=by
 have ne:∀b u,H b=some u->b∉fp:=fun b u q hb=>by rw[(f b hb).1]at q;cases q
 refine⟨⟨fun b o q _ _ hb=>k b o hb q,fun b o q _ _ hb=>⟨o.slots,k b o hb q⟩,fun _ _ _ n _=>n,fun b o q hb=>⟨o,k b o hb q⟩,fun _ _ q=>q,fun _ _ _ q=>q,fun b ps q=>⟨#[],by rw[q];simp⟩⟩,fun b u q=>?_⟩
 refine (I.hok b u q).stay (fun c v hc qv=>?_) (fun _ q=>q) fun _ _ q=>q
 have hne:c∉fp:=by
  rcases hc with rfl|hc
  ·exact ne _ _ q
  ·exact ne _ _ hc
 exact k c v hne qv
end L2
namespace GW
noncomputable def ins (s:List (List Int))(w:List Int):List (List Int):=if w∈s then s else s++[w]
theorem It_ (s:List (List Int))(w:List Int):(ins s w).length<=s.length+1:=by
 unfold ins;split
 ·lia
 ·simp
theorem C6:∀(l s:List (List Int)),(l.foldl ins s).length<=s.length+l.length
 |[],s=>by simp
 |w::l,s=>by
  have h1:=C6 l (ins s w)
  have h2:=It_ s w
  rw[List.foldl_cons,List.length_cons];lia
noncomputable def extW (n:Nat)(w:List Int):List (List Int):=(List.range n).map fun x:Nat=>w++[(x:Int)]
noncomputable def CN (n:Nat)(acc:List (List Int)):List (List Int):=(acc.flatMap (extW n)).foldl ins (acc.foldl ins [])
noncomputable def Kv (rows ends:List (List Int)):List (List Int):=(rows.flatMap fun r=>ends.map (r ++ ·)).foldl ins []
end GW
namespace L2
open PySem PySem.Spec PyProof.Rows GW
noncomputable def wkey (w:List Int):List Key:=w.map Sum.inl
theorem EG (w:List Int):(wkey w).map kV=w.map V.int:=by unfold wkey;rw[List.map_map];rfl
theorem Sy  (h:wkey v=wkey w):v=w:=(List.map_inj_right (fun x y z=>Sum.inl.inj z)).mp h
noncomputable def HN (ws:List (List Int))(kvs:List (List Key×V)):Prop:=kvs.map (·.1)=ws.map wkey
theorem HN.len   (h:HN ws kvs):kvs.length=ws.length:=by
 have:=congrArg List.length h
 simpa using this
theorem HN.some_iff   (h:HN ws kvs)(w:List Int):(valV kvs (wkey w)).isSome=decide (w∈ws):=by
 rw[<-J6,Bool.eq_iff_iff,decide_eq_true_eq,List.any_eq_true]
 constructor
 ·rintro⟨kv,hkv,e⟩
  have e:=of_decide_eq_true e
  have:wkey w∈ws.map wkey:=by rw[<-h,<-e];exact List.mem_map.mpr ⟨kv,hkv,rfl⟩
  obtain⟨q,hq,e2⟩:=List.mem_map.mp this
  exact Sy e2 ▸ hq
 ·intro hw
  have:wkey w∈kvs.map (·.1):=by rw[h];exact List.mem_map.mpr ⟨w,hw,rfl⟩
  obtain⟨kv,hkv,e⟩:=List.mem_map.mp this
  exact⟨kv,hkv,decide_eq_true e⟩
theorem HN.put   (h:HN ws kvs)(w:List Int)(v:V):HN (ins ws w) (putK kvs (wkey w) v):=by
 have hs:=h.some_iff w
 unfold putK ins
 rw[J6,hs]
 by_cases hw:w∈ws
 ·rw[if_pos hw,if_pos (show decide (w∈ws)=true from decide_eq_true hw)]
  unfold HN
  rw[<-h,List.map_map]
  refine List.map_congr_left fun kv _=>?_
  show (if kv.1=wkey w then (kv.1,v) else kv).1=kv.1
  split<;>rfl
 ·rw[if_neg hw,if_neg (show ¬ decide (w∈ws)=true by simp[hw])]
  unfold HN
  rw[List.map_append,List.map_append,h];rfl
theorem HN.nil:HN [] []:=rfl
theorem HN.words {K:PySem.W.Frag}     (h:HN ws kvs)(hl:rs.length=kvs.length)(hr:∀(i:Nat) (k:List Key) (v:V),kvs[i]?=some (k,v)->∃b,rs[i]?=some (V.ref b)/\H b=some (.tup (k.map kV))):Au K H rs ws:=by
 refine⟨by rw[hl,h.len],fun i w hw=>?_⟩
 have hi:i<kvs.length:=by rw[h.len];exact (List.getElem?_eq_some_iff.mp hw).1
 have e:(kvs.map (·.1))[i]?=some (wkey w):=by rw[h,List.getElem?_map,hw];rfl
 rw[List.getElem?_map,List.getElem?_eq_getElem hi]at e
 have e:kvs[i].1=wkey w:=Option.some.inj e
 obtain⟨b,b1,b2⟩:=hr i kvs[i].1 kvs[i].2 (by simp[hi])
 exact⟨b,b1,by rw[b2,e,EG]⟩
end L2
namespace PySem.W
open PySem PySem.Calls PyProof.Rows PyProof.V PySem.Spec
section
variable {prog:Program} {w:World} {A:Around} {E:Value->Shared->Prop} {s:Shared}
noncomputable abbrev itO (x:Value)(f:Bool)(d:Addr)(i n ep:Nat)(ok ov:Value):Obj:={cls:=.type "dict_itemiterator",dict:=none,data:=.fields #[x,.bool f,.ref d,.int i 0,.int n 0,.int ep 0,ok,ov],slots := #[]}
noncomputable abbrev tpO (e:DictEntry):Obj:={cls:=.type "tuple",data:=.seq #[e.key,e.val]}
theorem Gh_ {it d:Addr}       (g1:s.heap.get? it=some (itO x f d i n ep ok ov))
  (hx:x=.none \/ ∃a:Addr,∃o,x=rawInt a/\s.heap.get? a=some o/\a≠it)
  (hQ:∀h' x' f' ok' ov',h'.get? it=some (itO x' f' d i n ep ok' ov')->(x=.none->x'=rawInt s.heap.objs.size/\f'=false/\ok'=e.key/\ov'=e.val)->(x ≠ .none->x'=x)->h'.get? s.heap.objs.size=some (tpO e)->h'.objs.size=s.heap.objs.size+1->(∀b o,b≠it->s.heap.get? b=some o->h'.get? b=some o) ->
   Q (.ref s.heap.objs.size) {s with heap:=h' }):wpAny (model prog w) A (Builtin.Dict_items.pairFromOwner (.ref it) 6 e.key e.val) Q E s:=by
 have hl:=Heap.lt_size g1
 obtain⟨hp,gs,dr,tk,os⟩:=s
 wp_walk using newT
 ·show 2<=sizeLine;decide
 intro h2 g
 have k2:∀b o,hp.get? b=some o->h2.get? b=some o:=fun b o q=>by rw[<-g];exact Heap.get?_push_of_some _ q
 have g2:=k2 it _ g1
 have g0:h2.get? hp.objs.size=some (tpO e):=by rw[<-g];exact Heap.get?_push_size _ rfl
 have gz:h2.objs.size=hp.objs.size+1:=by rw[<-g];exact Heap.size_push ..
 rcases hx with rfl|⟨a,o,rfl,ha,hne⟩
 ·(wp_walk using wpAny_setField_rec g2;(focus simp);intro _ g3 k3)
  (wp_walk using wpAny_setField_rec g3;(focus simp);intro _ g4 k4)
  (wp_walk using wpAny_setField_rec g4;(focus simp);intro _ g5 k5)
  (wp_walk using wpAny_setField_rec g5;(focus simp);intro _ g6 k6)
  wp_walk
  have kk:=((k3.extBut.trans k4.extBut).trans k5.extBut).trans k6.extBut
  exact hQ _ _ _ _ _ g6 (fun _=>⟨rfl,rfl,rfl,rfl⟩) (fun z=>absurd rfl z) (kk _ _ (Nat.ne_of_gt hl) g0) ((k6.1.trans (k5.1.trans (k4.1.trans k3.1))).trans gz) fun b o n q=>kk b o n (k2 b o q)
 ·have g7:=k2 a o ha
  have e:((a:Int)).toNat=a:=Int.toNat_natCast a
  wp_walk
  refine kdx_alive (a:=(a:Int).toNat) (by rw[e];exact g7) ?_
  cases f
  ·(wp_walk using wpAny_setField_rec g2;(focus simp);intro _ g3 k3)
   wp_walk
   exact hQ _ _ _ _ _ g3 (fun z=>by cases z) (fun _=>rfl) (k3.extBut _ _ (Nat.ne_of_gt hl) g0) (k3.1.trans gz) fun b o n q=>k3.extBut b o n (k2 b o q)
  ·wp_walk
   exact hQ _ _ _ _ _ g2 (fun z=>by cases z) (fun _=>rfl) g0 gz fun b o n q=>k2 b o q
theorem itm {it d:Addr}        (hh:A.handled=none)(hit:s.heap.get? it=some (itO x f d i es.size ep ok ov))
  (hod:s.heap.get? d=some od) (hdd:od.data=.dict es ep) (hx:x=.none \/ ∃a:Addr,∃o,x=rawInt a/\s.heap.get? a=some o/\a≠it)
  (hQ:∀e h' x' f' ok' ov',es[i]?=some e->h'.get? it=some (itO x' f' d (i+1) es.size ep ok' ov')->(x=.none->x'=rawInt s.heap.objs.size/\f'=false/\ok'=e.key/\ov'=e.val)->(x ≠ .none->x'=x)->h'.get? s.heap.objs.size=some (tpO e)->h'.objs.size=s.heap.objs.size+1->(∀b o,b≠it->s.heap.get? b=some o->h'.get? b=some o) ->
   Q (some (.ref s.heap.objs.size)) {s with heap:=h' })
  (hN:es[i]?=none->∀h',Heap.ExtBut it s.heap h'->Q none {s with heap:=h' }):wpAny (model prog w) A (pyNext (.ref it)) Q E s:=by
 have hT:s.TypeIs (.ref it) "dict_itemiterator" := ⟨_,hit,rfl⟩
 have e1:=PySem.F.slot_dict_itemiterator_next
 have h1:A.in1.handled=none:=hh
 obtain⟨c,dc,da,sl⟩:=od
 replace hdd:da=_:=hdd
 subst hdd
 unfold pyNext
 refine wpAny_bind (wpAny_attempt (wpAny_callSpecial?_slot hT e1 (wpAny_call_entry e1 hT PySem.F.entry_dict_itemiterator_next ?_ (PySem.F.args_dict_itemiterator_next_1 _))))
 wp_walk using wpAny_typeNameOfWhole_itemiter hT,wpAny_fieldsOf hit rfl
 cases hi:es[i]? with
 |some e=>
  simp only[show ¬ ((i:Int)<0) from by lia,if_false,Int.toNat_natCast,hi]
  wp_walk using wpAny_typeNameOfWhole_itemiter hT,wpAny_isOneOf_itemiter hT,wpAny_setField_rec hit
  ·exact Nat.lt_of_sub_eq_succ rfl
  intro h1 g1 k1
  replace g1:h1.get? it=some (itO x f d (i+1) es.size ep ok ov):=g1
  have hT1:Shared.TypeIs {s with heap:=h1} (.ref it) "dict_itemiterator" := ⟨_,g1,rfl⟩
  have z1:h1.objs.size=s.heap.objs.size:=k1.1
  wp_walk using wpAny_isOneOf_itemiter hT1,Gh_ g1
  ·rcases hx with hx|⟨a,o,hx,ha,n⟩
   ·exact .inl hx
   ·exact .inr ⟨a,o,hx,k1.extBut a o n ha,n⟩
  intro h' x' f' ok' ov' q1 q2 q3 q4 q5 q6
  wp_walk
  simp only[z1]at q2 q4 q5 ⊢
  exact⟨_,rfl,wpAny_pure (hQ e h' x' f' ok' ov' hi q1 q2 q3 q4 q5 fun b o n q=>q6 b o n (k1.extBut b o n q))⟩
 |none=>
  simp only[show ¬ ((i:Int)<0) from by lia,if_false,Int.toNat_natCast,hi]
  wp_walk using wpAny_typeNameOfWhole_itemiter hT,wpAny_setField_rec hit
  ·exact Nat.lt_of_sub_eq_succ rfl
  intro h1 g1 k1
  wp_walk
  exact wpAny_raiseNew_none hh (wpAny_bind (wpAny_isInstance (T := "StopIteration") (b:=true) ⟨_,Heap.get?_push_size _ rfl,rfl⟩ isSubtype_stop (wpAny_pure (hN hi _ ((k1.extBut.push _).push _)))))
noncomputable def ItS (h:Heap)(it d S:Addr)(i n ep:Nat):Prop:=∃x f ok ov,h.get? it=some (itO x f d i n ep ok ov)/\(x=.none \/ ∃a:Addr,∃o,x=rawInt a/\h.get? a=some o/\a≠it/\a≠S)
theorem ItS.keep  {it d S:Addr}  (x:ItS h it d S i n ep)(hS:it≠S)(k:∀b o,b≠S->h.get? b=some o->h'.get? b=some o):ItS h' it d S i n ep:=by
 obtain⟨x,f,ok,ov,e,r⟩:=x
 refine⟨x,f,ok,ov,k _ _ hS e,r.imp_right ?_⟩
 rintro⟨a,o,e1,e2,e3,e4⟩
 exact⟨a,o,e1,k _ _ e4 e2,e3,e4⟩
theorem its {it d S:Addr}     (hh:A.handled=none)(st:ItS s.heap it d S i es.size ep)(hS:S<s.heap.objs.size)(hod:s.heap.get? d=some od)(hdd:od.data=.dict es ep)
  (hQ:∀e h',es[i]?=some e->ItS h' it d S (i+1) es.size ep->h'.get? s.heap.objs.size=some (tpO e)->h'.objs.size=s.heap.objs.size+1->(∀b o,b≠it->s.heap.get? b=some o->h'.get? b=some o)->Q (some (.ref s.heap.objs.size)) {s with heap:=h' })
  (hN:es[i]?=none->∀h',Heap.ExtBut it s.heap h'->Q none {s with heap:=h' }):wpAny (model prog w) A (pyNext (.ref it)) Q E s:=by
 obtain⟨x,f,ok,ov,hit,hx⟩:=st
 refine itm hh hit hod hdd (hx.imp_right fun ⟨a,o,e1,e2,e3,_⟩=>⟨a,o,e1,e2,e3⟩) (fun e h' x' f' ok' ov' q0 q1 q2 q3 q4 q5 q6=>hQ e h' q0 ⟨x',f',ok',ov',q1,?_⟩ q4 q5 q6) hN
 rcases hx with rfl|⟨a,o,rfl,e2,e3,e4⟩
 ·exact .inr ⟨_,_,(q2 rfl).1,q4,Nat.ne_of_gt (Heap.lt_size hit),Nat.ne_of_gt hS⟩
 ·exact .inr ⟨a,o,q3 (fun z=>by cases z),q6 a o e3 e2,e3,e4⟩
noncomputable def Tps (es:Array DictEntry)(lo:Addr)(h:Heap)(as:List Addr):Prop:=as.Pairwise (· < ·)/\∀(j:Nat) a,as[j]?=some a->lo<a/\∃e,es[j]?=some e/\h.get? a=some (tpO e)
theorem Tps.low  {lo lo':Addr}   (g:Tps es lo h as)(l:lo'<=lo):Tps es lo' h as:=⟨g.1,fun j a e=>⟨Nat.lt_of_le_of_lt l (g.2 j a e).1,(g.2 j a e).2⟩⟩
theorem Tps.keep  {lo:Addr}   (g:Tps es lo h as)(k:∀b o,lo<b->h.get? b=some o->h'.get? b=some o):Tps es lo h' as:=⟨g.1,fun j a q=>let ⟨l,e,e1,e2⟩:=g.2 j a q;⟨l,e,e1,k a _ l e2⟩⟩
theorem Tps.snoc  {lo b:Addr}    (g:Tps es lo h as)(hl:lo<b)(hb:∀a o,h.get? a=some o->a∈as->a<b)(he:es[as.length]?=some e)(ht:h.get? b=some (tpO e)):Tps es lo h (as++[b]):=by
 refine⟨List.pairwise_append.mpr ⟨g.1,List.pairwise_singleton _ _,fun a ha c hc=>?_⟩,fun j a q=>?_⟩
 ·obtain⟨j,hj⟩:=List.mem_iff_getElem?.mp ha
  obtain⟨_,e,_,e2⟩:=g.2 j a hj
  rw[List.mem_singleton.mp hc]
  exact hb a _ e2 ha
 ·rcases Nat.lt_or_ge j as.length with l|l
  ·rw[List.getElem?_append_left l]at q
   exact g.2 j a q
  ·rw[List.getElem?_append_right l]at q
   obtain⟨z,rfl⟩:j-as.length=0/\a=b:=by
    cases hz:j-as.length with
    |zero=>rw[hz]at q;exact⟨rfl,by simpa using q.symm⟩
    |succ n=>rw[hz]at q;simp at q
   obtain rfl:j=as.length:=by lia
   exact⟨hl,e,he,ht⟩
end
section
variable {prog:Program} {w:World} {A:Around} {E:Value->Shared->Prop} {s:Shared} {r d:Addr} {es:Array DictEntry} {ep:Nat} {od:Obj}
theorem Gi_   (hv:s.heap.IsItemsView v d)(hod:s.heap.get? d=some od)(hdd:od.data=.dict es ep)
  (h:Q (.ref s.heap.objs.size) {s with heap:=s.heap.push (itO .none false d 0 es.size ep .none .none)}):wpAny (model prog w) A (pyIter (.ref v)) Q E s:=by
 have hT:=hv.typeIs
 obtain⟨⟨c1,d1,a1,s1⟩,hv1,hc,hv2⟩:=hv
 replace hv2:a1=_:=hv2
 obtain⟨c,dc,da,sl⟩:=od
 replace hdd:da=_:=hdd
 subst hdd hv2
 have e1:=PySem.F.slot_dict_items_iter
 refine wpAny_pyIter_slot hT e1 (wpAny_call_entry e1 hT PySem.F.entry_dict_items_iter ?_ (PySem.F.args_dict_items_iter_1 _))
 wp_walk
 exact⟨_,rfl,_,_,⟨_,Heap.get?_push_size _ rfl,rfl⟩,PySem.F.slot_dict_itemiterator_next.lookup,h⟩
theorem Iu_ (hv:s.heap.IsItemsView r d)(hod:s.heap.get? d=some od)(hdd:od.data=.dict es ep)(hn:es.size<=sizeLine):
  Gat prog w s r (s.heap.objs.size+1) "dict_items" es.size (· = s.heap.objs.size+1) (fun i acc h=>∃as,acc=as.map Value.ref/\as.length=i/\Tps es (s.heap.objs.size+1) h as/\ItS h (s.heap.objs.size+1) d s.heap.objs.size i es.size ep/\h.get? d=some od) (fun acc h=>∃as,acc=as.map Value.ref/\as.length=es.size/\Tps es s.heap.objs.size h as) where
 type:=hv.typeIs
 nl:=by decide
 nt:=by decide
 le:=hn
 hint:=fun A t Q E k q=>kdx_hint (let ⟨o,ho,hc,_⟩:=hv;⟨o,k _ o ho,hc⟩) (q false t.toks)
 iter:=fun A h1 Q E k z q=>by
  refine Gi_ (s:={s with heap:=h1}) (let ⟨o,ho,x⟩:=hv;⟨o,k _ o ho,x⟩) (k d od hod) hdd ?_
  show Q (.ref h1.objs.size) _
  rw[z]
  refine q _ ⟨[],rfl,rfl,⟨.nil,fun j a e=>by simp at e⟩,⟨.none,false,.none,.none,?_,.inl rfl⟩,Heap.get?_push_of_some _ (k d od hod)⟩ fun b o e=>Heap.get?_push_of_some _ e
  rw[<-z]
  exact Heap.get?_push_size _ rfl
 next:=fun A i acc t Q E hh j hl hi lt q1 q2=>by
  obtain⟨as,rfl,h2,h3,h4,h5⟩:=j
  have li:s.heap.objs.size+1<t.heap.objs.size:=let ⟨_,_,_,_,e,_⟩:=h4;Heap.lt_size e
  have kp:∀h':Heap,(∀b o,b≠s.heap.objs.size+1->t.heap.get? b=some o->h'.get? b=some o)->h'.get? d=some od:=fun h' k=>k d od (Nat.ne_of_lt (Nat.lt_succ_of_lt (Heap.lt_size hod))) h5
  refine its hh h4 lt h5 hdd (fun e h' e1 st ht hz k=>?_) fun e h' x=>q2 h' t.toks (by have:=Array.getElem?_eq_none_iff.mp e;lia) ⟨as,rfl,by have:=Array.getElem?_eq_none_iff.mp e;lia,(h3.keep fun b o l q=>x b o (Nat.ne_of_gt l) q).low (Nat.le_succ _)⟩ fun b o n q=>x b o n q
  have h3':=h3.keep fun b o l q=>k b o (Nat.ne_of_gt l) q
  refine q1 _ h' t.toks (Array.getElem?_eq_some_iff.mp e1).1 ⟨as++[t.heap.objs.size],by simp,by simp[h2],h3'.snoc li (fun a o _ m=>?_) (by rw[h2];exact e1) ht,st,kp h' k⟩ fun b o n q=>k b o n q
  obtain⟨j,hj⟩:=List.mem_iff_getElem?.mp m
  obtain⟨_,_,_,e2⟩:=h3.2 j a hj
  exact Heap.lt_size e2
 frame:=fun i acc h h' ⟨as,h1,h2,h3,h4,h5⟩ k=>⟨as,h1,h2,h3.keep fun b o l q=>k b o (Nat.ne_of_gt (Nat.lt_trans (Nat.lt_succ_self _) l)) q,h4.keep (Nat.ne_of_gt (Nat.lt_succ_self _)) k,k d od (Nat.ne_of_lt (Heap.lt_size hod)) h5⟩
 nw:=fun z=>absurd z (Nat.ne_of_lt (Nat.lt_succ_self _))
theorem itm_list  (hh:A.handled=none)(hv:s.heap.IsItemsView r d)(hod:s.heap.get? d=some od)(hdd:od.data=.dict es ep)(hn:es.size<=sizeLine)
  (hQ:∀h' tk acc c as,(∀b o,s.heap.get? b=some o->h'.get? b=some o)->h'.get? s.heap.objs.size=some (lsO acc c)->as.length=es.size->Tps es s.heap.objs.size h' as->acc.toList=as.map Value.ref->Q (.ref s.heap.objs.size) {s with heap:=h',toks:=tk}):
  wpAny (model prog w) A (call (.type "list") [.ref r]) Q E s:=
 (Iu_ hv hod hdd hn).list hh fun h' tk acc c ⟨as,f1,f2,f3⟩ _ k3 k4=>hQ h' tk acc.toArray c as (fun b o q=>k4 b o (Nat.ne_of_lt (Nat.lt_succ_of_lt (Heap.lt_size q))) q) k3 f2 f3 (by simpa using f1)
end
end PySem.W
namespace L2
open PySem PySem.Spec PyProof.Rows
theorem Cp_       (ok:HOk P w H h)(e:Rd H a (.dT kvs)):
  ∃o es ep,h.get? a=some o/\o.ExactDict/\o.data=.dict es ep/\es.size=kvs.length/\(a==sysModules)=false/\kvs.length<=sizeLine /\
   ∀(i:Nat) (k:List Key) (v:V),kvs[i]?=some (k,v)->∃b en,es[i]?=some en/\en.key=.ref b/\H b=some (.tup (k.map kV))/\RelV v en.val:=by
 obtain⟨z,y,xs,r,o,es,ep,h1,h2,h3,h4,h5⟩:=(show C5 P w H h a (.dT kvs) from FU_ ok e)
 have hl:=Paired.length r
 have hs:es.size=kvs.length:=by rw[<-Array.length_toList,h4,List.length_map,hl]
 refine⟨o,es,ep,h1,h2,h3,hs,y,z,fun i k v hk=>?_⟩
 obtain⟨q,hq,e1,e2,e3⟩:=P0 r hk
 refine⟨q.2.1,entryOfKey (tupleKind (Ed P w)) q,?_,rfl,e2,e3⟩
 rw[<-Array.getElem?_toList,h4,List.getElem?_map,hq];rfl
noncomputable def AS_ (v d:Addr):HO:=.ext (fun h=>h.IsItemsView v d)
noncomputable def Ht_ (td:TE):TE:=fun σ H Q=>td σ H fun x H1=>∃d kvs,x=.ref d/\Rd H1 d (.dT kvs)/\∀v,H1 v=none->Q (.ref v) (upd H1 v (AS_ v d))
theorem EN_     : Ht_ td σ H Q=td σ H fun x H1=>∃d kvs,x=.ref d/\Rd H1 d (.dT kvs)/\∀v,H1 v=none->Q (.ref v) (upd H1 v (AS_ v d)):=rfl
theorem Gj_     (ho:PE X o td)(hbase:attributeBase o "items" X.env (eval o X.env)=eval o X.env:=by rfl)(hline:(apos.endLine==cpos.line)=true:=by rfl):PE X (.Call (.Attribute o "items" apos) [] [] cpos) (Ht_ td):=by
 intro pins s σ H Q I h
 refine wpAny_Call_method0_late hbase hline (thn (ho pins s σ H _ I h) fun v s1 ⟨x,H1,I1,r1,d,kvs,ex,hd,q⟩=>?_)
 subst ex
 obtain rfl:v=Value.ref d:=r1
 obtain⟨od,es,ep,g1,g2,g3,g4,g5,g6,g7⟩:=Cp_ I1.hok hd
 have hT:s1.TypeIs (.ref d) "dict" := ⟨od,g1,g2.1⟩
 refine⟨"dict","dict.items",PySem.F.plainAttrs_dict,PySem.F.slot_dict_items,PySem.F.type_dict_items,hT,fun b e=>?_,Calls.callWith_builtin rfl (PySem.evalArgs_none ?_)⟩
 ·cases e
  exact⟨od,g1,g2.2.1⟩
 refine wpAny_call_entry PySem.F.slot_dict_items hT PySem.F.entry_dict_items (?_:wpAny _ _ (Builtin.«dict.items» _) _ _ s1) (PySem.F.args_dict_items_1 _)
 unfold Builtin.«dict.items»
 refine wpAny_bind ?_
 unfold Builtin.Dict.noArgs
 refine wpAny_bind (wpAny_notOrdered_dict hT ?_)
 show wpAny _ _ (pure d) _ _ s1
 refine wpAny_pure ?_
 show wpAny _ _ (Builtin.Dict.showsAll d >>= _) _ _ s1
 unfold Builtin.Dict.showsAll
 rw[if_neg (by rw[g5];exact Bool.false_ne_true)]
 refine wpAny_bind (wpAny_pure ?_)
 refine wpAny_bind (wpAny_newObj_type (wpAny_pure ⟨_,rfl,?_⟩))
 have new:C5 X.prog X.w (upd H1 s1.heap.objs.size (AS_ s1.heap.objs.size d)) (s1.heap.push {cls:=.type "dict_items",data:=.fields #[.ref d]}) s1.heap.objs.size (AS_ s1.heap.objs.size d):=
  ⟨⟨_,Heap.get?_push_size _ rfl,rfl,rfl⟩,⟨_,Heap.get?_push_size _ rfl⟩,fun h1 h2 ⟨o,e,r⟩ k=>⟨o,k o e,r⟩⟩
 exact⟨.ref _,_,I1.laid (t':=s1.toks) (fun b u e=>Heap.get?_push_of_some _ e) (Nat.le_refl _) new,rfl,q _ (I1.hok.fresh (Nat.le_refl _))⟩
theorem Cq_ {P:Program}{w:World}{fs:List Addr}{H0:Hp}{h0 h':Heap}:∀(as:List (Addr×List V)),(as.map (·.1)).Nodup ->
  (∀p∈as,h0.objs.size<=p.1/\p.2.length<=sizeLine/\∃its:List Value,Vals p.2 its/\IsTup h' p.1 its.toArray)->∀H,Un fs [] H0 H h0 h'->HOk P w H h'->(∀p∈as,H p.1=none) ->
  ∃H2,Un fs [] H0 H2 h0 h'/\HOk P w H2 h'/\Same H H2/\(∀p∈as,H2 p.1=some (.tup p.2))/\∀b,b∉as.map (·.1)->H2 b=H b
 |[],_,_,H,u,k,_=>⟨H,u,k,Same.refl _,(fun p hp=>by simp at hp),fun b _=>rfl⟩
 |p::r,nd,hp,H,u,k,hn=>by
  rw[List.map_cons,List.nodup_cons]at nd
  obtain⟨h1,h2,its,h3,h4⟩:=hp p List.mem_cons_self
  have hnp:=hn p List.mem_cons_self
  have k2:HOk P w (upd H p.1 (.tup p.2)) h':=k.track hnp ⟨h2,its,h3,h4⟩
  obtain⟨H2,e1,e2,e3,e4,e5⟩:=Cq_ r nd.2 (fun q hq=>hp q (List.mem_cons_of_mem _ hq)) (upd H p.1 (.tup p.2)) (u.track h1 hnp) k2 (fun q hq=>by
   have hne:q.1≠p.1:=fun z=>nd.1 (by rw[<-z];exact List.mem_map_of_mem hq)
   rw[Ah hne]
   exact hn q (List.mem_cons_of_mem _ hq))
  refine⟨H2,e1,e2,(Same.new hnp).trans e3,fun q hq=>?_,fun b hb=>?_⟩
  ·rcases List.mem_cons.mp hq with rfl|hq
   ·exact e3 _ _ Ae
   ·exact e4 q hq
  ·rw[List.map_cons,List.mem_cons,not_or]at hb
   rw[e5 b hb.2,Ah hb.1]
theorem Vals.two'   (h1:RelV x u)(h2:RelV y v):Vals [x,y] [u,v]:=.cons h1 (.cons h2 .nil)
theorem JZ_:∀as:List Addr,Vals (as.map V.ref) (as.map Value.ref)
 |[]=>.nil
 |_::r=>.cons rfl (JZ_ r)
theorem EO_ {X:Cx}{pins:List (Addr×Obj)}{σ:St}{H:Hp}{s:Shared}{kvs:List (List Key×V)}{es:Array DictEntry}{h':Heap}{as:List Addr}(I:Inv X pins σ H s)(hk:∀b o,s.heap.get? b=some o->h'.get? b=some o)(hal:as.length=kvs.length)(hG:PySem.W.Tps es s.heap.objs.size h' as)
  (g7:∀(i:Nat) (k:List Key) (v:V),kvs[i]?=some (k,v)->∃b en,es[i]?=some en/\en.key=.ref b/\H b=some (.tup (k.map kV))/\RelV v en.val):
  ∃H2,Un X.fs [] H H2 s.heap h'/\HOk X.prog X.w H2 h'/\Same H H2/\(∀b,b<=s.heap.objs.size->H2 b=H b)/\Vals (as.map V.ref) (as.map Value.ref)/\∀(i:Nat) (k:List Key) (x:V),kvs[i]?=some (k,x)->∃t b,(as.map V.ref)[i]?=some (V.ref t)/\H2 t=some (.tup [.ref b,x])/\H b=some (.tup (k.map kV)):=by
 have ex:∀i:Fin kvs.length,∃b:Addr,∃en,es[i.1]?=some en/\en.key=.ref b/\H b=some (.tup (kvs[i.1].1.map kV))/\RelV kvs[i.1].2 en.val:=fun i=>g7 i.1 kvs[i.1].1 kvs[i.1].2 (by simp)
 let cs:List (List V):=List.ofFn fun i:Fin kvs.length=>[V.ref (Classical.choose (ex i)),kvs[i.1].2]
 have hcl:cs.length=kvs.length:=by simp[cs]
 have hci:∀i:Fin kvs.length,cs[i.1]?=some [V.ref (Classical.choose (ex i)),kvs[i.1].2]:=fun i=>by simp[cs]
 have hz:(as.zip cs).map (·.1)=as:=List.map_fst_zip (by rw[hal,hcl];exact Nat.le_refl _)
 have hmem:∀p∈as.zip cs,∃i:Fin kvs.length,as[i.1]?=some p.1/\p.2=[V.ref (Classical.choose (ex i)),kvs[i.1].2]:=fun p hp=>by
  obtain⟨i,hi⟩:=List.mem_iff_getElem?.mp hp
  obtain⟨h1,h2⟩:=List.getElem?_zip_eq_some.mp hi
  have l:i<kvs.length:=by rw[<-hal];exact (List.getElem?_eq_some_iff.mp h1).1
  rw[hci ⟨i,l⟩]at h2
  exact⟨⟨i,l⟩,h1,(Option.some.inj h2).symm⟩
 obtain⟨H2,e1,e2,e3,e4,e5⟩:=Cq_ (as.zip cs) (by rw[hz];exact hG.1.imp fun a=>Nat.ne_of_lt a) (fun p hp=>by
  obtain⟨i,h1,h2⟩:=hmem p hp
  obtain⟨en,a1,a2,a3,a4⟩:=Classical.choose_spec (ex i)
  obtain⟨l,e,b1,b2⟩:=hG.2 i.1 p.1 h1
  rw[a1]at b1
  cases b1
  refine⟨Nat.le_of_lt l,by rw[h2];have:=Ao;simp;lia,[en.key,en.val],?_,⟨_,b2,rfl,0,rfl⟩⟩
  rw[h2,a2]
  exact Vals.two' rfl a4) H (Un.kept hk) (I.hok.kept hk) (fun p hp=>by
  obtain⟨i,h1,h2⟩:=hmem p hp
  exact I.hok.fresh (Nat.le_of_lt (hG.2 i.1 p.1 h1).1))
 refine⟨H2,e1,e2,e3,fun b hb=>e5 b ?_,?_,fun i k x hkx=>?_⟩
 ·rw[hz]
  intro z
  obtain⟨j,hj⟩:=List.mem_iff_getElem?.mp z
  exact absurd (hG.2 j b hj).1 (Nat.not_lt.mpr hb)
 ·exact JZ_ as
 ·have l:=(List.getElem?_eq_some_iff.mp hkx).1
  obtain⟨en,a1,a2,a3,a4⟩:=Classical.choose_spec (ex ⟨i,l⟩)
  have ek:kvs[i]=(k,x):=(List.getElem?_eq_some_iff.mp hkx).2
  have hai:as[i]?=some (as[i]'s!""):=by simp
  refine⟨_,_,by rw[List.getElem?_map,hai];rfl,?_,by simpa [ek] using a3⟩
  have:=e4 (as[i]'s!"",_) (List.mem_iff_getElem?.mpr ⟨i,List.getElem?_zip_eq_some.mpr ⟨hai,hci ⟨i,l⟩⟩⟩)
  simpa [ek] using this
theorem S6  (hc:X.calm=true):NR X (.type "list") (fun xs H Q=>∃v d kvs,xs=[.ref v]/\H v=some (AS_ v d)/\Rd H d (.dT kvs)/\∀l rs H',Same H H'->H' l=none->rs.length=kvs.length ->
  (∀(i:Nat) (k:List Key) (x:V),kvs[i]?=some (k,x)->∃t b,rs[i]?=some (V.ref t)/\H' t=some (.tup [.ref b,x])/\H b=some (.tup (k.map kV)))->Q (.ref l) (upd H' l (.lst rs))):=by
 intro pins s σ H xs us Q I r h
 obtain⟨p,d,kvs,rfl,hv,hp,q⟩:=h
 obtain⟨u,rfl,rx⟩:=vals1 r
 cases rx
 obtain⟨o,es,ep,g1,g2,g3,g4,g5,g6,g7⟩:=Cp_ I.hok hp
 obtain⟨hview,_⟩:=(show C5 X.prog X.w H s.heap p (AS_ p d) from I.hok p _ hv)
 refine PySem.W.itm_list (I.ok.hd hc) hview g1 g3 (by rw[g4];exact g6) fun h' tk acc c as hk hS hl hG hacc=>?_
 have hal:=hl.trans g4
 obtain⟨H2,e1,e2,e3,e5,hv,e4⟩:=EO_ I hk hal hG g7
 have hD:H2 s.heap.objs.size=none:=(e5 _ (Nat.le_refl _)).trans (I.hok.fresh (Nat.le_refl _))
 have new:C5 X.prog X.w (upd H2 s.heap.objs.size (.lst (as.map V.ref))) h' s.heap.objs.size (.lst (as.map V.ref)):=⟨by rw[List.length_map,hal];exact g6,acc.toList,c,by rw[hacc];exact hv,by simpa using hS⟩
 exact⟨.ref _,_,I.un (t':=tk) (e1.track (Nat.le_refl _) hD) (e2.track hD new),rfl,q _ _ H2 e3 hD (by rw[List.length_map,hal]) e4⟩
theorem KI_     (hg:Gl X x)(hm:∃t,X.mg x=some (.int n t))(hd:(x==("__debug__" : Str))=false:=by decide):PE X (.Name x pos) (tC (.int n)):=by
 obtain⟨t,hm⟩:=hm
 exact Lh hg hm ⟨_,rfl⟩ hd
section
variable {K:PySem.W.Frag} {ta tv td ty tx:TE} {t:TA} {f m:Str} {σ:St} {H:Hp} {Q:VK} {D:Ends} {C:Addr} {sp:Sp} {dvs:List V} {E:XK}
theorem Ka_:tFld K ta f σ H Q=ta σ H fun x H1=>∃a C dx fs v,x=.ref a/\H1 a=some (.ins C dx fs)/\Cls K C/\Fo K C f/\fs.lookup f=some v/\Q v H1:=rfl
theorem Hu_:sFld K ta tv f D σ H=tv σ H fun y H1=>ta σ H1 fun x H2=>∃a C dx fs,x=.ref a/\H2 a=some (.ins C dx fs)/\Cls K C/\Fo K C f/\fs.length<1000/\D.nx σ (upd H2 a (.ins C dx (putF f y fs))):=rfl
theorem Hv_:Ig_ C m sp dvs E ta t σ H Q=ta σ H fun x H1=>∃a dx fs,x=.ref a/\H1 a=some (.ins C dx fs)/\fs.lookup m=none/\t σ H1 fun vs H2=>sp (x::(vs++dvs)) H2 Q E:=rfl
theorem Hw_:Jo_ C sp dvs E t σ H Q=t σ H fun vs H1=>∀x dx,H1 x=none->H1 dx=none->dx≠x->sp (.ref x::(vs++dvs)) (upd (upd H1 dx (.own x)) x (.ins C dx [])) (fun v H2=>v=.non/\Q (.ref x) H2) E:=rfl
theorem EP_:GW_ td ty tx σ H Q=td σ H fun x H1=>∃a,x=.ref a/\IsD H1 a/\ty σ H1 fun y H2=>tx σ H2 fun z H3=>∃o,DGet H3 a y o/\Q (o.getD z) H3:=rfl
end
noncomputable def ents (es:List (List Int×Int)):List (List Key×V):=es.map fun e=>(wkey e.1,V.int e.2)
theorem EQ_ (es:List (List Int×Int)):HN (es.map (·.1)) (ents es):=by unfold HN ents;rw[List.map_map,List.map_map];rfl
theorem S7   (h:w∉es.map (·.1)):valV (ents es) (wkey w)=none:=by
 have:=(EQ_ es).some_iff w
 rw[decide_eq_false h]at this
 cases q:valV (ents es) (wkey w) with
 |none=>rfl
 |some v=>rw[q]at this;cases this
theorem I0:∀{es:List (List Int×Int)} {w:List Int} {m:Int},(es.map (·.1)).Nodup->(w,m)∈es->valV (ents es) (wkey w)=some (.int m)
 |[],_,_,_,h=>by cases h
 |e::r,w,m,nd,h=>by
  rw[List.map_cons,List.nodup_cons]at nd
  unfold valV ents
  rw[List.map_cons,List.find?_cons]
  by_cases hw:e.1=w
  ·have hem:e.2=m:=by
    rcases List.mem_cons.mp h with q|q
    ·rw[<-q]
    ·exact absurd (List.mem_map.mpr ⟨_,q,hw.symm⟩) nd.1
   rw[show decide ((wkey e.1,V.int e.2).1=wkey w)=true from decide_eq_true (by rw[hw]),<-hem];rfl
  ·rw[show decide ((wkey e.1,V.int e.2).1=wkey w)=false from decide_eq_false fun z=>hw (Sy z)]
   rcases List.mem_cons.mp h with q|q
   ·exact absurd (by rw[<-q]) hw
   ·exact I0 nd.2 q
theorem Cr_    (h:w∉es.map (·.1)):putK (ents es) (wkey w) (.int m)=ents (es++[(w,m)]):=by
 unfold putK
 rw[J6,S7 h,if_neg (by simp)]
 unfold ents
 rw[List.map_append];rfl
theorem De_:¬ (("letters" : Str) = "marks"):=by decide +kernel
noncomputable def YS (L:Int)(d:Addr):List (Str×V):=putF "marks" (.ref d) (putF "letters" (.int L) [])
theorem WD (L:Int)(d:Addr):(YS L d).lookup ("letters" : Str)=some (.int L):=by
 unfold YS
 rw[FP,if_neg De_,FP,if_pos rfl]
theorem GU (L:Int)(d:Addr):(YS L d).lookup ("marks" : Str)=some (.ref d):=by
 unfold YS
 rw[FP,if_pos rfl]
theorem He (L:Int)(d:Addr){m:Str}(h1:¬ m = "marks")(h2:¬ m = "letters"):(YS L d).lookup m=none:=by
 unfold YS
 rw[FP,if_neg h1,FP,if_neg h2]
 rfl
structure BookAt (C:Addr)(H:Hp)(p d:Addr)(L:Int)(es:List (List Int×Int)):Prop where
 ob:∃dx,H p=some (.ins C dx (YS L d))
 dc:H d=some (.dT (ents es))
 nd:(es.map (·.1)).Nodup
theorem BookAt.mono      (h:BookAt C H p d L es)(s:Same H H'):BookAt C H' p d L es:=by
 obtain⟨⟨dx,a⟩,b,c⟩:=h
 exact⟨⟨dx,s _ _ a⟩,s _ _ b,c⟩
end L2
namespace L2
open PySem PySem.Spec PyProof.Rows
noncomputable def ER_ (C:Addr)(m:Str)(sp:Sp)(dvs:List V)(E:St->XK)(ta:TE)(t:TA):TE:=fun σ H Q=>ta σ H fun x H1=>∃a dx fs,x=.ref a/\H1 a=some (.ins C dx fs)/\fs.lookup m=none/\t σ H1 fun vs H2=>sp (x::(vs++dvs)) H2 Q (E σ)
theorem ES_           : ER_ C m sp dvs E ta t σ H Q=ta σ H fun x H1=>∃a dx fs,x=.ref a/\H1 a=some (.ins C dx fs)/\fs.lookup m=none/\t σ H1 fun vs H2=>sp (x::(vs++dvs)) H2 Q (E σ):=rfl
theorem Cs_                  (he:PE X o ta)(c:Cls X.K C)(hm:Meth X.K C m f)(F:FnOk X.prog X.w X.K X.mg X.base CX k f fd ps sp)(hr:Room k X.A)(hb:Ap X.K fd ps ds)(hd:Vals dvs ds)(hx:∀σ,Sw CX X σ (E σ))(ha:PA X (e::es) t)
  (hst:starEach (e::es) X.env=(false,eval e X.env)::starEach es X.env:=by rfl) (hpl:(backTo pos (starEach es X.env)).any (·.1)=false:=by rfl)
  (ht:eval (.Call (.Attribute o m apos) (e::es) [] pos) X.env=(do
   let ov <- eval o X.env
   standAt apos.atName
   let (f,first) <- holding [ov] (getMethod ov m pl)
   callWith pos f first (backTo pos (starEach (e::es) X.env)) (backToKw pos (keywordEach [] X.env))):=by rfl):
  PE X (.Call (.Attribute o m apos) (e::es) [] pos) (ER_ C m sp dvs E ta t):=by
 intro pins s σ H Q I h
 refine PySem.W.methodCall_KW (pl:=pl) (thn (he pins s σ H _ I h) fun u s1 ⟨x,H1,I1,rx,a,dx,fs,ex,ea,l,q⟩=>?_) ht
 subst ex
 obtain rfl:u=Value.ref a:=rx
 refine MY I1 ea c hm l ?_
 refine PySem.W.callWith_K (first:=[.ref a]) (h₀:=X.base) I.ok.mod.kin hm.kp (thn (ha pos pins s1 σ H1 _ I1 q) fun us s2 ⟨vs,H2,I2,r,q2⟩=>⟨I2.kIn,?_⟩) hst hpl
 exact EC_ (us:=.ref a::us) (vs:=.ref a::vs) F hr hb hd (hx σ) I2 (.cons rfl r) q2
noncomputable def Hx_ (i:Nat)(f:Addr)(sp:Sp)(dvs:List V)(E:XK)(t:TA):TE:=fun σ H Q=>tVar i σ H fun v H1=>v=.ref f/\t σ H1 fun vs H2=>sp (vs++dvs) H2 Q E
theorem ET_          : Hx_ i f sp dvs E t σ H Q=tVar i σ H fun v H1=>v=.ref f/\t σ H1 fun vs H2=>sp (vs++dvs) H2 Q E:=rfl
theorem EU_     : Jm_ A σ H Z=A σ H fun vs H1=>∃i j:Int,vs=[.int i,.int j]/\(-(2 ^ 62)<=i/\i<2 ^ 62 /\ -(2 ^ 62)<=j/\j<2 ^ 62)/\Z (Itr i (j-i).toNat) H1:=rfl
section
variable {X:Cx} {CX CX':CXT} {k k':Nat} {f f':Addr} {fd fd':FuncData} {ps ps':List Str} {sp sp':Sp} {dvs dvs':List V} {ds ds':List Value} {x:Str} {p pos:Pos} {e:Expr} {es:List Expr} {t:TA}
theorem Gk_  (i:Nat)(F:FnOk X.prog X.w X.K X.mg X.base CX k f fd ps sp)(hr:Room k X.A)(hk:PySem.W.keepIn X.K (.ref f)=true)(hb:Ap X.K fd ps ds)(hd:Vals dvs ds)(hx:Lj CX X E)(ha:PA X (e::es) t)
  (hN:X.N[i]?=some x:=by rfl) (hv:Vis X.env.scope x:=by first|exact Or.inl rfl|exact Or.inr (Or.inl rfl)|exact Or.inr (Or.inr rfl)) (hdb:(x==("__debug__" : Str))=false:=by decide) (hcd:(x==("__classdict__" : Str))=false:=by decide)
  (he:starEach (e::es) X.env=(false,eval e X.env)::starEach es X.env:=by rfl) (hpl:(backTo pos (starEach es X.env)).any (·.1)=false:=by rfl):
  PE X (.Call (.Name x p) (e::es) [] pos) (Hx_ i f sp dvs E t):=by
 intro pins s σ H Q I h
 refine wpAny_Call_Name_kw (thn (pv i hN hv hdb hcd pins s σ H _ I h) fun u s1 ⟨v,H1,I1,rv,ev,q⟩=>?_)
 subst ev
 obtain rfl:u=Value.ref f:=rv
 refine PySem.W.callWith_K (h₀:=X.base) I.ok.mod.kin hk (thn (ha pos pins s1 σ H1 _ I1 q) fun us s2 ⟨vs,H2,I2,r,q2⟩=>⟨I2.kIn,?_⟩) he hpl
 exact YF F hr hb hd hx I2 r q2
end
end L2
namespace PySem
open Sem (wp)
open PySem.F
noncomputable def JI (t:Bool)(h:Heap)(l:Addr)(xs:Array Value):Prop:=match t with|false=>h.IsList l xs|true=>h.IsTuple l xs
noncomputable def Hm (t:Bool)(h:Heap)(i l:Addr)(k:Nat):Prop:=match t with|false=>h.IsListIter i l k|true=>h.IsTupleIter i l k
theorem JI.extBut   {a b items}(x:JI t h a items)(hs:Heap.ExtBut b h h')(hab:a≠b):JI t h' a items:=by
 cases t
 ·exact Heap.IsList.extBut x hs hab
 ·exact Heap.IsTuple.extBut x hs hab
theorem JI.push   {a items}(x:JI t h a items)(o:Obj):JI t (h.push o) a items:=by
 cases t
 ·exact Heap.IsList.push x o
 ·exact Heap.IsTuple.push x o
theorem JI.lt   {a items}(x:JI t h a items):a<h.objs.size:=by
 cases t
 ·obtain⟨_,e,_⟩:=x;exact Heap.lt_size e
 ·obtain⟨_,e,_⟩:=x;exact Heap.lt_size e
theorem Hm.extBut   {a b l i}(x:Hm t h a l i)(hs:Heap.ExtBut b h h')(hab:a≠b):Hm t h' a l i:=by
 cases t
 ·exact Heap.IsListIter.extBut x hs hab
 ·exact Heap.IsTupleIter.extBut x hs hab
theorem Hm.at   {a l i}(x:Hm t h a l i)(e:∀o,h.get? a=some o->h'.get? a=some o):Hm t h' a l i:=by
 cases t
 ·exact Heap.IsListIter.at x e
 ·exact Heap.IsTupleIter.at x e
theorem Hm.ob   {a l i}(x:Hm t h a l i):∃o,h.get? a=some o/\o.data=.fields #[.ref l,.int i 0]:=by
 cases t
 ·obtain⟨o,e,_,d⟩:=x;exact⟨o,e,d⟩
 ·obtain⟨o,e,_,d⟩:=x;exact⟨o,e,d⟩
section
variable {prog:Program} {w:World} {A:Around} {E:Value->Shared->Prop} {s:Shared}
theorem EV_  {it l:Addr}    (hit:Hm t s.heap it l i)(hl:JI t s.heap l items)
  (hQ:∀x h',items[i]?=some x->Hm t h' it l (i+1)->Heap.SameBut it s.heap h'->Q x {s with heap:=h' })
  (hE:items[i]?=none->A.handled=none/\∀h' e,Heap.ExtBut it s.heap h'->(∃o,h'.get? e=some o/\o.cls=.type "StopIteration")->E (.ref e) {s with heap:=h' }):wpAny (model prog w) A (Builtin.SmallTypes.nextOf (.ref it)) Q E s:=by
 cases t
 ·cases hx:items[i]? with
  |some x=>exact wpAny_nextOf_list_item hit hl hx fun h'=>hQ x h' hx
  |none=>exact wpAny_nextOf_list_end (hE hx).1 hit hl hx (hE hx).2
 ·exact Db_ hit hl hQ hE
noncomputable def Iv_ (t:Bool):Value:=match t with|false=>.type "list_iterator" |true=>.type "tuple_iterator"
theorem Hm.mk    (g:h.get? a=some {cls:=Iv_ t,data:=.fields #[.ref l,.int 0 0]}):Hm t h a l 0:=by
 cases t
 ·exact⟨_,g,rfl,rfl⟩
 ·exact⟨_,g,rfl,rfl⟩
theorem RI   {items}  (hl:JI t s.heap l items)
  (hQ:Q (.ref s.heap.objs.size) {s with heap:=s.heap.push {cls:=Iv_ t,data:=.fields #[.ref l,.int 0 0]} }):wpAny (model prog w) A (pyIter (.ref l)) Q E s:=by
 cases t
 ·exact wpAny_pyIter_list hl hQ
 ·exact wpAny_pyIter_tuple hl hQ
end
section
variable {prog:Program} {w:World} {A:Around} {E:Value->Shared->Prop} {s:Shared}
theorem EW_   {items}  (hl:JI t s.heap l items)(h:∀h',s.heap.push {cls:=Iv_ t,data:=.fields #[.ref l,.int 0 0]}=h'->Q (.ref s.heap.objs.size) {s with heap:=h' }):wpAny (model prog w) A (pyIter (.ref l)) Q E s:=RI hl (h _ rfl)
theorem zipN  {z TI TO i1 i2 l1 l2:Addr}     (D:ZipApart z TI TO i1 i2 l1 l2)(hz:IsZip s.heap z TI TO .none)(hTI:IsPair s.heap TI (.ref i1) (.ref i2))(hTO:IsPair s.heap TO a b)
  (h1:Hm t1 s.heap i1 l1 k1) (h2:Hm t2 s.heap i2 l2 k2) (hl1:JI t1 s.heap l1 xs) (hl2:JI t2 s.heap l2 ys)
  (hQ:∀x y h',xs[k1]?=some x->ys[k2]?=some y->IsZip h' z TI TO (rawInt s.heap.objs.size)->IsPair h' TO x y->Hm t1 h' i1 l1 (k1+1)->Hm t2 h' i2 l2 (k2+1)->IsPair h' s.heap.objs.size x y->h'.objs.size=s.heap.objs.size+1->(∀c o,c≠z->c≠TO->c≠i1->c≠i2->s.heap.get? c=some o->h'.get? c=some o)->Q (some (.ref s.heap.objs.size)) {s with heap:=h' })
  (hN:xs[k1]?=none\/ys[k2]?=none->A.handled=none/\∀h',(∀c o,c≠z->c≠TO->c≠i1->c≠i2->s.heap.get? c=some o->h'.get? c=some o)->Q none {s with heap:=h' }):wpAny (model prog w) A (pyNext (.ref z)) Q E s:=by
 have hT:s.TypeIs (.ref z) "zip" := ⟨_,hz,rfl⟩
 have e1:=F.slot_zip_next
 unfold pyNext
 refine wpAny_bind (wpAny_attempt (wpAny_callSpecial?_slot hT e1 (wpAny_call_entry e1 hT F.entry_zip_next ?_ (F.args_zip_next_1 _))))
 wp_walk using wpAny_setField_rec hz
 ·exact Nat.lt_of_sub_eq_succ rfl
 intro u0 g0 k0
 replace g0:IsZip u0 z TI TO .ellipsis:=g0
 have m1:Hm t1 u0 i1 l1 k1:=h1.extBut k0.extBut D.i1z
 have m2:JI t1 u0 l1 xs:=hl1.extBut k0.extBut D.l1z
 simp only[List.zipIdx_cons,List.zipIdx_nil,List.forIn_cons,List.forIn_nil]
 have stop:∀h' (e:Addr),(∀c o,c≠z->c≠TO->c≠i1->c≠i2->s.heap.get? c=some o->h'.get? c=some o)->IsZip h' z TI TO .ellipsis->(∃o,h'.get? e=some o/\o.cls=.type "StopIteration")->xs[k1]?=none\/ys[k2]?=none ->
   wpAny (model prog w) A.in1 (setField (.ref z) 0 .none) (fun _ s''=>wpAny (model prog w) A (do if <- isInstance (.ref e) (.type "StopIteration") then pure none else throw (.ref e)) Q E s'') (fun e s'=>wpAny (model prog w) A (do if <- isInstance e (.type "StopIteration") then pure none else throw e) Q E s') {s with heap:=h' }:=fun h' e kk hz' he hx=>by
  obtain⟨o,e2,e3⟩:=he
  have n:e≠z:=fun x=>by subst x;rw[hz']at e2;cases e2;simp at e3
  refine wpAny_setField_rec hz' (Nat.lt_of_sub_eq_succ rfl) fun h2 _ k2=>wpAny_bind (wpAny_isInstance (T := "StopIteration") (b:=true) ⟨o,k2.extBut e o n e2,e3⟩ isSubtype_stop (wpAny_pure ((hN hx).2 h2 fun c o n1 n2 n3 n4 q=>k2.extBut c o n1 (kk c o n1 n2 n3 n4 q))))
 wp_walk using wpAny_onRaise,EV_ (A:=A.in1) (s:={s with heap:=u0}) m1 m2
 ·intro x u1 hx m3 k3
  have y0:IsPair u1 TO a b:=k3.extBut TO _ D.TOi1 (k0.extBut TO _ D.TOz hTO)
  wp_walk using wpAny_updateSeq_pair y0
  intro u2 y2 k4
  replace y2:IsPair u2 TO x b:=y2
  have kk:∀c o,c≠z->c≠TO->c≠i1->s.heap.get? c=some o->u2.get? c=some o:=fun c o n1 n2 n3 q=>k4.extBut c o n2 (k3.extBut c o n3 (k0.extBut c o n1 q))
  have g2:IsZip u2 z TI TO .ellipsis:=k4.extBut _ _ D.TOz.symm (k3.extBut _ _ D.i1z.symm g0)
  have m4:Hm t2 u2 i2 l2 k2:=h2.at fun o q=>kk _ o D.i2z D.TOi2.symm D.i12.symm q
  have m5:JI t2 u2 l2 ys:=((hl2.extBut k0.extBut D.l2z).extBut k3.extBut D.l2i1).extBut k4.extBut D.l2TO
  wp_walk using wpAny_onRaise,EV_ (A:=A.in1) (s:={s with heap:=u2}) m4 m5
  ·intro y u3 hy m6 k5
   have y3:IsPair u3 TO x b:=k5.extBut TO _ D.TOi2 y2
   wp_walk using wpAny_updateSeq_pair y3
   intro u4 y4 k6
   replace y4:IsPair u4 TO x y:=y4
   have g4:IsZip u4 z TI TO .ellipsis:=k6.extBut _ _ D.TOz.symm (k5.extBut _ _ D.i2z.symm g2)
   have zz:u4.objs.size=s.heap.objs.size:=k6.1.trans (k5.1.trans (k4.1.trans (k3.1.trans k0.1)))
   wp_walk using newT
   ·exact (show 2<=sizeLine from by decide)
   intro u5 q5
   have kp:∀c o,u4.get? c=some o->u5.get? c=some o:=fun c o q=>by rw[<-q5];exact Heap.get?_push_of_some _ q
   have g5:=kp z _ g4
   have y5:IsPair u5 u4.objs.size x y:=by rw[<-q5];exact Heap.get?_push_size _ rfl
   have z5:u5.objs.size=u4.objs.size+1:=by rw[<-q5];exact Heap.size_push ..
   wp_walk using wpAny_setField_rec g5
   ·exact Nat.lt_of_sub_eq_succ rfl
   intro u6 g6 k7
   replace g6:IsZip u6 z TI TO (rawInt u4.objs.size):=g6
   wp_walk using wpAny_setField_rec g6
   ·exact Nat.lt_of_sub_eq_succ rfl
   intro u7 g7 k8
   replace g7:IsZip u7 z TI TO (rawInt u4.objs.size):=g7
   refine wpAny_pure ⟨_,rfl,wpAny_pure ?_⟩
   show Q (some (Value.ref u4.objs.size)) _
   have up:∀c o,c≠z->u4.get? c=some o->u7.get? c=some o:=fun c o n q=>k8.extBut c o n (k7.extBut c o n (kp c o q))
   have nz:u4.objs.size≠z:=Nat.ne_of_gt (Heap.lt_size g4)
   have y7:=k8.extBut _ _ nz (k7.extBut _ _ nz y5)
   rw[zz]at g7 y7 z5 ⊢
   exact hQ x y u7 hx hy g7 (up _ _ D.TOz y4) ((m3.at fun o q=>k6.extBut _ o D.TOi1.symm (k5.extBut _ o D.i12 (k4.extBut _ o D.TOi1.symm q))).at fun o q=>up _ o D.i1z q) ((m6.at fun o q=>k6.extBut _ o D.TOi2.symm q).at fun o q=>up _ o D.i2z q) y7 ((k8.1.trans k7.1).trans z5)
    fun c o n1 n2 n3 n4 q=>up c o n1 (k6.extBut c o n2 (k5.extBut c o n4 (kk c o n1 n2 n3 q)))
  ·refine fun hy=>⟨(hN (.inr hy)).1,fun u3 e k5 he=>?_⟩
   exact stop u3 e (fun c o n1 n2 n3 n4 q=>k5 c o n4 (kk c o n1 n2 n3 q)) (k5 z _ D.i2z.symm g2) he (.inr hy)
 ·refine fun hx=>⟨(hN (.inl hx)).1,fun u1 e k3 he=>?_⟩
  exact stop u1 e (fun c o n1 n2 n3 n4 q=>k3 c o n3 (k0.extBut c o n1 q)) (k3 z _ D.i1z.symm g0) he (.inl hx)
theorem AT_     (hl1:JI t1 s.heap l1 xs)(hl2:JI t2 s.heap l2 ys)
  (h:∀h',IsZip h' (s.heap.objs.size+4) (s.heap.objs.size+2) (s.heap.objs.size+3) .none->IsPair h' (s.heap.objs.size+2) (.ref s.heap.objs.size) (.ref (s.heap.objs.size+1))->IsPair h' (s.heap.objs.size+3) .none .none->Hm t1 h' s.heap.objs.size l1 0->Hm t2 h' (s.heap.objs.size+1) l2 0->h'.objs.size=s.heap.objs.size+5->(∀c o,s.heap.get? c=some o->h'.get? c=some o)->Q (.ref (s.heap.objs.size+4)) {s with heap:=h' }):
  wpAny (model prog w) A (call (.type "zip") [.ref l1,.ref l2]) Q E s:=by
 have M:Meets (Builtin.«zip.__new__» ⟨[.type "zip",.ref l1,.ref l2],[]⟩) fun _ R t=>t=s/\∀h',IsZip h' (s.heap.objs.size+4) (s.heap.objs.size+2) (s.heap.objs.size+3) .none->IsPair h' (s.heap.objs.size+2) (.ref s.heap.objs.size) (.ref (s.heap.objs.size+1))->IsPair h' (s.heap.objs.size+3) .none .none->Hm t1 h' s.heap.objs.size l1 0->Hm t2 h' (s.heap.objs.size+1) l2 0->h'.objs.size=s.heap.objs.size+5->(∀c o,s.heap.get? c=some o->h'.get? c=some o)->R (.ok (.ret (.ref (s.heap.objs.size+4)))) {s with heap:=h' }:=.of_wp fun prog w A R t ⟨e,q⟩=>by
  subst e
  obtain⟨hp,g,d,tk,os⟩:=t
  have hsub:=sub_zip
  wp_walk using EW_ hl1
  intro u1 q1
  obtain⟨a1,b1,c1⟩:=psh q1 rfl
  have hl2':JI t2 u1 l2 ys:=by rw[<-q1];exact JI.push hl2 _
  wp_walk using EW_ (s:=⟨u1,g,d,tk,os⟩) hl2'
  intro u2 q2
  obtain⟨a2,b2,c2⟩:=psh q2 rfl
  wp_walk using newT
  ·exact (show 2<=sizeLine from by decide)
  intro u3 q3
  obtain⟨a3,b3,c3⟩:=psh q3 rfl
  wp_walk using newT
  ·exact (show 2<=sizeLine from by decide)
  intro u4 q4
  obtain⟨a4,b4,c4⟩:=psh q4 rfl
  wp_walk
  refine⟨_,rfl,?_⟩
  have Z1:u1.objs.size=hp.objs.size+1:=c1
  have Z2:u2.objs.size=hp.objs.size+2:=(show u2.objs.size=u1.objs.size+1 from c2).trans (by rw[Z1])
  have Z3:u3.objs.size=hp.objs.size+3:=(show u3.objs.size=u2.objs.size+1 from c3).trans (by rw[Z2])
  have Z4:u4.objs.size=hp.objs.size+4:=(show u4.objs.size=u3.objs.size+1 from c4).trans (by rw[Z3])
  obtain⟨a5,b5,c5⟩:=psh (rfl:u4.push {cls:=.type "zip",data:=.fields #[.none,.bool false,.bool false,.ref u2.objs.size,.ref u3.objs.size]}=_) rfl
  replace b1:u1.get? hp.objs.size=_:=b1
  replace b2:u2.get? u1.objs.size=_:=b2
  replace b3:IsPair u3 u2.objs.size (.ref hp.objs.size) (.ref u1.objs.size):=b3
  replace b4:IsPair u4 u3.objs.size .none .none:=b4
  show R (.ok (.ret (.ref u4.objs.size))) ⟨u4.push {cls:=.type "zip",data:=.fields #[.none,.bool false,.bool false,.ref u2.objs.size,.ref u3.objs.size]},g,d,tk,os⟩
  rw[Z1,Z2]at b3
  rw[Z1]at b2
  rw[Z3]at b4
  rw[Z2,Z3,Z4]at b5
  rw[Z2,Z3]at a5 c5 ⊢
  rw[Z4]at c5 ⊢
  exact q _ b5 (a5 _ _ (a4 _ _ b3)) (a5 _ _ b4) (Hm.mk (a5 _ _ (a4 _ _ (a3 _ _ (a2 _ _ b1))))) (Hm.mk (a5 _ _ (a4 _ _ (a3 _ _ b2)))) c5 fun c o x=>a5 _ _ (a4 _ _ (a3 _ _ (a2 _ _ (a1 _ _ x))))
 exact callType_new F.called_zip (by decide) (F.typeCall_zip_2 _ _) (F.newCall_zip_2 _ _) (fun obj=>F.args_object_init_3 obj _ _) F.entry_zip_new M ⟨rfl,fun h' a b c d e f g=>⟨⟨_,a,rfl⟩,h h' a b c d e f g⟩⟩
end
end PySem
namespace L2
open PySem PySem.Spec PyProof.Rows GW
noncomputable def SqB (K:PySem.W.Frag)(H:Hp)(t:Bool)(a:Addr)(xs:List V):Prop:=match t with|false=>SqL K H a xs|true=>SqT K H a xs
theorem Inv.seqB         (I:Inv X pins σ H s)(h:SqB X.K H t a xs):∃its:List Value,Vals xs its/\JI t s.heap a its.toArray:=by
 cases t
 ·obtain⟨its,r,p,_⟩:=I.list h
  exact⟨its,r,p.isList⟩
 ·obtain⟨its,r,p,_⟩:=I.tuple h
  exact⟨its,r,p⟩
noncomputable def Itz2 (K:PySem.W.Frag)(t1 t2:Bool)(a b:Addr)(xs ys:List V):It:=⟨fun i H=>i<xs.length/\i<ys.length/\SqB K H t1 a xs/\SqB K H t2 b ys,fun i H x H'=>∃t u v,H t=none/\xs[i]?=some u/\ys[i]?=some v/\x=.ref t/\H'=upd H t (.tup [u,v]),fun i H=>(xs.length<=i\/ys.length<=i)/\SqB K H t1 a xs/\SqB K H t2 b ys⟩
theorem EX_ {P:Program}{w:World}{K:PySem.W.Frag}{elts:List Expr}{x1}{tpos:Pos}{t1 t2:Bool}{a b z TI TO i1 i2:Addr}(D:ZipApart z TI TO i1 i2 a b)(xs ys:List V):Turn P w K (.Tuple elts x1 tpos) (Itz2 K t1 t2 a b xs ys) [z,TI,TO,i1,i2] z
  (fun i h=>IsZip h z TI TO .none/\IsPair h TI (.ref i1) (.ref i2)/\(∃c d,IsPair h TO c d)/\Hm t1 h i1 a i/\Hm t2 h i2 b i) where
 mem:=by simp
 obj:=fun i h st c hc=>by
  obtain⟨h1,h2,⟨u,v,h3⟩,h4',h5'⟩:=st
  obtain⟨o4,h4,d4⟩:=h4'.ob
  obtain⟨o5,h5,d5⟩:=h5'.ob
  simp only[List.mem_cons,List.not_mem_nil,or_false]at hc
  rcases hc with rfl|rfl|rfl|rfl|rfl
  ·exact⟨_,h1,fun v z=>by cases z⟩
  ·exact⟨_,h2,fun v z=>by cases z⟩
  ·exact⟨_,h3,fun v z=>by cases z⟩
  ·exact⟨o4,h4,fun v z=>by rw[d4]at z;cases z⟩
  ·exact⟨o5,h5,fun v z=>by rw[d5]at z;cases z⟩
 keep:=fun i h h' st k=>by
  obtain⟨h1,h2,⟨u,v,h3⟩,h4,h5⟩:=st
  exact⟨k z (by simp) _ h1,k TI (by simp) _ h2,⟨u,v,k TO (by simp) _ h3⟩,h4.at fun o q=>k i1 (by simp) o q,h5.at fun o q=>k i2 (by simp) o q⟩
 item:=by
  intro X hP hw hK hc i pins s σ H E I hf st hg
  subst hP hw hK
  obtain⟨hi,hj,hq,hq2⟩:=hg
  obtain⟨hz,hTI,⟨c,d,hTO⟩,h1,h2⟩:=st
  obtain⟨its,rv,p⟩:=I.seqB hq
  obtain⟨its2,rv2,p2⟩:=I.seqB hq2
  obtain⟨u,hu,ru⟩:=rv.get (i:=i) (x:=xs[i]) (by simp[hi])
  obtain⟨v,hv,rv'⟩:=rv2.get (i:=i) (x:=ys[i]) (by simp[hj])
  have l1:=rv.length
  have l2:=rv2.length
  refine zipN D hz hTI hTO h1 h2 p p2 (fun u' v' h' eu ev g1 g2 g3 g4 g5 gs gk=>?_) fun y=>by simp at y;lia
  obtain rfl:u=u':=by simpa [hu] using eu
  obtain rfl:v=v':=by simpa [hv] using ev
  have hTz:s.heap.objs.size≠z:=Nat.ne_of_gt (Heap.lt_size hz)
  refine⟨_,rfl,wpAny_letOwnedTupleGo_zip g1 fun h2' e1 hs2=>?_⟩
  have hk2:∀b o,b ∉ [z,TI,TO,i1,i2]->s.heap.get? b=some o->h2'.get? b=some o:=fun b o hb q=>by
   simp only[List.mem_cons,List.not_mem_nil,or_false,not_or]at hb
   exact (hs2.2 b hb.1).trans (gk b o hb.1 hb.2.2.1 hb.2.2.2.1 hb.2.2.2.2 q)
  obtain⟨un,hok⟩:=I.unL hk2 hf
  have hn:H s.heap.objs.size=none:=I.hok.fresh (Nat.le_refl _)
  have new:C5 X.prog X.w (upd H s.heap.objs.size (.tup [xs[i],ys[i]])) h2' s.heap.objs.size (.tup [xs[i],ys[i]]):=⟨by have:=Ao;simp;lia,[u,v],.cons ru (.cons rv' .nil),_,(hs2.2 _ hTz).trans g5,rfl,_,rfl⟩
  refine⟨.ref s.heap.objs.size,upd H s.heap.objs.size (.tup [xs[i],ys[i]]),I.call' (s':={s with heap:=h2' }) (ch:=[z,TI,TO,i1,i2]) rfl (un.track (Nat.le_refl _) hn) (hok.track hn new) I.bare (fun b hb=>?_),rfl,⟨_,_,_,hn,by simp[hi],by simp[hj],rfl,rfl⟩,?_,fun b hb=>?_⟩
  ·exact (hf b hb).ch
  ·refine⟨e1,(hs2.2 TI D.TIz).trans (gk TI _ D.TIz D.TITO D.TIi1 D.TIi2 hTI),⟨u,v,(hs2.2 TO D.TOz).trans g2⟩,g3.at fun o q=>(hs2.2 i1 D.i1z).trans q,g4.at fun o q=>(hs2.2 i2 D.i2z).trans q⟩
  ·have hb':=hf b hb
   have:∃o,s.heap.get? b=some o:=by
    simp only[List.mem_cons,List.not_mem_nil,or_false]at hb
    rcases hb with rfl|rfl|rfl|rfl|rfl
    ·exact⟨_,hz⟩
    ·exact⟨_,hTI⟩
    ·exact⟨_,hTO⟩
    ·obtain⟨o,ho,_⟩:=h1.ob;exact⟨o,ho⟩
    ·obtain⟨o,ho,_⟩:=h2.ob;exact⟨o,ho⟩
   obtain⟨o,ho⟩:=this
   rw[Ah (Nat.ne_of_lt (Heap.lt_size ho))]
   exact hb'.1
 done:=by
  intro X hP hw hK hc i pins s σ H E I hf st hg
  subst hP hw hK
  obtain⟨hi,hq,hq2⟩:=hg
  obtain⟨hz,hTI,⟨c,d,hTO⟩,h1,h2⟩:=st
  obtain⟨its,rv,p⟩:=I.seqB hq
  obtain⟨its2,rv2,p2⟩:=I.seqB hq2
  have l1:=rv.length
  have l2:=rv2.length
  refine zipN D hz hTI hTO h1 h2 p p2 (fun u v h' eu ev=>by have a:=(Array.getElem?_eq_some_iff.mp eu).1;have b:=(Array.getElem?_eq_some_iff.mp ev).1;simp at a b;lia) fun _=>⟨I.ok.hd hc,fun h' gk=>⟨rfl,?_⟩⟩
  obtain⟨un,hok⟩:=I.unL (h':=h') (fun b o hb q=>by
   simp only[List.mem_cons,List.not_mem_nil,or_false,not_or]at hb
   exact gk b o hb.1 hb.2.2.1 hb.2.2.2.1 hb.2.2.2.2 q) hf
  exact I.call' (s':={s with heap:=h' }) (ch:=[z,TI,TO,i1,i2]) rfl un hok I.bare fun b hb=>(hf b hb).ch
 self:=fun A i s Q E st h=>wpAny_pyIter_zip st.1 h
noncomputable def Kb_ (K:PySem.W.Frag)(ta:TA):TI:=fun σ H R=>ta σ H fun vs H1=>∃a b xs ys t1 t2,vs=[.ref a,.ref b]/\SqB K H1 t1 a xs/\SqB K H1 t2 b ys/\R (Itz2 K t1 t2 a b xs ys) H1
theorem EY_ {K:PySem.W.Frag}     : Kb_ K ta σ H Z=ta σ H fun vs H1=>∃a b xs ys t1 t2,vs=[.ref a,.ref b]/\SqB K H1 t1 a xs/\SqB K H1 t2 b ys/\Z (Itz2 K t1 t2 a b xs ys) H1:=rfl
theorem Iw_   {x1}     (hg:Gl X "zip")(hm:X.mg "zip"=none)(ha:PA X [e,f] ta)(hs:starEach [e,f] X.env=[(false,eval e X.env),(false,eval f X.env)]:=by rfl)(hs2:starEach [f] X.env=[(false,eval f X.env)]:=by rfl):PI X (.Tuple elts x1 tpos) (.Call (.Name "zip" p) [e,f] [] pos) (Kb_ X.K ta):=by
 intro pins s σ H R I h
 refine Call_ (SJ I hg hm boot_zip (PyProof.Rows.callWith_type1 (thn (ha pos pins s σ H _ I h) fun us s1 ⟨vs,H1,I1,r1,q1⟩=>?_) (by rw[hs,hs2]) (by rw[hs2];rfl)))
 obtain⟨a,b,xs,ys,t1,t2,ev,hq,hq2,q⟩:=q1
 subst ev
 cases r1 with
 |cons r rr=>cases rr with
  |cons r' rr=>
   cases rr
   cases r
   cases r'
   obtain⟨its,rv,pl⟩:=I1.seqB hq
   obtain⟨its2,rv2,pl2⟩:=I1.seqB hq2
   refine AT_ pl pl2 fun h' hz hTI hTO hi1 hi2 hsz hk=>?_
   refine wpAny_pyIter_zip (s:={s1 with heap:=h' }) hz ?_
   have I2:Inv X pins σ H1 {s1 with heap:=h' }:=I1.kept (t':=s1.toks) hk
   refine⟨_,_,_,_,H1,rfl,I2,EX_ (zipApart_new pl.lt pl2.lt) xs ys,⟨hz,hTI,⟨_,_,hTO⟩,hi1,hi2⟩,fun c hc=>?_,q⟩
   have hle:s1.heap.objs.size<=c:=by
    simp only[List.mem_cons,List.not_mem_nil,or_false]at hc
    rcases hc with rfl|rfl|rfl|rfl|rfl
    ·exact Nat.le_add_right _ 4
    ·exact Nat.le_add_right _ 2
    ·exact Nat.le_add_right _ 3
    ·exact Nat.le_refl _
    ·exact Nat.le_add_right _ 1
   exact I1.fpOk hle (I1.hok.fresh hle)
theorem Kc_ {K:PySem.W.Frag}           (n:Nat)(hn1:n<=xs.length)(hn2:n<=ys.length)(hn3:xs.length=n\/ys.length=n)(Pv:Nat->List V->St->Hp->Prop)(h0:Pv 0 [] (cp.st σ) H)(hz:n<sizeLine)
  (hl:∀i zs σ H,i<=n->Pv i zs σ H->SqB K H t1 a xs/\SqB K H t2 b ys/\zs.length<=i)
  (hs:∀i u v zs σ H t,i<n->xs[i]?=some u->ys[i]?=some v->Pv i zs σ H->H t=none->g (.ref t) σ (upd H t (.tup [u,v])) fun σ2 H2=>tc σ2 H2 fun b H3=>if b=true then te σ2 H3 fun v H4=>Pv (i+1) (zs++[v]) σ2 H4 else Pv (i+1) zs σ2 H3)
  (hd:∀zs σ H,Pv n zs σ H->∀D,H D=none->Q (.ref D) (upd H D (.lst zs))):CZ_ (Itz2 K t1 t2 a b xs ys) cp g tc te σ H Q:=by
 refine⟨fun i m zs σ H=>m=n-i/\i<=n/\Pv i zs σ H,⟨n,by simp,Nat.zero_le _,h0⟩,?_⟩
 rintro i m zs σ H ⟨rfl,hi,p⟩
 obtain⟨q1,q2,ly⟩:=hl i zs σ H hi p
 refine⟨by lia,?_⟩
 by_cases hlt:i<n
 ·refine .inr ⟨⟨by lia,by lia,q1,q2⟩,Pv (i+1),fun zs' σ' H' p'=>⟨n-(i+1),by lia,rfl,hlt,p'⟩,fun x H' y=>?_⟩
  obtain⟨t,u,v,e1,e2,e3,rfl,rfl⟩:=y
  exact hs i u v zs σ H t hlt e2 e3 p e1
 ·have e:i=n:=by lia
  subst e
  exact .inl ⟨⟨by lia,q1,q2⟩,hd zs σ H p⟩
end L2
namespace Nest
noncomputable def sl (row:List Int)(b i:Nat):List Int:=(row.take i).drop b
noncomputable def outF (p e:Int)(s:List Int×Int)(x:Int):List Int×Int:=if x=e then (s.1,s.2-1) else (if s.2=0 then s.1++[x] else s.1,if p<=x then s.2+1 else s.2)
noncomputable def outS (p e:Int)(l:List Int):List Int×Int:=l.foldl (outF p e) ([],0)
noncomputable def outW (p e:Int)(l:List Int):List Int:=(outS p e l).1
noncomputable def wd (p e:Int)(row:List Int)(i a:Nat):List Int:=outW p e (sl row (a+1) i)
end Nest
namespace L2
open PySem PySem.Spec PyProof.Rows GW
theorem Ix_  {K:PySem.W.Frag}      (hK:X.K=K)(hc:X.calm=true)(h:PGs X es t)
  (hn:(assignEach es X.env).length=n:=by rfl) (hst:(assignEach es X.env).findIdx? (·.1)=none:=by rfl):PG X (.Tuple es k pos) (gTup K n t):=by
 subst hK
 exact DP_ hc h hn hst
end L2
namespace HT
open PySem PySem.Spec PyProof.Rows L2
section
variable {prog:Program} {w:World} {A:Around} {E:Value->Shared->Prop} {s:Shared}
theorem getItem_tuple_whole {t sl:Addr}   {lo hi:Option Int}  (ht:IsTup s.heap t items)(hs:s.heap.IsSliceOf sl vl vu .none)(pl:IsPart vl lo)(pu:IsPart vu hi)
  (hw:sIx items.size 0 lo=0/\sIx items.size items.size hi=items.size) (h:Q (.ref t) s):wpAny (model prog w) A (getItem (.ref t) (.ref sl)) Q E s:=by
 obtain⟨os,hos,hcs,hds⟩:=id hs
 have hTs:s.TypeIs (.ref sl) "slice" := ⟨os,hos,hcs⟩
 unfold getItem
 try with_reducible refine wpAny_holding ?_
 first|refine wpAny_bind (wpAny_pure ?_)|skip
 refine wpAny_bind (wpAny_sequenceKey ht.typeIs (by decide) ?_)
 refine wpAny_bind (wpAny_callSpecial?_slot (name:=Str.ofString "__getitem__") ht.typeIs PyProof.Rows.slot_tuple_getitem
  (wpAny_call_entry PyProof.Rows.slot_tuple_getitem ht.typeIs entry_tuple_getitem ?_ (args_tuple_getitem _ _)))
 show wpAny _ _ (Builtin.Tuple.tupleItemsOf (.ref t) >>= _) _ _ s
 refine wpAny_bind (tupleItemsOf_ ht ?_)
 refine wpAny_bind (wpAny_typeOf hTs ?_)
 rw[if_pos (by decide)]
 refine wpAny_bind (Kr hs pl pu ?_)
 rw[hw.1,hw.2]
 show wpAny _ _ (if ((((0:Nat):Int)==0&&(1:Int)==1&&(items.size-0)==items.size)=true) then _ else _) _ _ s
 rw[if_pos (by simp)]
 refine wpAny_bind ?_
 unfold Builtin.Tuple.tupleIsExact
 refine wpAny_bind (wpAny_typeOf ht.typeIs (wpAny_pure ?_))
 rw[if_pos (by decide)]
 refine wpAny_bind (wpAny_rule ?_)
 exact wpAny_pure ⟨_,rfl,wpAny_pure h⟩
end
end HT
namespace L2
open PySem PySem.Spec PyProof.Rows
theorem YT  {K:PySem.W.Frag}(h:X.K=K):OpR X (binaryOp .Add) (Kt K):=by subst h;exact J7
end L2
set_option maxHeartbeats 1000000
set_option maxHeartbeats 4000000
namespace L2
section
variable {α:Type} [DecidableEq α]
noncomputable def ins1 (acc:List α)(x:α):List α:=if x∈acc then acc else acc++[x]
noncomputable def Iy_ (acc row:List α):List α:=row.foldl ins1 acc
noncomputable def EZ_ (row:List α):List α:=Iy_ [] row
noncomputable def num (row:List α):List Int:=row.map fun x=>((EZ_ row).idxOf x:Int)
noncomputable def ncl (row:List α):Nat:=(EZ_ row).length
end
noncomputable def rowB (n:Nat)(b:List Int->Nat->Int)(w:List Int):List Int:=(List.range n).map (b w)
noncomputable abbrev StC:=List (List Int)×List Int
noncomputable def KJ_ (n:Nat)(b:List Int->Nat->Int)(w:List Int)(st:StC)(x:Nat):StC:=if ncl st.2<ncl (st.2.zip (rowB n b ((x:Int)::w))) then (st.1++[(x:Int)::w],num (st.2.zip (rowB n b ((x:Int)::w)))) else st
noncomputable def Kd_ (n:Nat)(b:List Int->Nat->Int)(w:List Int)(L:Nat)(st:StC):StC:=(List.range L).foldl (KJ_ n b w) st
noncomputable def Hy_ (n:Nat)(b:List Int->Nat->Int)(L:Nat):Nat->Nat->StC->StC
 |0,_,st=>st
 |f+1,k,st=>if k<st.1.length then Hy_ n b L f (k+1) (Kd_ n b (st.1.getD k []) L st) else st
section
variable {n L:Nat} {b:List Int->Nat->Int} {w:List Int} {st:StC}
noncomputable def wcOf (n L:Nat)(b:List Int->Nat->Int):StC:=Hy_ n b L 41 0 ([[]],num (rowB n b []))
end
end L2
namespace L2
open GW GB
noncomputable def bW (marks:List Int)(ways:List (List Int))(w:List Int)(r:Nat):Int:=marks.getD (KH_ ways (r:Int) w).toNat 0
noncomputable def cf (c:List Int)(r:Int):Int:=c.getD r.toNat 0
noncomputable def hm (c R:List Int)(r:Int):Int:=(((EZ_ (R.map (cf c))).idxOf (cf c r):Nat):Int)
noncomputable def Ke_ (c acc:List Int)(r:Int):List Int:=if cf c r∈acc.map (cf c) then acc else acc++[r]
noncomputable def FR (c R:List Int):List Int:=R.foldl (Ke_ c) []
noncomputable def cOf (L:Nat)(marks:List Int)(ways:List (List Int)):List Int:=(wcOf marks.length L (bW marks ways)).2
noncomputable def rOf (ways:List (List Int)):List Int:=(EJ_ ways).map (·.1)
noncomputable def sF (L:Nat)(marks:List Int)(ways:List (List Int)):List Int:=FR (cOf L marks ways) (rOf ways)
noncomputable def hO (L:Nat)(marks:List Int)(ways:List (List Int))(r:Int):Int:=hm (cOf L marks ways) (rOf ways) r
section
variable {L:Nat} {marks:List Int} {ways:List (List Int)}
noncomputable def wi (ways:List (List Int))(r:Int):List Int:=(((EJ_ ways).find? fun e=>decide (e.1=r)).map (·.2)).getD []
end
end L2
set_option maxHeartbeats 1000000
namespace L2
open PySem PySem.Spec PyProof.Rows
noncomputable def nt (n:Int):Str:=Str.ofString (toString n)
end L2
set_option maxHeartbeats 4000000
namespace L2
open PySem PySem.Spec PyProof.Rows
theorem Hn  : NR X (.type "tuple") (fun xs H Q=>∃p ys,xs=[.ref p]/\((SqL X.K H p ys/\∀l,H l=none->Q (.ref l) (upd H l (.tup ys)))\/False)):=fun pins s σ H xs us Q I r h=>by
 obtain⟨p,ys,e,h|h⟩:=h
 ·exact Wt pins s σ H xs us Q I r ⟨p,ys,e,.inl h⟩
 ·exact h.elim
theorem len1 {α:Type}{us:List α}(h:us.length=1):∃a,us=[a]:=by match us,h with|[a],_=>exact⟨a,rfl⟩
theorem len2 {α:Type}{us:List α}(h:us.length=2):∃a b,us=[a,b]:=by match us,h with|[a,b],_=>exact⟨a,b,rfl⟩
theorem len3 {α:Type}{us:List α}(h:us.length=3):∃a b c,us=[a,b,c]:=by match us,h with|[a,b,c],_=>exact⟨a,b,c,rfl⟩
theorem len4 {α:Type}{us:List α}(h:us.length=4):∃a b c d,us=[a,b,c,d]:=by match us,h with|[a,b,c,d],_=>exact⟨a,b,c,d,rfl⟩
theorem len6 {α:Type}{us:List α}(h:us.length=6):∃a b c d e f,us=[a,b,c,d,e,f]:=by match us,h with|[a,b,c,d,e,f],_=>exact⟨a,b,c,d,e,f,rfl⟩
end L2
set_option maxHeartbeats 1000000
set_option maxHeartbeats 4000000
namespace PySem.W
open PySem PySem.Calls PyProof.Rows PyProof.V PySem.Spec
end PySem.W
namespace L2
open PySem PySem.W PySem.Spec PySem.Calls PyProof.Rows
structure CMeth (K:PySem.W.Frag)(C:Addr)(m:Str)(f:Addr):Prop where
 sg:PySem.W.specialIn K (.ref C) "__getattribute__"=some (some (.builtin "type.__getattribute__"))
 rd:PySem.W.readsIn K C (.type "type")=true
 fc:PySem.W.findCls K (.ref C) (.type "type") m=some (.val (.ref f))
 kp:PySem.W.keepIn K (.ref f)=true
section
variable {X:Cx} {CX:CXT} {k:Nat} {f C:Addr} {fd:FuncData} {ps:List Str} {sp:Sp} {dvs:List V} {ds:List Value} {E:XK} {x m:Str} {np apos pos:Pos} {e:Expr} {es:List Expr} {t:TA}
theorem Kf_  (hg:Gl X x)(hmx:X.mg x=some (.ref C))(hm:CMeth X.K C m f)(F:FnOk X.prog X.w X.K X.mg X.base CX k f fd ps sp)(hr:Room k X.A)(hb:Ap X.K fd ps ds)(hd:Vals dvs ds)(hx:Lj CX X E)(ha:PA X (e::es) t)
  (hdb:(x==("__debug__" : Str))=false:=by decide) (hst:starEach (e::es) X.env=(false,eval e X.env)::starEach es X.env:=by rfl) (hpl:(backTo pos (starEach es X.env)).any (·.1)=false:=by rfl)
  (ht:eval (.Call (.Attribute (.Name x np) m apos) (e::es) [] pos) X.env=(do
   let ov <- eval (.Name x np) X.env
   standAt apos.atName
   let (f,first) <- holding [ov] (getMethod ov m pl)
   callWith pos f first (backTo pos (starEach (e::es) X.env)) (backToKw pos (keywordEach [] X.env))):=by rfl):
  PE X (.Call (.Attribute (.Name x np) m apos) (e::es) [] pos) (If_ sp dvs E t):=by
 intro pins s σ H Q I h
 refine PySem.W.methodCall_KW (pl:=pl) (PU I hg hmx ?_ hdb) ht
 refine PySem.W.method_cls I.kIn hm.sg (PySem.W.cls_value I.kIn hm.rd hm.fc rfl ?_)
 refine PySem.W.callWith_K (first:=[]) (h₀:=X.base) I.ok.mod.kin hm.kp (thn (ha pos pins _ σ H _ (I.tok _) h) fun us s2 ⟨vs,H2,I2,r,q2⟩=>⟨I2.kIn,?_⟩) hst hpl
 exact YF F hr hb hd hx I2 r q2
end
end L2
namespace L2
open PySem PySem.W PySem.Spec PySem.Calls PyProof.Rows
theorem Fa_                (he:PE X o ta)(c:Cls X.K C)(hm:Meth X.K C m f)(F:FnOk X.prog X.w X.K X.mg X.base CX k f fd ps sp)(hr:Room k X.A)(hb:Ap X.K fd ps ds)(hd:Vals dvs ds)(hx:∀σ,Sw CX X σ (E σ))
  (ht:eval (.Call (.Attribute o m apos) [] [] pos) X.env=(do
   let ov <- eval o X.env
   standAt apos.atName
   let (f,first) <- holding [ov] (getMethod ov m pl)
   callWith pos f first (backTo pos (starEach [] X.env)) (backToKw pos (keywordEach [] X.env))):=by rfl):
  PE X (.Call (.Attribute o m apos) [] [] pos) (ER_ C m sp dvs E ta tNil):=by
 intro pins s σ H Q I h
 refine PySem.W.methodCall_KW (pl:=pl) (thn (he pins s σ H _ I h) fun u s1 ⟨x,H1,I1,rx,a,dx,fs,ex,ea,l,q⟩=>?_) ht
 subst ex
 obtain rfl:u=Value.ref a:=rx
 refine MY I1 ea c hm l ?_
 exact PySem.W.callWith_K0 (first:=[.ref a]) I1.kIn hm.kp (EC_ (us:=[.ref a]) (vs:=[.ref a]) F hr hb hd (hx σ) I1 (.cons rfl .nil) q)
end L2
namespace L2
open PySem PySem.W PySem.Spec PySem.Calls PyProof.Rows
noncomputable def vD:Option (Option V)->(V->Prop)->Prop
 |some (some v),q=>q v
 |_,_=>False
theorem Fb_   : vD (some (some v)) q=q v:=rfl
theorem KK_   (h:vD o q):∃v,o=some (some v)/\q v:=by
 match o,h with
 |some (some v),h=>exact⟨v,rfl,h⟩
noncomputable def Kg_ (i:Nat):TE:=fun σ H Q=>vD σ[i]? fun v=>Q v H
theorem Hz_     : Kg_ i σ H Q=vD σ[i]? fun v=>Q v H:=rfl
theorem pvD  (i:Nat)   (hN:X.N[i]?=some x:=by rfl)(hv:Vis X.env.scope x:=by first|exact Or.inl rfl|exact Or.inr (Or.inl rfl)|exact Or.inr (Or.inr rfl))(hd:(x==("__debug__" : Str))=false:=by decide)
  (hcd:(x==("__classdict__" : Str))=false:=by decide):PE X (.Name x pos) (Kg_ i):=fun pins s σ H Q I h=>pv i hN hv hd hcd pins s σ H Q I (KK_ h)
noncomputable def iD:V->V->(Int->Int->Prop)->Prop
 |.int i,.int j,q=>q i j
 |x,y,q=>∃i j,x=.int i/\y=.int j/\q i j
theorem HA_   : iD (.int i) (.int j) q=q i j:=rfl
theorem Iz_   : iD x y q=∃i j,x=.int i/\y=.int j/\q i j:=by
 cases x<;>cases y<;>first|rfl|(simp[iD])
noncomputable def rID (C:Int->Int->Prop)(g:Int->Int->V):R2:=fun x y H Q=>iD x y fun i j=>C i j/\Q (g i j) H
noncomputable def rI0D (g:Int->Int->V):R2:=fun x y H Q=>iD x y fun i j=>Q (g i j) H
theorem r_ID      : rID C f x y H Q=iD x y fun i j=>C i j/\Q (f i j) H:=rfl
theorem Kh_     : rI0D f x y H Q=iD x y fun i j=>Q (f i j) H:=rfl
theorem Ki_   : rID C g=rI C g:=by
 funext x y H Q;exact Iz_
theorem IA_  : rI0D g=rI0 g:=by
 funext x y H Q;exact Iz_
theorem opD     (h:OpR X f (rI C g)):OpR X f (rID C g):=by rw[Ki_];exact h
theorem opD0    (h:OpR X f (rI0 g)):OpR X f (rI0D g):=by rw[IA_];exact h
noncomputable def bD:V->(Bool->Prop)->Prop
 |.bl c,q=>q c
 |x,q=>∃c,x=.bl c/\q c
theorem Kj_   : bD (.bl c) q=q c:=rfl
theorem Kk_   : bD x q=∃c,x=.bl c/\q c:=by
 cases x<;>first|rfl|(simp[bD])
noncomputable def tBD (t:TE):TT:=fun σ H Q=>t σ H fun x H1=>bD x fun c=>Q c H1
theorem r_BD     : tBD te σ H R=te σ H fun x H1=>bD x fun c=>R c H1:=rfl
theorem HB_  : tBD t=tB t:=by
 funext σ H Q
 show t σ H _=t σ H _
 congr 1
 funext x H1;exact Kk_
theorem IB_  : tBD t=FM_ t:=HB_
theorem ptB    (h:PT X e (tB t)):PT X e (tBD t):=by rw[HB_];exact h
theorem ptT    (h:PT X e (FM_ t)):PT X e (tBD t):=by rw[IB_];exact h
noncomputable def eD:V->V->Prop->Prop
 |.int _,.int _,q=>q
 |.str _,.str _,q=>q
 |.non,.non,q=>q
 |.bl _,.bl _,q=>q
 |x,y,q=>scal x y=true/\q
theorem HC_   : eD (.int i) (.int j) q=q:=rfl
theorem HD_   : eD (.str i) (.str j) q=q:=rfl
theorem HE_  : eD .non .non q=q:=rfl
theorem Kl_   : eD (.bl i) (.bl j) q=q:=rfl
theorem IC_   : eD x y q=(scal x y=true/\q):=by
 cases x<;>cases y<;>first|rfl|(simp[eD,scal])
noncomputable def rEqF:R2:=fun x y H Q=>eD x y (Q (.bl (decide (x=y))) H)
noncomputable def rNeF:R2:=fun x y H Q=>eD x y (Q (.bl (!decide (x=y))) H)
theorem Km_    : rEqF x y H Q=eD x y (Q (.bl (decide (x=y))) H):=rfl
theorem Kn_    : rNeF x y H Q=eD x y (Q (.bl (!decide (x=y))) H):=rfl
theorem ID_:rEqF=rEq:=by funext x y H Q;exact IC_
theorem IE_:rNeF=rNe:=by funext x y H Q;exact IC_
theorem opE   (h:OpR X f rEq):OpR X f rEqF:=by rw[ID_];exact h
theorem opN   (h:OpR X f rNe):OpR X f rNeF:=by rw[IE_];exact h
noncomputable def aD:V->(Addr->Prop)->Prop
 |.ref a,q=>q a
 |x,q=>∃a,x=.ref a/\q a
theorem HF_   : aD (.ref a) q=q a:=rfl
theorem Gl_   : aD x q=∃a,x=.ref a/\q a:=by
 cases x<;>first|rfl|(simp[aD])
noncomputable def nD:V->(Int->Prop)->Prop
 |.int a,q=>q a
 |x,q=>∃a,x=.int a/\q a
theorem HG_   : nD (.int a) q=q a:=rfl
theorem Fc_   : nD x q=∃a,x=.int a/\q a:=by
 cases x<;>first|rfl|(simp[nD])
noncomputable def IF_ (K:PySem.W.Frag):R2:=fun x y H Q=>aD x fun p=>∃xs,nD y fun i=>SqT K H p xs/\∃v,atI xs i=some v/\Q v H
noncomputable def IG_ (K:PySem.W.Frag):R2:=fun x y H Q=>aD x fun p=>∃xs,nD y fun i=>SqL K H p xs/\∃v,atI xs i=some v/\Q v H
theorem HH_ {K:PySem.W.Frag}    : IF_ K x y H Q=aD x fun p=>∃xs,nD y fun i=>SqT K H p xs/\∃v,atI xs i=some v/\Q v H:=rfl
theorem HI_ {K:PySem.W.Frag}    : IG_ K x y H Q=aD x fun p=>∃xs,nD y fun i=>SqL K H p xs/\∃v,atI xs i=some v/\Q v H:=rfl
theorem Gm_ {K:PySem.W.Frag}:IF_ K=rIxT K:=by
 funext x y H Q
 show aD x _=∃p xs i v,_
 rw[Gl_]
 refine propext ⟨fun ⟨p,e,h⟩=>?_,fun ⟨p,xs,i,v,e1,e2,e3,e4,e5⟩=>⟨p,e1,?_⟩⟩
 ·obtain⟨xs,h⟩:=h
  rw[Fc_]at h
  obtain⟨i,e2,e3,v,e4,e5⟩:=h
  exact⟨p,xs,i,v,e,e2,e3,e4,e5⟩
 ·refine⟨xs,?_⟩
  rw[Fc_]
  exact⟨i,e2,e3,v,e4,e5⟩
theorem Gn_ {K:PySem.W.Frag}:IG_ K=rIxL K:=by
 funext x y H Q
 show aD x _=∃p xs i v,_
 rw[Gl_]
 refine propext ⟨fun ⟨p,e,h⟩=>?_,fun ⟨p,xs,i,v,e1,e2,e3,e4,e5⟩=>⟨p,e1,?_⟩⟩
 ·obtain⟨xs,h⟩:=h
  rw[Fc_]at h
  obtain⟨i,e2,e3,v,e4,e5⟩:=h
  exact⟨p,xs,i,v,e,e2,e3,e4,e5⟩
 ·refine⟨xs,?_⟩
  rw[Fc_]
  exact⟨i,e2,e3,v,e4,e5⟩
theorem ixTD  {K:PySem.W.Frag}(h:IxR X (rIxT K)):IxR X (IF_ K):=by rw[Gm_];exact h
theorem ixLD  {K:PySem.W.Frag}(h:IxR X (rIxL K)):IxR X (IG_ K):=by rw[Gn_];exact h
noncomputable def lD1:List V->(V->Prop)->Prop
 |[x],q=>q x
 |xs,q=>∃x,xs=[x]/\q x
theorem Fd_   : lD1 [x] q=q x:=rfl
theorem Ko_   : lD1 xs q=∃x,xs=[x]/\q x:=by
 match xs with
 |[]=>rfl
 |[x]=>simp[lD1]
 |x::y::r=>rfl
noncomputable def IH_ (K:PySem.W.Frag):List V->Hp->VK->Prop:=fun xs H Q=>lD1 xs fun x=>aD x fun p=>∃ys,(SqL K H p ys\/SqT K H p ys)/\Q (.int ys.length) H
theorem HJ_ {K:PySem.W.Frag}    : IH_ K xs H Q=lD1 xs fun x=>aD x fun p=>∃ys,(SqL K H p ys\/SqT K H p ys)/\Q (.int ys.length) H:=rfl
theorem lenD  {K:PySem.W.Frag}  (h:NR X f (fun xs H Q=>∃p ys,xs=[.ref p]/\(SqL K H p ys\/SqT K H p ys)/\Q (.int ys.length) H)):NR X f (IH_ K):=by
 have e:IH_ K=fun xs H Q=>∃p ys,xs=[.ref p]/\(SqL K H p ys\/SqT K H p ys)/\Q (.int ys.length) H:=by
  funext xs H Q
  show lD1 xs _=_
  rw[Ko_]
  refine propext ⟨fun ⟨x,e,h⟩=>?_,fun ⟨p,ys,e,h1,h2⟩=>⟨_,e,ys,h1,h2⟩⟩
  rw[Gl_]at h
  obtain⟨p,rfl,ys,h1,h2⟩:=h
  exact⟨p,ys,e,h1,h2⟩
 rw[e];exact h
theorem AE       (hN:X.N.Nodup)(he:PE X e te)(hi:X.N[i]?=some x:=by rfl)(hx:Loc X.env.scope x:=by exact Or.inl rfl)(hs:swapsWith e (some (.Name x pos')) pos.line X.env=pure false:=by rfl)(hf:X.fn x=true\/X.env.scope.names.lookup x=some .local:=by first|exact .inl rfl|exact .inr rfl|assumption):PS X (.Assign [.Name x pos'] e pos) (tAsg te (AG_ i)):=Rl hN hi hx he hs hf
theorem BG      (hr:IxR X r)(ha:PE X a ta)(hb:PE X b tb)(hs:Ek_ b:=by exact fun _ _=>rfl):PE X (.Subscript a b pos) (tOp r ta tb):=KC_ hr ha hb hs
end L2
namespace PySem
open Sem (wp)
structure VKind (prog:Program)(w:World)(K:Type)[DecidableEq K] where
 is:Heap->K->Value->Prop
 hash:K->Int
 draws:K->Nat
 room:Around->Prop
 inj:∀{h:Heap} {a:Value} {x y:K},is h x a->is h y a->x=y
 keeps:∀{h h':Heap} {k:K} {a:Value} {d:Addr} {o:Obj} {es ep},is h k a->h.get? d=some o->o.data=.dict es ep->Heap.SameBut d h h'->is h' k a
 pyHash:∀{A:Around} {E:Value->Shared->Prop} {s:Shared} {k:K} {a:Addr} {Q:Int->Shared->Prop},room A->is s.heap k (.ref a)->Q (hash k) {s with toks:=s.toks+draws k}->wpAny (model prog w) A (PySem.pyHash (.ref a)) Q E s
 eqBool:∀{A:Around} {E:Value->Shared->Prop} {s:Shared} {x y:K} {u:Value} {b:Addr} {Q:Bool->Shared->Prop},room A->is s.heap x u->is s.heap y (.ref b)->Q (decide (x=y)) s->wpAny (model prog w) A (PySem.eqBool u (.ref b)) Q E s
 quiet:∀{A:Around} {E:Value->Shared->Prop} {s:Shared} {k:K} {a:Value} {Q:Bool->Shared->Prop},room A->is s.heap k a->Q true s->wpAny (model prog w) A (eqIsQuiet 8 a) Q E s
noncomputable abbrev NI:=Int ⊕ List Int
noncomputable abbrev NK:=Option (List NI)
end PySem
namespace S64
open PySem PyProof.Rows
noncomputable def KE (κ:KeyKind)(x:Keyed):κ.α:=(κ.keyOf x.1).getD κ.dflt
noncomputable def NI (κ:KeyKind)(xs:Array Keyed)(lo hi:Nat):Prop:=∀i j,lo<=i->i<=j->j<hi->κ.kle (KK κ xs j) (KK κ xs i)
noncomputable def WE:Bool->Keyed->Array Keyed->Nat->Nat->Nat->StateT SortSt Sem (Option Nat):=sortPriv% PySem.Builtin.gallop
noncomputable def HZ:Nat->StateT SortSt Sem Unit:=sortPriv% PySem.Builtin.setMinGallop
noncomputable def AU_ (a b out:Array Keyed)(ia ib:Nat):Array Keyed:=out++a.extract ia a.size++b.extract ib b.size
noncomputable def II_ (a b out:Array Keyed)(ia ib:Nat):Array Keyed:=out++b.extract ib b.size++a.extract ia a.size
noncomputable abbrev G5:=Option (Array Keyed)×Array Keyed×Nat×Nat×Nat
noncomputable abbrev G6:=Option (Array Keyed)×Array Keyed×Nat×Nat×Nat×Nat
noncomputable abbrev G7:=Option (Array Keyed)×Array Keyed×Nat×Nat×Nat×Nat×Nat
noncomputable def PC (a b out:Array Keyed)(ia ib mg ac bc:Nat):StateT SortSt Sem (ForInStep G7):=do
 let y <- elem' a ia
 if (ia+1+1==a.size)=true then pure (.done (some (II_ a b (out.push y) (ia+1) ib),out.push y,ia+1,ib,mg,ac,bc))
 else if (decide (ac<7)&&decide (bc<7))=true then pure (.done (none,out.push y,ia+1,ib,mg,ac,bc)) else pure (.yield (none,out.push y,ia+1,ib,mg,ac,bc))
noncomputable def PB (a b out:Array Keyed)(ia ib mg ac bc:Nat):StateT SortSt Sem (ForInStep G7):=do
 let y <- elem' b ib
 if (ib+1==b.size)=true then pure (.done (some (AU_ a b (out.push y) ia (ib+1)),out.push y,ia,ib+1,mg,ac,bc))
 else do
  let z <- elem' a ia
  let x <- WE true z b (ib+1) (b.size-(ib+1)) 0
  match x with
  |some k=>if k > 0 then (if (ib+1+k==b.size)=true then pure (.done (some (AU_ a b (out.push y++b.extract (ib+1) (ib+1+k)) ia (ib+1+k)),out.push y++b.extract (ib+1) (ib+1+k),ia,ib+1+k,mg,ac,k)) else PC a b (out.push y++b.extract (ib+1) (ib+1+k)) ia (ib+1+k) mg ac k) else PC a b (out.push y) ia (ib+1) mg ac k
  |_=>pure (.done (some (AU_ a b (out.push y) ia (ib+1)),out.push y,ia,ib+1,mg,ac,bc))
noncomputable def PA (a b out:Array Keyed)(ia ib mg ac bc:Nat):StateT SortSt Sem (ForInStep G7):=do
 HZ mg
 let y <- elem' b ib
 let x <- WE false y a ia (a.size-ia) 0
 match x with
 |some k=>if k > 0 then (if (ia+k+1==a.size)=true then pure (.done (some (II_ a b (out++a.extract ia (ia+k)) (ia+k) ib),out++a.extract ia (ia+k),ia+k,ib,mg,k,bc)) else if (ia+k==a.size)=true then pure (.done (some (AU_ a b (out++a.extract ia (ia+k)) (ia+k) ib),out++a.extract ia (ia+k),ia+k,ib,mg,k,bc)) else PB a b (out++a.extract ia (ia+k)) (ia+k) ib mg k bc) else PB a b out ia ib mg k bc
 |_=>pure (.done (some (AU_ a b out ia ib),out,ia,ib,mg,ac,bc))
noncomputable def P1 (a b:Array Keyed)(mg:Nat)(c:G6):StateT SortSt Sem (ForInStep G6):=do
 let y <- elem' b c.2.2.2.1
 let z <- elem' a c.2.2.1
 let x <- lt' y z
 match x with
 |some bWins=>
  if bWins=true then
   elem' b c.2.2.2.1 >>= fun y=>
   if (c.2.2.2.1+1==b.size)=true then pure (.done (some (AU_ a b (c.2.1.push y) c.2.2.1 (c.2.2.2.1+1)),c.2.1.push y,c.2.2.1,c.2.2.2.1+1,0,c.2.2.2.2.2+1))
   else if c.2.2.2.2.2+1 >= mg then pure (.done (none,c.2.1.push y,c.2.2.1,c.2.2.2.1+1,0,c.2.2.2.2.2+1)) else pure (.yield (none,c.2.1.push y,c.2.2.1,c.2.2.2.1+1,0,c.2.2.2.2.2+1))
  else
   elem' a c.2.2.1 >>= fun y=>
   if (c.2.2.1+1+1==a.size)=true then pure (.done (some (II_ a b (c.2.1.push y) (c.2.2.1+1) c.2.2.2.1),c.2.1.push y,c.2.2.1+1,c.2.2.2.1,c.2.2.2.2.1+1,0))
   else if c.2.2.2.2.1+1 >= mg then pure (.done (none,c.2.1.push y,c.2.2.1+1,c.2.2.2.1,c.2.2.2.2.1+1,0)) else pure (.yield (none,c.2.1.push y,c.2.2.1+1,c.2.2.2.1,c.2.2.2.2.1+1,0))
 |_=>pure (.done (some (AU_ a b c.2.1 c.2.2.1 c.2.2.2.1),c.2.1,c.2.2.1,c.2.2.2.1,c.2.2.2.2.1,c.2.2.2.2.2))
noncomputable def P2 (a b:Array Keyed)(c:G7):StateT SortSt Sem (ForInStep G7):=if c.2.2.2.2.1 > 1 then PA a b c.2.1 c.2.2.1 c.2.2.2.1 (c.2.2.2.2.1-1) c.2.2.2.2.2.1 c.2.2.2.2.2.2 else PA a b c.2.1 c.2.2.1 c.2.2.2.1 c.2.2.2.2.1 c.2.2.2.2.2.1 c.2.2.2.2.2.2
noncomputable def PO (a b:Array Keyed)(c:G5):StateT SortSt Sem (ForInStep G5):=do
 let d <- forIn [0:a.size+b.size] ((none,c.2.1,c.2.2.1,c.2.2.2.1,0,0):G6) fun _ d=>P1 a b c.2.2.2.2 d
 match d.1 with
 |some r=>pure (.done (some r,d.2.1,d.2.2.1,d.2.2.2.1,c.2.2.2.2))
 |none=>do
  liftM (rule "list.sort.gallop")
  let e <- forIn [0:a.size+b.size] ((none,d.2.1,d.2.2.1,d.2.2.2.1,c.2.2.2.2+1,d.2.2.2.2.1,d.2.2.2.2.2):G7) fun _ e=>P2 a b e
  match e.1 with
  |some r=>pure (.done (some r,e.2.1,e.2.2.1,e.2.2.2.1,e.2.2.2.2.1))
  |none=>do
   HZ (e.2.2.2.2.1+1)
   pure (.yield (none,e.2.1,e.2.2.1,e.2.2.2.1,e.2.2.2.2.1+1))
noncomputable def AV_ (a b out:Array Keyed)(na nb:Nat):Array Keyed:=a.extract 0 na++b.extract 0 nb++out.reverse
noncomputable def Fe_ (a b out:Array Keyed)(na nb:Nat):Array Keyed:=b.extract 0 nb++a.extract 0 na++out.reverse
noncomputable abbrev H5:=Option (Array Keyed)×Nat×Nat×Array Keyed×Nat
noncomputable abbrev H6:=Option (Array Keyed)×Nat×Nat×Array Keyed×Nat×Nat
noncomputable abbrev H7:=Option (Array Keyed)×Nat×Nat×Array Keyed×Nat×Nat×Nat
noncomputable def HC (a b out:Array Keyed)(na nb mg ac bc:Nat):StateT SortSt Sem (ForInStep H7):=do
 let y <- elem' a (na-1)
 if (na-1==0)=true then pure (.done (some (AV_ a b (out.push y) (na-1) nb),na-1,nb,out.push y,mg,ac,bc))
 else if (decide (ac<7)&&decide (bc<7))=true then pure (.done (none,na-1,nb,out.push y,mg,ac,bc)) else pure (.yield (none,na-1,nb,out.push y,mg,ac,bc))
noncomputable def HB (a b out:Array Keyed)(na nb mg ac bc:Nat):StateT SortSt Sem (ForInStep H7):=do
 let y <- elem' b (nb-1)
 if (nb-1==1)=true then pure (.done (some (Fe_ a b (out.push y) na (nb-1)),na,nb-1,out.push y,mg,ac,bc))
 else do
  let z <- elem' a (na-1)
  let x <- WE true z b 0 (nb-1) (nb-1-1)
  match x with
  |some t=>if nb-1-t > 0 then (if (t==1)=true then pure (.done (some (Fe_ a b (out.push y++(b.extract t (nb-1)).reverse) na t),na,t,out.push y++(b.extract t (nb-1)).reverse,mg,ac,nb-1-t)) else if (t==0)=true then pure (.done (some (AV_ a b (out.push y++(b.extract t (nb-1)).reverse) na t),na,t,out.push y++(b.extract t (nb-1)).reverse,mg,ac,nb-1-t)) else HC a b (out.push y++(b.extract t (nb-1)).reverse) na t mg ac (nb-1-t)) else HC a b (out.push y) na (nb-1) mg ac (nb-1-t)
  |_=>pure (.done (some (AV_ a b (out.push y) na (nb-1)),na,nb-1,out.push y,mg,ac,bc))
noncomputable def HA (a b out:Array Keyed)(na nb mg ac bc:Nat):StateT SortSt Sem (ForInStep H7):=do
 HZ mg
 let y <- elem' b (nb-1)
 let x <- WE false y a 0 na (na-1)
 match x with
 |some t=>if na-t > 0 then (if (t==0)=true then pure (.done (some (AV_ a b (out++(a.extract t na).reverse) t nb),t,nb,out++(a.extract t na).reverse,mg,na-t,bc)) else HB a b (out++(a.extract t na).reverse) t nb mg (na-t) bc) else HB a b out na nb mg (na-t) bc
 |_=>pure (.done (some (AV_ a b out na nb),na,nb,out,mg,ac,bc))
noncomputable def H1 (a b:Array Keyed)(mg:Nat)(c:H6):StateT SortSt Sem (ForInStep H6):=do
 let y <- elem' b (c.2.2.1-1)
 let z <- elem' a (c.2.1-1)
 let x <- lt' y z
 match x with
 |some aWins=>
  if aWins=true then
   elem' a (c.2.1-1) >>= fun y=>
   if (c.2.1-1==0)=true then pure (.done (some (AV_ a b (c.2.2.2.1.push y) (c.2.1-1) c.2.2.1),c.2.1-1,c.2.2.1,c.2.2.2.1.push y,c.2.2.2.2.1+1,0))
   else if c.2.2.2.2.1+1 >= mg then pure (.done (none,c.2.1-1,c.2.2.1,c.2.2.2.1.push y,c.2.2.2.2.1+1,0)) else pure (.yield (none,c.2.1-1,c.2.2.1,c.2.2.2.1.push y,c.2.2.2.2.1+1,0))
  else
   elem' b (c.2.2.1-1) >>= fun y=>
   if (c.2.2.1-1==1)=true then pure (.done (some (Fe_ a b (c.2.2.2.1.push y) c.2.1 (c.2.2.1-1)),c.2.1,c.2.2.1-1,c.2.2.2.1.push y,0,c.2.2.2.2.2+1))
   else if c.2.2.2.2.2+1 >= mg then pure (.done (none,c.2.1,c.2.2.1-1,c.2.2.2.1.push y,0,c.2.2.2.2.2+1)) else pure (.yield (none,c.2.1,c.2.2.1-1,c.2.2.2.1.push y,0,c.2.2.2.2.2+1))
 |_=>pure (.done (some (AV_ a b c.2.2.2.1 c.2.1 c.2.2.1),c.2.1,c.2.2.1,c.2.2.2.1,c.2.2.2.2.1,c.2.2.2.2.2))
noncomputable def H2 (a b:Array Keyed)(c:H7):StateT SortSt Sem (ForInStep H7):=if c.2.2.2.2.1 > 1 then HA a b c.2.2.2.1 c.2.1 c.2.2.1 (c.2.2.2.2.1-1) c.2.2.2.2.2.1 c.2.2.2.2.2.2 else HA a b c.2.2.2.1 c.2.1 c.2.2.1 c.2.2.2.2.1 c.2.2.2.2.2.1 c.2.2.2.2.2.2
noncomputable def HO (a b:Array Keyed)(c:H5):StateT SortSt Sem (ForInStep H5):=do
 let d <- forIn [0:a.size+b.size] ((none,c.2.1,c.2.2.1,c.2.2.2.1,0,0):H6) fun _ d=>H1 a b c.2.2.2.2 d
 match d.1 with
 |some r=>pure (.done (some r,d.2.1,d.2.2.1,d.2.2.2.1,c.2.2.2.2))
 |none=>do
  liftM (rule "list.sort.gallop")
  let e <- forIn [0:a.size+b.size] ((none,d.2.1,d.2.2.1,d.2.2.2.1,c.2.2.2.2+1,d.2.2.2.2.1,d.2.2.2.2.2):H7) fun _ e=>H2 a b e
  match e.1 with
  |some r=>pure (.done (some r,e.2.1,e.2.2.1,e.2.2.2.1,e.2.2.2.2.1))
  |none=>do
   HZ (e.2.2.2.2.1+1)
   pure (.yield (none,e.2.1,e.2.2.1,e.2.2.2.1,e.2.2.2.2.1+1))
noncomputable def wr (a:Array Keyed)(base:Nat)(r:List Keyed)(n:Nat):Array Keyed:=(r.zipIdx n).foldl (fun a (p,j)=>a.setIfInBounds (base+j) p) a
end S64
namespace S64
open PySem PyProof.Rows L2
noncomputable abbrev Wd:=Addr×List Int
noncomputable def wv (ws:List Wd):List V:=ws.map fun w=>V.ref w.1
noncomputable def wu (ws:List Wd):List Value:=ws.map fun w=>Value.ref w.1
noncomputable def kw (w:Wd):Int×List Int:=((w.2.length:Int),w.2)
section
variable {X:Cx} {pins:List (Addr×Obj)} {σ:L2.St} {H H0:Hp} {s:Shared} {A:Around} {E:Value->Shared->Prop} {ws:List Wd} {ts:List Addr} {a kT:Addr} {e1:Nat} {P:PySem.Fin->Shared->Prop} {f:Value}
noncomputable def Turn (X:Cx)(pins:List (Addr×Obj))(σ:L2.St)(A:Around)(f:Value)(ws:List Wd)(H0:Hp):Prop:=∀w∈ws,∀(H':Hp) (s':Shared),Inv X pins σ H' s'->Same H0 H' ->
 wpAny (model X.prog X.w) A (call f [.ref w.1]) (EP X pins σ (fun k H''=>∃t,k=.ref t/\Same H' H''/\SqT X.K H'' t [.int w.2.length,.ref w.1])) (fun _ _=>False) s'
end
end S64
namespace L2
open PySem PySem.Spec PyProof.Rows
noncomputable abbrev HA (K:PySem.W.Frag)(x:Str)(f:Addr):Prop:=PySem.W.nsIn K mainGlobals x=some (some (.ref f))
structure HF (K:PySem.W.Frag)(x:Str)(st:Stmt)(f:Addr)(fd:FuncData):Prop where
 a:PySem.W.nsIn K mainGlobals x=some (some (.ref f))
 F:Fun K x x st f fd
end L2
namespace L2
open PySem PySem.Spec PyProof.Rows S64
section
variable {X:Cx} {pins:List (Addr×Obj)} {σ:L2.St} {A:Around}
noncomputable abbrev ends (Q E:Value->Shared->Prop):Result->Shared->Prop:=fun r s'=>match r with | .ok (.ret v)=>Q v s' | .ok _=>False | .error e=>E e s'
end
end L2
namespace N80
open Nest L2 GW
noncomputable def val (b:Nat)(v:List Int):Nat:=v.foldl (fun a x=>a*b+x.toNat) 0
noncomputable def cod (b:Nat)(v:List Int):Nat:=b ^ v.length+val b v
structure Turn {R:Type}(A:Int->List Int->Prop)(p e:Int)(b:Nat)(fin:R->Prop)(best:R->Option (List Int))(res:Option (List Int)):Prop where
 s:∀t,res=some t->∃r,best r=some t/\fin r
 l:∀r t,best r=some t->fin r->∃t',res=some t'/\cod b t'<=cod b t
end N80
namespace HT
open PySem PyProof.Rows
inductive LtE (A:Around)(s:Shared)(f:Bool):List Value->List Value->Bool->Prop
 | endL {ws:List Value}:LtE A s f [] ws f
 | endR {vs:List Value}:LtE A s f vs [] f
 | eq {v w:Value} {vs ws:List Value} {b:Bool}:SeqAt.EqAt A s v w true->LtE A s f vs ws b->LtE A s f (v::vs) (w::ws) b
 | ne {v w:Value} {vs ws:List Value} {b:Bool}:SeqAt.EqAt A s v w false->(∀(prog:Program) (wd:World) (E:Value->Shared->Prop) (Q:Value->Shared->Prop),Q (.bool b) s->wpAny (model prog wd) A (richCompare .Lt v w) Q E s)->LtE A s f (v::vs) (w::ws) b
end HT
namespace Mine
open PySem L2 GW GB
local macro_rules | `(tactic| walk_at "rd") => `(tactic| (try dsimp only[↓Hz_,Fb_,↓r_ID,↓Kh_,HA_,↓r_BD,Kj_,↓Km_,↓Kn_,HC_,HD_,HE_,Kl_,↓HH_,↓HI_,HF_,HG_,↓HJ_,Fd_,↓JB_,↓GY_,↓JC_,↓Ev_,↓JD_,↓r_c,↓r_op,↓r_un,↓r_I,↓r_I0,↓r_U,↓GZ_,↓Ha_,↓JE_,↓JF_,↓Hb_,↓r_if,↓r_B,↓Hc_,↓JG_,↓r_or,↓JH_,↓Hd_,↓Ew_,↓r_CB,↓JI_,↓JJ_,↓JK_,↓JL_,↓r_sl,↓He_,↓Ck_,↓JS_,↓r_BM,↓Cl_,↓r_Eq,↓r_Ne,↓JM_,↓Ex_,↓Hf_,↓Ey_,↓Hg_,↓Hh_,↓JO_,↓EG_,↓JU_,↓Hk_,↓Hl_,↓JV_,↓Hm_,↓EH_,↓Hn_,↓Ho_,↓Hp_,↓EI_,↓EK_,↓Cm_,↓Cn_,↓EL_,↓JX_,↓Ka_,↓Hu_,↓Hv_,↓Hw_,↓EP_,↓EN_,↓ES_,↓EU_,↓EY_,↓ET_,JN_,L2.start,List.map_cons,List.map_nil,List.length_cons,List.length_nil,List.cons_append,List.nil_append,List.replicate,List.getElem?_cons_zero,List.getElem?_cons_succ,List.set_cons_zero,List.set_cons_succ,scal])<;>(try simp only[↓Hz_,Fb_,↓r_ID,↓Kh_,HA_,↓r_BD,Kj_,↓Km_,↓Kn_,HC_,HD_,HE_,Kl_,↓HH_,↓HI_,HF_,HG_,↓HJ_,Fd_,Iz_,Kk_,IC_,Gl_,Fc_,↓JB_,↓GY_,↓JC_,↓Ev_,↓JD_,↓r_c,↓r_op,↓r_un,↓r_I,↓r_I0,↓r_U,↓GZ_,↓Ha_,↓JE_,↓JF_,↓Hb_,↓r_if,↓r_B,↓Hc_,↓JG_,↓r_or,↓JH_,↓Hd_,↓Ew_,↓r_CB,↓JI_,↓JJ_,↓JK_,↓JL_,↓r_sl,↓He_,↓Ck_,↓JS_,↓r_BM,↓Cl_,↓r_Eq,↓r_Ne,↓JM_,↓Ex_,↓Hf_,↓Ey_,↓Hg_,↓Hh_,↓JO_,↓EG_,↓JU_,↓Hk_,↓Hl_,↓JV_,↓Hm_,↓EH_,↓Hn_,↓Ho_,↓Hp_,↓EI_,↓EK_,↓Cm_,↓Cn_,↓EL_,↓JX_,↓Ka_,↓Hu_,↓Hv_,↓Hw_,↓EP_,↓EN_,↓ES_,↓EU_,↓EY_,↓ET_,JN_,L2.start,List.map_cons,List.map_nil,List.length_cons,List.length_nil,List.cons_append,List.nil_append,List.append_nil,List.replicate,List.getElem?_cons_zero,List.getElem?_cons_succ,List.set_cons_zero,List.set_cons_succ,Option.some.injEq,V.int.injEq,V.str.injEq,V.ref.injEq,V.bl.injEq,List.cons.injEq,and_true,true_and,and_assoc,exists_and_left,exists_eq_left',exists_eq_left,exists_eq_right,exists_eq,if_true,if_false,Bool.false_eq_true,decide_eq_true_eq,scal,Nat.reduceAdd,Nat.reduceSub,reduceCtorEq,Bool.not_true,Bool.not_false]))
local macro_rules | `(tactic| walk_at "sc") => `(tactic| exact⟨rfl,rfl,rfl,by decide +kernel,rfl,by decide +kernel,by decide +kernel⟩)
noncomputable def top (i:Nat):Stmt:=PySem.Challenge.pw_guessroom_k57_say_asker_refuses.main.body.getD i (.Pass ⟨0,0,0,0⟩)
noncomputable abbrev Ee:Stmt:=Bs (top 20) 1
theorem U4:FnScope ["self"] ["self"] (Ab Ee):=by walk_at "sc"
noncomputable abbrev By:Stmt:=Bs (top 41) 1
theorem P4:FnScope ["self"] ["self"] (Ab By):=by walk_at "sc"
noncomputable abbrev Cj:Stmt:=top 43
theorem YU:FnScope ["script","k"] ["script","k"] (Ab Cj):=by walk_at "sc"
noncomputable abbrev Iz:Stmt:=top 8
theorem Df_:FnScope ["letters","word"] ["letters","word"] (Ab Iz):=by walk_at "sc"
noncomputable abbrev D1:Stmt:=top 9
theorem WG:FnScope ["letters","word"] ["letters","word"] (Ab D1):=by walk_at "sc"
noncomputable abbrev IA:Stmt:=top 12
theorem Dg_:FnScope ["number"] ["number"] (Ab IA):=by walk_at "sc"
noncomputable abbrev EH:Stmt:=top 17
theorem WH:FnScope ["mark"] ["mark"] (Ab EH):=by walk_at "sc"
noncomputable abbrev D2:Stmt:=Bs (top 18) 1
theorem WI:FnScope ["self","word","mark"] ["self","word","mark"] (Ab D2):=by walk_at "sc"
noncomputable abbrev F7:Stmt:=Bs (top 18) 2
theorem AW_:FnScope ["self","word","mark"] ["self","word","mark"] (Ab F7):=by walk_at "sc"
noncomputable abbrev AY:Stmt:=Bs (top 20) 2
theorem M8:FnScope ["self","deed"] ["self","deed"] (Ab AY):=by walk_at "sc"
noncomputable abbrev Lp:Stmt:=top 13
theorem SA:FnScope ["house","word","ways","rooms","letter"] ["house","word"] (Ab Lp):=by walk_at "sc"
noncomputable abbrev Ef:Stmt:=Bs (top 18) 3
theorem YV:FnScope ["self","word"] ["self","word"] (Ab Ef):=by walk_at "sc"
noncomputable abbrev J8:Stmt:=top 33
theorem Gs:FnScope ["book","access","guess","word","mark","last","rooms","low","high","middle","asked","told"] ["book","access","guess","word","mark","last"] (Ab J8):=by walk_at "sc"
noncomputable abbrev DG:Stmt:=Bs (top 21) 8
theorem IB:FnScope ["self","words","left","word"] ["self","words"] (Ab DG):=by walk_at "sc"
noncomputable abbrev Ho:Stmt:=top 23
theorem JJ:FnScope ["letters","access","rows","word","letter"] ["letters","access"] (Ab Ho):=by walk_at "sc"
noncomputable abbrev NV:Stmt:=top 24
theorem SD:FnScope ["letters","access","ends","words","row","end"] ["letters","access","ends"] (Ab NV):=by walk_at "sc"
noncomputable abbrev AU:Stmt:=Bs (top 34) 3
theorem KH:FnScope ["self"] ["self"] (Ab AU):=by walk_at "sc"
noncomputable abbrev BU:Stmt:=top 36
theorem OF:FnScope ["word"] ["word"] (Ab BU):=by walk_at "sc"
noncomputable abbrev S8:Stmt:=top 37
theorem IJ_:FnScope ["house","word"] ["house","word"] (Ab S8):=by walk_at "sc"
noncomputable abbrev Eg:Stmt:=top 38
theorem YW:FnScope ["house","word"] ["house","word"] (Ab Eg):=by walk_at "sc"
noncomputable abbrev Cc:Stmt:=Bs (top 40) 1
theorem P5:FnScope ["self","house","word"] ["self","house","word"] (Ab Cc):=by walk_at "sc"
noncomputable abbrev Eh:Stmt:=Bs (top 34) 4
theorem Hf:FnScope ["self","mark","last","found"] ["self"] (Ab Eh):=by walk_at "sc"
noncomputable abbrev GX:Stmt:=top 25
theorem AX_:FnScope ["book","word","ends"] ["book","word","ends"] (Ab GX):=by walk_at "sc"
noncomputable abbrev CG:Stmt:=top 26
theorem IC:FnScope ["book","letters","access","ends","marks","row"] ["book","letters","access","ends"] (Ab CG):=by walk_at "sc"
noncomputable abbrev C0:Stmt:=top 28
theorem C7:FnScope ["letters","access","marks","rooms","room","word","ways"] ["letters","access","marks"] (Ab C0):=by walk_at "sc"
noncomputable abbrev BB:Stmt:=Bs (top 40) 2
theorem EI:FnScope ["self","marks","says"] ["self"] (Ab BB):=by walk_at "sc"
noncomputable abbrev D3:Stmt:=Bs (top 18) 4
theorem WJ:FnScope ["self"] ["self"] (Ab D3):=by walk_at "sc"
noncomputable abbrev DH:Stmt:=top 30
theorem ID:FnScope ["heard","answer","house","word","told"] ["heard","answer","house"] (Ab DH):=by walk_at "sc"
noncomputable abbrev BC:Stmt:=Bs (top 40) 3
theorem Lq:FnScope ["self"] ["self"] (Ab BC):=by walk_at "sc"
noncomputable abbrev BD:Stmt:=Bs (top 21) 9
theorem Lr:FnScope ["self"] ["self"] (Ab BD):=by walk_at "sc"
noncomputable abbrev GY:Stmt:=top 27
theorem J9:FnScope ["book","letters","access","ends","marks","known","row"] ["book","letters","access","ends"] (Ab GY):=by walk_at "sc"
noncomputable abbrev Bv:Stmt:=Bs (top 34) 5
theorem GK:FnScope ["self","row"] ["self"] (Ab Bv):=by walk_at "sc"
noncomputable abbrev Cu:Stmt:=Bs (top 21) 7
theorem P6:FnScope ["self"] ["self"] (Ab Cu):=by walk_at "sc"
noncomputable abbrev Cw:Stmt:=Bs (top 20) 3
theorem U5:FnScope ["self"] ["self"] (Ab Cw):=by walk_at "sc"
noncomputable abbrev B6:Stmt:=Bs (top 21) 1
theorem NW:FnScope ["self","number"] ["self","number"] (Ab B6):=by walk_at "sc"
noncomputable abbrev EJ:Stmt:=Bs (top 34) 1
theorem WK:FnScope ["self","mark"] ["self","mark"] (Ab EJ):=by walk_at "sc"
noncomputable abbrev Cp:Stmt:=Bs (top 41) 2
theorem RJ:FnScope ["self","mark"] ["self","mark"] (Ab Cp):=by walk_at "sc"
noncomputable abbrev BJ:Stmt:=top 47
theorem BV:FnScope ["e","told"] ["e"] (Ab BJ):=by walk_at "sc"
noncomputable abbrev D4:Stmt:=top 48
theorem Ia:FnScope ["asker","mark","caught","e"] ["asker","mark"] (Ab D4):=by walk_at "sc"
noncomputable abbrev EK:Stmt:=Bs (top 21) 2
theorem WL:FnScope ["self"] ["self"] (Ab EK):=by walk_at "sc"
noncomputable abbrev Cd:Stmt:=Bs (top 41) 3
theorem P7:FnScope ["self"] ["self"] (Ab Cd):=by walk_at "sc"
noncomputable abbrev Ei:Stmt:=top 49
theorem Hg:FnScope ["asker","caught","e"] ["asker"] (Ab Ei):=by walk_at "sc"
noncomputable abbrev Bw:Stmt:=Bs (top 21) 3
theorem KI:FnScope ["self","word","number"] ["self","word","number"] (Ab Bw):=by walk_at "sc"
noncomputable abbrev DI:Stmt:=Bs (top 34) 2
theorem S9:FnScope ["self","word","mark"] ["self","word","mark"] (Ab DI):=by walk_at "sc"
noncomputable abbrev BX:Stmt:=Bs (top 41) 4
theorem OG:FnScope ["self","word","mark"] ["self","word","mark"] (Ab BX):=by walk_at "sc"
noncomputable abbrev CH:Stmt:=top 50
theorem Gu:FnScope ["asker","word","mark","caught","e"] ["asker","word","mark"] (Ab CH):=by walk_at "sc"
noncomputable abbrev FQ:Stmt:=Bs (top 18) 0
theorem YX:FnScope ["self","letters"] ["self","letters"] (Ab FQ):=by walk_at "sc"
noncomputable abbrev EL:Stmt:=Bs (top 20) 0
theorem WM:FnScope ["self"] ["self"] (Ab EL):=by walk_at "sc"
noncomputable abbrev FT:Stmt:=Bs (top 21) 0
theorem YY:FnScope ["self","letters","most","book","ways","ends"] ["self","letters","most","book","ways","ends"] (Ab FT):=by walk_at "sc"
noncomputable abbrev BE:Stmt:=Bs (top 40) 0
theorem Ls:FnScope ["self","letters"] ["self","letters"] (Ab BE):=by walk_at "sc"
noncomputable abbrev EM:Stmt:=Bs (top 34) 0
theorem WN:FnScope ["self","letters","most"] ["self","letters","most"] (Ab EM):=by walk_at "sc"
noncomputable abbrev C1:Stmt:=Bs (top 41) 0
theorem RK:FnScope ["self","letters","most"] ["self","letters","most"] (Ab C1):=by walk_at "sc"
noncomputable abbrev EO:Stmt:=Bs (top 21) 6
theorem WO:FnScope ["self"] ["self"] (Ab EO):=by walk_at "sc"
noncomputable abbrev BK:Stmt:=Bs (top 41) 7
theorem P8:FnScope ["self"] ["self"] (Ab BK):=by walk_at "sc"
noncomputable abbrev GZ:Stmt:=top 44
theorem Ta:FnScope ["script","k","many"] ["script","k"] (Ab GZ):=by walk_at "sc"
noncomputable abbrev FU:Stmt:=top 45
theorem YZ:FnScope ["cell"] ["cell"] (Ab FU):=by walk_at "sc"
noncomputable abbrev ER:Stmt:=top 46
theorem Hq:FnScope ["house","word","room","told","letter"] ["house","word"] (Ab ER):=by walk_at "sc"
noncomputable abbrev ES:Stmt:=top 51
theorem Y0:FnScope ["script","at","letters","many"] ["script","at","letters","many"] (Ab ES):=by walk_at "sc"
noncomputable abbrev C2:Stmt:=top 52
theorem HS:FnScope ["script","at","letters","heard","word"] ["script","at","letters","heard"] (Ab C2):=by walk_at "sc"
noncomputable abbrev ET:Stmt:=top 53
theorem Lu:FnScope ["asker","script","letters","turn","wish","word"] ["asker","script","letters","turn"] (Ab ET):=by walk_at "sc"
noncomputable abbrev Dn:Stmt:=top 54
theorem FF:FnScope ["script","letters","turns","most","asker","turn"] ["script","letters","turns"] (Ab Dn):=by walk_at "sc"
noncomputable abbrev Ej:Stmt:=Bs (top 21) 4
theorem U6:FnScope ["self"] ["self"] (Ab Ej):=by walk_at "sc"
noncomputable abbrev Ck:Stmt:=Bs (top 41) 5
theorem OH:FnScope ["self"] ["self"] (Ab Ck):=by walk_at "sc"
noncomputable abbrev DJ:Stmt:=Bs (top 21) 5
theorem Tc:FnScope ["self"] ["self"] (Ab DJ):=by walk_at "sc"
noncomputable abbrev B7:Stmt:=Bs (top 41) 6
theorem NX:FnScope ["self"] ["self"] (Ab B7):=by walk_at "sc"
noncomputable abbrev F8:Stmt:=top 55
theorem AY_:FnScope ["asker"] ["asker"] (Ab F8):=by walk_at "sc"
noncomputable abbrev DK:Stmt:=top 56
theorem IE:FnScope ["asker","script","letters","turns","other","turn"] ["asker","script","letters","turns"] (Ab DK):=by walk_at "sc"
noncomputable abbrev BS:Stmt:=top 57
theorem Cb:FnScope ["asker","script","letters","odd","word","place","number","bad","pair"] ["asker","script","letters","odd"] (Ab BS):=by walk_at "sc"
noncomputable abbrev WQ:Stmt:=top 58
theorem Rq:FnScope ["script","letters","turns","asker","wish","ahead","far","odd"] ["script"] (Ab WQ):=by walk_at "sc"
noncomputable def Td:Caps:=[("letter",none),("letters",some 0)]
theorem U7:(Caps.names Td).Nodup:=by decide +kernel
noncomputable def Ct_:Caps:=[("room",none),("letter",none),("house",some 0)]
theorem Te:(Caps.names Ct_).Nodup:=by decide +kernel
noncomputable def Rr:Caps:=[("end",none),("book",some 0),("word",some 1)]
theorem Tf:(Caps.names Rr).Nodup:=by decide +kernel
noncomputable def JK:Caps:=[("letter",none),("rooms",some 3),("marks",some 2),("word",some 5)]
theorem M9:(Caps.names JK).Nodup:=by decide +kernel
noncomputable def GL:Caps:=[("word",none),("marks",some 1),("self",some 0)]
theorem Jo:(Caps.names GL).Nodup:=by decide +kernel
noncomputable def Rt:Caps:=[("word",none),("marks",some 4)]
theorem Tg:(Caps.names Rt).Nodup:=by decide +kernel
noncomputable def GN:Caps:=[("letter",none)]
theorem Jp:(Caps.names GN).Nodup:=by decide +kernel
noncomputable def OI:Caps:=[("k",none),("letters",some 2),("script",some 0),("at",some 1)]
theorem RL:(Caps.names OI).Nodup:=by decide +kernel
noncomputable def JL:Caps:=[("pair",none)]
theorem Na:(Caps.names JL).Nodup:=by decide +kernel
structure Txt (mg:Str->Option Value):Prop where
 ValueError:mg "ValueError"=none
 all:mg "all"=none
 enumerate:mg "enumerate"=none
 isinstance:mg "isinstance"=none
 len:mg "len"=none
 list:mg "list"=none
 max:mg "max"=none
 range:mg "range"=none
 tuple:mg "tuple"=none
 zip:mg "zip"=none
structure Own (K:PySem.W.Frag)(mg:Str->Option Value)(C_j7 C_j9 C_jj C_ja C_j1 C_j4:Addr):Prop where
 m_j7:mg "Book"=some (.ref C_j7)
 cl_j7:Cls K C_j7
 n_Book_letters:Fo K C_j7 "letters"
 n_Book_marks:Fo K C_j7 "marks"
 m_j9:mg "Turns"=some (.ref C_j9)
 m_jj:mg "Hunt"=some (.ref C_jj)
 m_ja:mg "Asker"=some (.ref C_ja)
 m_j1:mg "SayHunt"=some (.ref C_j1)
 cl_j1:Cls K C_j1
 n_SayHunt_book:Fo K C_j1 "book"
 n_SayHunt_ends:Fo K C_j1 "ends"
 n_SayHunt_gaps:Fo K C_j1 "gaps"
 n_SayHunt_guess:Fo K C_j1 "guess"
 n_SayHunt_letters:Fo K C_j1 "letters"
 n_SayHunt_most:Fo K C_j1 "most"
 n_SayHunt_ways:Fo K C_j1 "ways"
 n_SayHunt_wish:Fo K C_j1 "wish"
 n_SayHunt_wrong:Fo K C_j1 "wrong"
 m_j4:mg "SayAsker"=some (.ref C_j4)
 cl_j4:Cls K C_j4
 n_SayAsker_hunt:Fo K C_j4 "hunt"
 n_SayAsker_letters:Fo K C_j4 "letters"
 kk_SayAsker_Asker:PySem.W.kitOne K (.ref C_j4) (.ref C_ja)=some false
 ka_SayAsker:PySem.W.findIn K (.ref C_j4) "__class__"=some (some (.builtin "object.__class__"))
 ko_SayAsker:PySem.W.mroIn K C_j4 (.type "object")=some true
 q_j28:∃t,mg "MOST_MARK"=some (.int 1000000000 t)
structure Exs (K:PySem.W.Frag)(mg:Str->Option Value)(C_j8 C_j5 C_j6 C_j3 C_j2 C_j0:Addr):Prop where
 m_j8:mg "AskError"=some (.ref C_j8)
 m_j5:mg "BadWord"=some (.ref C_j5)
 m_j6:mg "BadMark"=some (.ref C_j6)
 m_j3:mg "OutOfTurn"=some (.ref C_j3)
 m_j2:mg "NoDifference"=some (.ref C_j2)
 m_j0:mg "Contradiction"=some (.ref C_j0)
 x_j5:PySem.W.excIn K C_j5 bmV "ValueError.__new__"=true
 c_j5:ExcCls K C_j5
 e_j5:PySem.W.exmOne K (.ref C_j5) (.ref C_j8)=some true
 v_j5:PySem.W.kitOne K (.ref C_j5) (.type "ValueError")=some true
 ee_j5:PySem.W.exmOne K (.ref C_j5) (.ref C_j5)=some true
 k_j5_j8:PySem.W.kitOne K (.ref C_j5) (.ref C_j8)=some true
 k_j5_j5:PySem.W.kitOne K (.ref C_j5) (.ref C_j5)=some true
 k_j5_j6:PySem.W.kitOne K (.ref C_j5) (.ref C_j6)=some false
 k_j5_j3:PySem.W.kitOne K (.ref C_j5) (.ref C_j3)=some false
 k_j5_j2:PySem.W.kitOne K (.ref C_j5) (.ref C_j2)=some false
 k_j5_j0:PySem.W.kitOne K (.ref C_j5) (.ref C_j0)=some false
 x_j6:PySem.W.excIn K C_j6 bmV "ValueError.__new__"=true
 c_j6:ExcCls K C_j6
 e_j6:PySem.W.exmOne K (.ref C_j6) (.ref C_j8)=some true
 v_j6:PySem.W.kitOne K (.ref C_j6) (.type "ValueError")=some true
 ee_j6:PySem.W.exmOne K (.ref C_j6) (.ref C_j6)=some true
 k_j6_j8:PySem.W.kitOne K (.ref C_j6) (.ref C_j8)=some true
 k_j6_j5:PySem.W.kitOne K (.ref C_j6) (.ref C_j5)=some false
 k_j6_j6:PySem.W.kitOne K (.ref C_j6) (.ref C_j6)=some true
 k_j6_j3:PySem.W.kitOne K (.ref C_j6) (.ref C_j3)=some false
 k_j6_j2:PySem.W.kitOne K (.ref C_j6) (.ref C_j2)=some false
 k_j6_j0:PySem.W.kitOne K (.ref C_j6) (.ref C_j0)=some false
 x_j3:PySem.W.excIn K C_j3 bmV "ValueError.__new__"=true
 c_j3:ExcCls K C_j3
 e_j3:PySem.W.exmOne K (.ref C_j3) (.ref C_j8)=some true
 v_j3:PySem.W.kitOne K (.ref C_j3) (.type "ValueError")=some true
 ee_j3:PySem.W.exmOne K (.ref C_j3) (.ref C_j3)=some true
 k_j3_j8:PySem.W.kitOne K (.ref C_j3) (.ref C_j8)=some true
 k_j3_j5:PySem.W.kitOne K (.ref C_j3) (.ref C_j5)=some false
 k_j3_j6:PySem.W.kitOne K (.ref C_j3) (.ref C_j6)=some false
 k_j3_j3:PySem.W.kitOne K (.ref C_j3) (.ref C_j3)=some true
 k_j3_j2:PySem.W.kitOne K (.ref C_j3) (.ref C_j2)=some false
 k_j3_j0:PySem.W.kitOne K (.ref C_j3) (.ref C_j0)=some false
 x_j2:PySem.W.excIn K C_j2 bmV "ValueError.__new__"=true
 c_j2:ExcCls K C_j2
 e_j2:PySem.W.exmOne K (.ref C_j2) (.ref C_j8)=some true
 v_j2:PySem.W.kitOne K (.ref C_j2) (.type "ValueError")=some true
 ee_j2:PySem.W.exmOne K (.ref C_j2) (.ref C_j2)=some true
 k_j2_j8:PySem.W.kitOne K (.ref C_j2) (.ref C_j8)=some true
 k_j2_j5:PySem.W.kitOne K (.ref C_j2) (.ref C_j5)=some false
 k_j2_j6:PySem.W.kitOne K (.ref C_j2) (.ref C_j6)=some false
 k_j2_j3:PySem.W.kitOne K (.ref C_j2) (.ref C_j3)=some false
 k_j2_j2:PySem.W.kitOne K (.ref C_j2) (.ref C_j2)=some true
 k_j2_j0:PySem.W.kitOne K (.ref C_j2) (.ref C_j0)=some false
 x_j0:PySem.W.excIn K C_j0 bmV "ValueError.__new__"=true
 c_j0:ExcCls K C_j0
 e_j0:PySem.W.exmOne K (.ref C_j0) (.ref C_j8)=some true
 v_j0:PySem.W.kitOne K (.ref C_j0) (.type "ValueError")=some true
 ee_j0:PySem.W.exmOne K (.ref C_j0) (.ref C_j0)=some true
 k_j0_j8:PySem.W.kitOne K (.ref C_j0) (.ref C_j8)=some true
 k_j0_j5:PySem.W.kitOne K (.ref C_j0) (.ref C_j5)=some false
 k_j0_j6:PySem.W.kitOne K (.ref C_j0) (.ref C_j6)=some false
 k_j0_j3:PySem.W.kitOne K (.ref C_j0) (.ref C_j3)=some false
 k_j0_j2:PySem.W.kitOne K (.ref C_j0) (.ref C_j2)=some false
 k_j0_j0:PySem.W.kitOne K (.ref C_j0) (.ref C_j0)=some true
section
variable {P:Program} {w:World} {K:PySem.W.Frag} {mg:Str->Option Value} {base:Heap}
variable {C_j8 C_j5 C_j6 C_j3 C_j2 C_j0 C_j7 C_j9 C_jj C_ja C_j1 C_j4:Addr}
noncomputable def V7 (K:PySem.W.Frag):Sp:=fun vs H Q _=>∃(L:Int) (a:Addr) (ws:List Int),vs=[.int L,.ref a]/\SqT K H a (ws.map V.int)/\ws.length<=1000/\∀H',Same H H'->Q (.bl (isW L ws)) H'
theorem Dh_   (F:Fun K "is_word" "is_word" Iz f fd)(T:Txt mg)
  (W:Own K mg C_j7 C_j9 C_jj C_ja C_j1 C_j4)
  (Z:Exs K mg C_j8 C_j5 C_j6 C_j3 C_j2 C_j0)
  : FnOk P w K mg base CX0 1 f fd ["letters","word"] (V7 K):=by
 refine F.ok Df_ (fun vs H Q E h=>?_) (fun cdv A outer s H vs Q E hr h=>?_)
 ·obtain⟨L,a,ws,rfl,_⟩:=h;rfl
 ·obtain⟨L,a,ws,rfl,hw,hz,k⟩:=h
  have hl:=Ao
  refine⟨_,(Ac (As (C4 (FY_ rfl) rfl T.all PyProof.Rows.boot_all (Aa (Ln rfl (OD rfl) (cp:=Td) ⟨⟨rfl,rfl⟩,True.intro⟩ (DR_ (pvD 1)) (fun _ _ _ _=>(B4 (i:=0) U7 rfl (Or.inl rfl))) (fun _ _ _ _=>OC) (fun _ _ _ _=>(Cg_ HZ_ HY_ Ai (pvD 0) (pvD 1)))) Af)))),?_⟩
  walk_at "rd"
  refine⟨⟨_,hw⟩,Ga_ (σ':=[some (.int L)]) (fun x=>match x with | .int n=>.bl (inW L n)|_=>.non) rfl hw (by rw[List.length_map];lia) (fun x hx R hR=>?_) (fun D hD=>?_)⟩
  ·obtain⟨n,_,rfl⟩:=OE hx
   walk_at "rd"
   by_cases h0:0<=n
   ·simp only[h0,if_true]
    simpa [inW,h0] using hR
   ·simp only[h0,if_false]
    simpa [inW,h0] using hR
  ·refine⟨D,rfl,ws.map (inW L),.inl (.inl ?_),?_⟩
   ·rw[Ae,List.map_map,List.map_map];rfl
   ·have:=k _ (Same.new hD (o:=.lst ((ws.map V.int).map fun x=>match x with | .int n=>.bl (inW L n)|_=>.non)))
    simpa [isW,List.all_map] using this
noncomputable def WR (K:PySem.W.Frag)(BW:Addr):Sp:=fun vs H Q E=>∃(L:Int) (a:Addr) (ws:List Int),vs=[.int L,.ref a]/\SqT K H a (ws.map V.int)/\ws.length<=1000/\(isW L ws=true->∀H',Same H H'->Q .non H')/\(isW L ws=false->∀H',Same H H'->E (.ref BW) none H')
theorem WT   (F:Fun K "check_word" "check_word" D1 f fd)(T:Txt mg)
  (W:Own K mg C_j7 C_j9 C_jj C_ja C_j1 C_j4)
  (Z:Exs K mg C_j8 C_j5 C_j6 C_j3 C_j2 C_j0)
   (Th:FnOk P w K mg base CX0 1 JN V8 ["letters","word"] (V7 K)) (Lv:Fun K "is_word" "is_word" Iz JN V8) (Ti:Ap K V8 ["letters","word"] []) (Tj:mg "is_word"=some (.ref JN))
  : FnOk P w K mg base (CXe P w) 2 f fd ["letters","word"] (WR K C_j5):=by
 refine F.okE WG (fun vs H Q E h=>?_) (fun cdv A outer s H vs Q E hr h=>?_)
 ·obtain⟨L,a,ws,rfl,_⟩:=h;rfl
 ·obtain⟨L,a,ws,rfl,hw,hz,k,kE⟩:=h
  have hl:=Ao
  refine⟨_,(Ac (Cv (DO_ (ptB (Nz (Aj Th (hr.mono (by decide)) rfl Tj Lv.kp Ti .nil Ay (Aa (pvD 0) (Aa (pvD 1) Af))))))
   (Ac (M0 Z.m_j5 Z.x_j5 rfl rfl (Aa Bn Af)))
   AR)),?_⟩
  walk_at "rd"
  refine⟨L,a,ws,rfl,hw,hz,fun H' s'=>?_⟩
  walk_at "rd"
  cases hv:isW L ws with
  |true=>
   simp only[Bool.not_true,Bool.false_eq_true,if_false]
   exact k hv H' s'
  |false=>
   simp only[Bool.not_false,if_true]
   exact⟨by lia,kE hv H' s'⟩
noncomputable def V9:Sp:=fun vs H Q _=>∃n:Int,vs=[.int n]/\Q (.bl (decide (0<=n)&&decide (n<=1000000000))) H
theorem Di_   (F:Fun K "is_mark" "is_mark" IA f fd)(T:Txt mg)
  (W:Own K mg C_j7 C_j9 C_jj C_ja C_j1 C_j4)
  (Z:Exs K mg C_j8 C_j5 C_j6 C_j3 C_j2 C_j0)
  : FnOk P w K mg base CX0 1 f fd ["number"] (V9):=by
 refine F.ok Dg_ (fun vs H Q E h=>?_) (fun cdv A outer s H vs Q E hr h=>?_)
 ·obtain⟨n,rfl,_⟩:=h;rfl
 ·obtain⟨n,rfl,k⟩:=h
  refine⟨_,(Ac (As (Cg_ HZ_ HZ_ Ai (pvD 0) (KI_ rfl W.q_j28)))),?_⟩
  walk_at "rd"
  by_cases h0:0<=n
  ·simp only[h0,if_true]
   simpa [h0] using k
  ·simp only[h0,if_false]
   simpa [h0] using k
noncomputable def NA (BM:Addr):Sp:=fun vs H Q E=>∃n:Int,vs=[.int n]/\(0<=n->n<=1000000000->Q .non H)/\(¬ (0<=n/\n<=1000000000)->E (.ref BM) none H)
theorem WU   (F:Fun K "check_mark" "check_mark" EH f fd)(T:Txt mg)
  (W:Own K mg C_j7 C_j9 C_jj C_ja C_j1 C_j4)
  (Z:Exs K mg C_j8 C_j5 C_j6 C_j3 C_j2 C_j0)
   (Tn:FnOk P w K mg base CX0 1 JO Wa ["number"] (V9)) (Lw:Fun K "is_mark" "is_mark" IA JO Wa) (To:Ap K Wa ["number"] []) (Tp:mg "is_mark"=some (.ref JO))
  : FnOk P w K mg base (CXe P w) 2 f fd ["mark"] (NA C_j6):=by
 refine F.okE WH (fun vs H Q E h=>?_) (fun cdv A outer s H vs Q E hr h=>?_)
 ·obtain⟨n,rfl,_⟩:=h;rfl
 ·obtain⟨n,rfl,k,kE⟩:=h
  refine⟨_,(Ac (Cv (DO_ (ptB (Nz (Aj Tn (hr.mono (by decide)) rfl Tp Lw.kp To .nil Ay (Aa (pvD 0) Af)))))
   (Ac (M0 Z.m_j6 Z.x_j6 rfl rfl (Aa Bn Af)))
   AR)),?_⟩
  walk_at "rd"
  refine⟨n,rfl,?_⟩
  walk_at "rd"
  by_cases h0:0<=n/\n<=1000000000
  ·rw[if_neg (by simp[h0.1,h0.2])]
   exact k h0.1 h0.2
  ·rw[if_pos (by simp only[Bool.not_eq_true',Bool.and_eq_false_iff,decide_eq_false_iff_not];lia)]
   exact⟨by have:=Ao;lia,kE h0⟩
noncomputable def Tq (K:PySem.W.Frag)(BW:Addr):Sp:=fun vs H Q E=>∃(h a m wv:Addr) (L:Int) (marks:List Int) (ways:List (List Int)) (ws:List Int),vs=[.ref h,.ref a]/\SqT K H h [.int L,.ref m,.ref wv]/\Rows K H wv ways/\Wf L marks ways/\SqT K H a (ws.map V.int)/\ws.length<=600/\(isW L ws=true->∀p H',Same H H'->H p=none->H' p=some (.lst ((S0 ways ws).map V.int))->Q (.ref p) H')/\(isW L ws=false->∀H',Same H H'->E (.ref BW) none H')
theorem Go_   (F:Fun K "trail" "trail" Lp f fd)(T:Txt mg)
  (W:Own K mg C_j7 C_j9 C_jj C_ja C_j1 C_j4)
  (Z:Exs K mg C_j8 C_j5 C_j6 C_j3 C_j2 C_j0)
   (F9:FnOk P w K mg base (CXe P w) 2 Dp Gv ["letters","word"] (WR K C_j5)) (D5:Fun K "check_word" "check_word" D1 Dp Gv) (Ga:Ap K Gv ["letters","word"] []) (Gb:mg "check_word"=some (.ref Dp))
  : FnOk P w K mg base (CXe P w) 3 f fd ["house","word"] (Tq K C_j5):=by
 refine F.okE SA (fun vs H Q E h=>?_) (fun cdv A outer s H vs Q E hr h=>?_)
 ·obtain⟨h,a,m,wv,L,marks,ways,ws,rfl,_⟩:=h;rfl
 ·obtain⟨h,a,m,wv,L,marks,ways,ws,rfl,h1,h3,wf,hw,hz,k,kE⟩:=h
  have hl:=Ao
  refine⟨_,(Ad (Ba (Aj F9 (hr.mono (by decide)) rfl Gb D5.kp Ga .nil (JH fun _ _ _ h=>h) (Aa (BG (ixTD CZ) (pvD 0) Ai) (Aa (pvD 1) Af))))
   (PSs.nox (Ad (AE (i:=2) SA.nd (BG (ixTD CZ) (pvD 0) Ai))
   (Ad (AE (i:=3) SA.nd (Rm (Aa Ai Af)))
   (Ad (Hl PassesOwn.never rfl (DR_ (pvD 1)) (B4 (i:=4) SA.nd rfl (Or.inl rfl))
   (Ac (Ba (CV_ PySem.F.plainAttrs_list PySem.F.slot_list_append PySem.F.type_list_append Lk (pvD 3) (Aa (BG (ixTD CZ) (BG (ixTD CZ) (pvD 2) (BG (ixLD Jn) (pvD 3) (AI_ SK Ai))) (pvD 4)) Af)))))
   (Ac (As (pvD 3)))))))),?_⟩
  walk_at "rd"
  refine⟨_,h1,_,rfl,L,a,ws,rfl,hw,by lia,fun hv H1 s1=>?_,kE⟩
  walk_at "rd"
  have hw1:=s1.seqT hw
  have h3':=h3.mono s1
  refine⟨_,s1.seqT h1,_,rfl,by lia,fun p hp=>?_⟩
  have s2:=Same.new hp (o:=.lst [V.int 0])
  refine⟨⟨_,s2.seqT hw1⟩,forT (xs:=ws.map V.int) (fun i σ2 H2=>Same H1 H2/\H2 p=some (.lst (((List.range (i+1)).map fun j=>Fp ways (ws.take j)).map V.int))/\∃o,σ2=[some (.ref h),some (.ref a),some (.ref wv),some (.ref p),o]) ⟨s2,by rw[Ae];simp[Fp],none,rfl⟩ (fun i σ2 H2 _ h=>h.1.seqT hw1) (fun i x σ2 H2 hx h=>?_) (fun σ2 H2 h=>?_)⟩
  ·obtain⟨s3,hp3,o,rfl⟩:=h
   obtain⟨n,hn,rfl⟩:=Sv hx
   have hi:=(List.getElem?_eq_some_iff.mp hn).1
   have hx:=Ci.mp hv n (List.mem_of_getElem? hn)
   have hwk:=wf.walk hv i
   obtain⟨row,g,r1,r2,r3,r4,r5⟩:=wf.step hwk.1 hwk.2 hx.1 hx.2
   obtain⟨xs,t,q1,q2,q3⟩:=(h3'.mono s3).atZ hwk.1 r1
   walk_at "rd"
   refine⟨.inl ⟨rfl,_,SqL.of hp3⟩,_,SqL.of hp3,_,AQ_ (v:=V.int (Fp ways (ws.take i))) (by simp),?_⟩
   walk_at "rd"
   refine⟨_,q1,_,q2,?_⟩
   walk_at "rd"
   refine⟨_,q3,_,S1 hx.1 r2,_,hp3,by simp;lia,s3.over hp,?_,_,rfl⟩
   rw[Ae,show List.range (i+1+1)=List.range (i+1)++[i+1] from List.range_succ,List.map_append,List.map_append,<-r3,<-M3 hn]
   rfl
  ·obtain⟨s3,hp3,o,rfl⟩:=h
   walk_at "rd"
   rw[List.length_map]at hp3
   exact k hv p H2 (s1.trans s3) (s1.free hp) hp3
noncomputable def U8 (K:PySem.W.Frag)(H:Hp)(h:Addr)(L:Int)(says ways:List (List Int)):Prop:=∃m wv:Addr,SqT K H h [.int L,.ref m,.ref wv]/\Rows K H m says/\Rows K H wv ways
theorem U8.mono {K:PySem.W.Frag}     (x:U8 K H h L says ways)(e:Same H H'):U8 K H' h L says ways:=by
 obtain⟨m,wv,h1,h2,h3⟩:=x
 exact⟨m,wv,e.seqT h1,h2.mono e,h3.mono e⟩
structure WfS (L:Int)(says ways:List (List Int)):Prop where
 wf:Wf L (List.replicate says.length 0) ways
 sr:∀row∈says,(row.length:Int)=L
noncomputable def sayW (says ways:List (List Int))(ws:List Int):List Int:=(List.range ws.length).map fun j=>KG says (Fp ways (ws.take j)) (ws.getD j 0)
theorem IF (says ways:List (List Int))(ws:List Int):(sayW says ways ws).length=ws.length:=by unfold sayW;rw[List.length_map,List.length_range]
theorem WfS.at {L:Int}{says ways:List (List Int)}(h:WfS L says ways){r x:Int}(r0:0<=r)(r1:r<says.length)(x0:0<=x)(x1:x<L):∃row,says[r.toNat]?=some row/\row[x.toNat]?=some (KG says r x):=by
 have hr:r.toNat<says.length:=by lia
 refine⟨says[r.toNat],by simp[hr],?_⟩
 have hl:=h.sr _ (List.getElem_mem hr)
 have hx:x.toNat<(says[r.toNat]).length:=by lia
 have e:says.getD r.toNat []=says[r.toNat]:=by rw[List.getD_eq_getElem?_getD,List.getElem?_eq_getElem hr];rfl
 unfold KG
 rw[e,List.getD_eq_getElem?_getD,List.getElem?_eq_getElem hx];rfl
theorem WfS.walk   (h:WfS L says ways)  (hw:isW L ws=true)(i:Nat):0<=Fp ways (ws.take i)/\Fp ways (ws.take i)<says.length:=by
 have:=h.wf.walk hw i
 rw[List.length_replicate]at this
 exact this
noncomputable def Ff_ (K:PySem.W.Frag)(BW:Addr):Sp:=fun vs H Q E=>∃(h a:Addr) (L:Int) (says ways:List (List Int)) (ws:List Int),vs=[.ref h,.ref a]/\U8 K H h L says ways/\WfS L says ways/\SqT K H a (ws.map V.int)/\ws.length<=600/\(isW L ws=true->∀p H',Same H H'->H' p=some (.lst ((sayW says ways ws).map V.int))->Q (.ref p) H')/\(isW L ws=false->∀H',Same H H'->E (.ref BW) none H')
theorem IK_   (F:Fun K "said" "said" S8 f fd)(T:Txt mg)
  (W:Own K mg C_j7 C_j9 C_jj C_ja C_j1 C_j4)
  (Z:Exs K mg C_j8 C_j5 C_j6 C_j3 C_j2 C_j0)
   (P9:FnOk P w K mg base (CXe P w) 3 Ka OJ ["house","word"] (Tq K C_j5)) (Lx:Fun K "trail" "trail" Lp Ka OJ) (Qa:Ap K OJ ["house","word"] []) (Qb:mg "trail"=some (.ref Ka))
  : FnOk P w K mg base (CXe P w) 4 f fd ["house","word"] (Ff_ K C_j5):=by
 refine F.okE IJ_ (fun vs H Q E h=>?_) (fun cdv A outer s H vs Q E hr h=>?_)
 ·obtain⟨h,a,L,says,ways,ws,rfl,_⟩:=h;rfl
 ·obtain⟨h,a,L,says,ways,ws,rfl,hh,wf,hw,hz,k,kE⟩:=h
  have hl:=Ao
  refine⟨_,(Ac (As (Ln rfl (OD rfl) (cp:=Ct_) ⟨⟨rfl,rfl⟩,True.intro⟩ (Iw_ rfl T.zip (Aa (Aj P9 (hr.mono (by decide)) rfl Qb Lx.kp Qa .nil (JH fun _ _ _ h=>h) (Aa (pvD 0) (Aa (pvD 1) Af))) (Aa (pvD 1) Af))) (fun _ _ _ _=>(Ix_ (K:=K) (n:=2) rfl rfl (MW (B4 (i:=0) Te rfl (Or.inl rfl)) (MW (B4 (i:=1) Te rfl (Or.inl rfl)) AH_)))) (fun _ _ _ _=>OC) (fun _ _ _ _=>(BG (ixTD (WA (K:=K) rfl)) (BG (ixTD (WA (K:=K) rfl)) (BG (ixTD (WA (K:=K) rfl)) (pvD 2) Ai) (pvD 0)) (pvD 1)))))),?_⟩
  walk_at "rd"
  obtain⟨m,wv,h1,h2,h3⟩:=id hh
  refine⟨h,a,m,wv,L,_,ways,ws,rfl,h1,h3,wf.wf,hw,hz,fun hv p H1 s1 hp hp1=>?_,kE⟩
  refine⟨p,rfl,_,_,false,SqL.of hp1,true,s1.seqT hw,?_⟩
  have htl:(S0 ways ws).length=ws.length+1:=WB ways ws
  obtain⟨Pv,hPv⟩:∃Pv:Nat->List V->St->Hp->Prop,∀i zs σ2 H2,Pv i zs σ2 H2↔(Same H1 H2/\zs=((List.range i).map fun j=>KG says (Fp ways (ws.take j)) (ws.getD j 0)).map V.int/\∃o1 o2,σ2=[o1,o2,some (.ref h)]):=⟨_,fun _ _ _ _=>Iff.rfl⟩
  refine Kc_ ws.length (by rw[List.length_map];lia) (by rw[List.length_map];lia) (by rw[List.length_map,List.length_map];exact .inr rfl) Pv ((hPv _ _ _ _).mpr ⟨Same.refl _,rfl,none,none,rfl⟩) s!"" (fun i zs σ2 H2 hi h2=>?_) (fun i u v zs σ2 H2 t hi hu hv' h2 ht=>?_) (fun zs σ2 H2 h2 D hD=>?_)
  ·obtain⟨s2,rfl,_⟩:=(hPv _ _ _ _).mp h2
   exact⟨SqL.of (s2 _ _ hp1),(s1.trans s2).seqT hw,by rw[List.length_map,List.length_map,List.length_range];exact Nat.le_refl _⟩
  ·obtain⟨s2,rfl,o1,o2,rfl⟩:=(hPv _ _ _ _).mp h2
   obtain⟨rm,hrm,rfl⟩:=Sv hu
   obtain⟨n,hn,rfl⟩:=Sv hv'
   have erm:rm=Fp ways (ws.take i):=by
    unfold S0 at hrm
    rw[List.getElem?_map,List.getElem?_range s!""]at hrm
    exact (Option.some.inj hrm).symm
   subst erm
   have hx:=Ci.mp hv n (List.mem_of_getElem? hn)
   have hwk:=wf.walk hv i
   obtain⟨srow,r1,r2⟩:=wf.at hwk.1 hwk.2 hx.1 hx.2
   have st:=s2.newT ht (o:=.tup [V.int (Fp ways (ws.take i)),V.int n])
   obtain⟨m',wv',k1,k2,k3⟩:=hh.mono (s1.trans st)
   obtain⟨xs,t',q1,q2,q3⟩:=k2.atZ hwk.1 r1
   walk_at "rd"
   refine⟨_,SqT.of Ae,rfl,_,_,rfl,_,_,rfl,rfl,_,k1,_,rfl,?_⟩
   walk_at "rd"
   refine⟨_,q1,_,q2,t',rfl,_,q3,_,S1 hx.1 r2,(hPv _ _ _ _).mpr ⟨st,?_,_,_,rfl⟩⟩
   rw[List.range_succ,List.map_append,List.map_append,List.map_singleton,List.map_singleton,show ws.getD i 0=n from by rw[List.getD_eq_getElem?_getD,hn];rfl]
  ·obtain⟨s2,rfl,_⟩:=(hPv _ _ _ _).mp h2
   exact k hv D _ ((s1.trans s2).newT hD) Ae
noncomputable def Lz (K:PySem.W.Frag)(BW:Addr):Sp:=fun vs H Q E=>∃(a:Addr) (ws:List Int),vs=[.ref a]/\SqT K H a (ws.map V.int)/\(ws ≠ []->Q .non H)/\(ws=[]->E (.ref BW) none H)
theorem OK   (F:Fun K "check_not_empty" "check_not_empty" BU f fd)(T:Txt mg)
  (W:Own K mg C_j7 C_j9 C_jj C_ja C_j1 C_j4)
  (Z:Exs K mg C_j8 C_j5 C_j6 C_j3 C_j2 C_j0)
  : FnOk P w K mg base (CXe P w) 1 f fd ["word"] (Lz K C_j5):=by
 refine F.okE OF (fun vs H Q E h=>?_) (fun cdv A outer s H vs Q E hr h=>?_)
 ·obtain⟨a,ws,rfl,_⟩:=h;rfl
 ·obtain⟨a,ws,rfl,hw,k,kE⟩:=h
  have hl:=Ao
  refine⟨_,(Ac (Cv (ptT (Az (opE NS) (C4 (lenD Dm) (by rfl) T.len PySem.boot_len (Aa (pvD 0) Af)) Ai (Bh _)))
   (Ac (M0 Z.m_j5 Z.x_j5 rfl rfl (Aa Bn Af)))
   AR)),?_⟩
  walk_at "rd"
  refine⟨_,.inr hw,?_⟩
  rw[List.length_map]
  refine ite2 (fun e=>⟨by lia,kE (List.eq_nil_of_length_eq_zero (by simpa using e))⟩) (fun e=>k fun z=>e (by rw[z];rfl))
noncomputable def Ja (K:PySem.W.Frag)(BW:Addr):Sp:=fun vs H Q E=>∃(h a:Addr) (L:Int) (says ways:List (List Int)) (ws:List Int),vs=[.ref h,.ref a]/\U8 K H h L says ways/\WfS L says ways/\SqT K H a (ws.map V.int)/\ws.length<=600/\(isW L ws=true->ws ≠ []->∀H' x,Same H H'->(sayW says ways ws)[ws.length-1]?=some x->Q (.int x) H')/\(isW L ws=false\/ws=[]->∀H',Same H H'->E (.ref BW) none H')
theorem Y1   (F:Fun K "last_said" "last_said" Eg f fd)(T:Txt mg)
  (W:Own K mg C_j7 C_j9 C_jj C_ja C_j1 C_j4)
  (Z:Exs K mg C_j8 C_j5 C_j6 C_j3 C_j2 C_j0)
   (CP:FnOk P w K mg base (CXe P w) 1 BA Dq ["word"] (Lz K C_j5)) (BY:Fun K "check_not_empty" "check_not_empty" BU BA Dq) (CQ:Ap K Dq ["word"] []) (CT:mg "check_not_empty"=some (.ref BA))
   (Fg_:FnOk P w K mg base (CXe P w) 4 Wb Fh_ ["house","word"] (Ff_ K C_j5)) (Y2:Fun K "said" "said" S8 Wb Fh_) (Fi_:Ap K Fh_ ["house","word"] []) (Fj_:mg "said"=some (.ref Wb))
  : FnOk P w K mg base (CXe P w) 5 f fd ["house","word"] (Ja K C_j5):=by
 refine F.okE YW (fun vs H Q E h=>?_) (fun cdv A outer s H vs Q E hr h=>?_)
 ·obtain⟨h,a,L,says,ways,ws,rfl,_⟩:=h;rfl
 ·obtain⟨h,a,L,says,ways,ws,rfl,hh,wf,hw,hz,k,kE⟩:=h
  refine⟨_,(Ad (Ba (Aj CP (hr.mono (by decide)) rfl CT BY.kp CQ .nil (JH fun _ _ _ h=>h) (Aa (pvD 1) Af)))
   (Ac (As (BG (ixLD Jn) (Aj Fg_ (hr.mono (by decide)) rfl Fj_ Y2.kp Fi_ .nil (JH fun _ _ _ h=>h) (Aa (pvD 0) (Aa (pvD 1) Af))) (AI_ SK Ai))))),?_⟩
  walk_at "rd"
  refine⟨a,ws,rfl,hw,fun hne=>?_,fun e=>kE (.inr e) _ (Same.refl _)⟩
  walk_at "rd"
  refine⟨h,a,L,says,ways,ws,rfl,hh,wf,hw,hz,fun hv p H1 s1 hp1=>?_,fun hv H1 s1=>kE (.inl hv) _ s1⟩
  walk_at "rd"
  have hlt:ws.length-1<(sayW says ways ws).length:=by
   rw[IF]
   have:=List.length_pos_iff.mpr hne
   lia
  have hx:(sayW says ways ws)[ws.length-1]?=some ((sayW says ways ws)[ws.length-1]):=by simp[hlt]
  refine⟨_,SqL.of hp1,_,AQ_ (v:=V.int ((sayW says ways ws)[ws.length-1])) ?_,k hv hne _ _ s1 hx⟩
  rw[List.length_map,IF,List.getElem?_map,hx];rfl
noncomputable def Ru (C:Addr):Sp:=fun vs H Q _=>∃(p dx:Addr) (L:Int),vs=[.ref p,.int L]/\H p=some (.ins C dx [])/\∀(d:Addr) (H':Hp),H d=none->BookAt C H' p d L []->(∀b o,H b=some o->b≠p->H' b=some o)->Q .non H'
theorem Y3   (F:Fun K "__init__" "Book.__init__" FQ f fd)(T:Txt mg)
  (W:Own K mg C_j7 C_j9 C_jj C_ja C_j1 C_j4)
  (Z:Exs K mg C_j8 C_j5 C_j6 C_j3 C_j2 C_j0)
  : FnOk P w K mg base CX0 1 f fd ["self","letters"] (Ru C_j7):=by
 refine F.ok YX (fun vs H Q E h=>?_) (fun cdv A outer s H vs Q E hr h=>?_)
 ·obtain⟨p,dx,L,rfl,_⟩:=h;rfl
 ·obtain⟨p,dx,L,rfl,hp,k⟩:=h
  refine⟨_,(Ad (F4 (pvD 0) (pvD 1) rfl)
   (Ac (F4 (pvD 0) MZ rfl))),?_⟩
  walk_at "rd"
  refine⟨_,_,_,hp,W.cl_j7,W.n_Book_letters,by decide,fun d hd=>?_⟩
  have hdp:d≠p:=fun z=>by rw[z,Ae]at hd;cases hd
  rw[Ah hdp]at hd
  refine⟨_,_,_,by rw[Ah (Ne.symm hdp)];exact Ae,W.cl_j7,W.n_Book_marks,by simp[putF],?_⟩
  refine k d _ hd ⟨⟨_,Ae⟩,by rw[Ah hdp];exact Ae,by simp⟩ fun b o hb hbp=>?_
  rw[Ah hbp,Ah (B9 hb hd),Ah hbp]
  exact hb
noncomputable def Jq (C BW BM:Addr):Sp:=fun vs H Q E=>∃(p d t:Addr) (L m:Int) (w:List Int) (es:List (List Int×Int)),vs=[.ref p,.ref t,.int m]/\BookAt C H p d L es/\H t=some (.tup (w.map V.int))/\w.length<=900 /\
 (isW L w=false->∀H',Same H H'->E (.ref BW) none H') /\
 (isW L w=true->¬ (0<=m/\m<=1000000000)->∀H',Same H H'->E (.ref BM) none H') /\
 (isW L w=true->0<=m->m<=1000000000->∀H',Same H H'->Q .non H')
theorem WV   (F:Fun K "check" "Book.check" D2 f fd)(T:Txt mg)
  (W:Own K mg C_j7 C_j9 C_jj C_ja C_j1 C_j4)
  (Z:Exs K mg C_j8 C_j5 C_j6 C_j3 C_j2 C_j0)
   (F9:FnOk P w K mg base (CXe P w) 2 Dp Gv ["letters","word"] (WR K C_j5)) (D5:Fun K "check_word" "check_word" D1 Dp Gv) (Ga:Ap K Gv ["letters","word"] []) (Gb:mg "check_word"=some (.ref Dp))
   (LA:FnOk P w K mg base (CXe P w) 2 Gd OL ["mark"] (NA C_j6)) (Hr:Fun K "check_mark" "check_mark" EH Gd OL) (LB:Ap K OL ["mark"] []) (LC:mg "check_mark"=some (.ref Gd))
  : FnOk P w K mg base (CXe P w) 3 f fd ["self","word","mark"] (Jq C_j7 C_j5 C_j6):=by
 refine F.okE WI (fun vs H Q E h=>?_) (fun cdv A outer s H vs Q E hr h=>?_)
 ·obtain⟨p,d,t,L,m,wd,es,rfl,_⟩:=h;rfl
 ·obtain⟨p,d,t,L,m,wd,es,rfl,B,ht,hwl,kW,kM,k⟩:=h
  have hln:=Ao
  refine⟨_,(Ad (Ba (Aj F9 (hr.mono (by decide)) rfl Gb D5.kp Ga .nil (JH fun _ _ _ h=>h) (Aa (AQ (pvD 0) rfl) (Aa (pvD 1) Af))))
   (Ac (Ba (Aj LA (hr.mono (by decide)) rfl LC Hr.kp LB .nil (JH fun _ _ _ h=>h) (Aa (pvD 2) Af))))),?_⟩
  obtain⟨⟨dx,hp⟩,hd,nd⟩:=id B
  walk_at "rd"
  refine⟨_,_,_,hp,W.cl_j7,W.n_Book_letters,_,WD _ _,?_⟩
  refine⟨L,t,wd,rfl,SqT.of ht,by lia,fun hw H1 s1=>?_,fun hw H1 s1=>kW hw H1 s1⟩
  walk_at "rd"
  exact⟨m,rfl,fun h0 h1=>k hw h0 h1 _ s1,fun hm=>kM hw hm H1 s1⟩
noncomputable def putE (es:List (List Int×Int))(v:List Int)(m:Int):List (List Int×Int):=if v∈es.map (·.1) then es else es++[(v,m)]
theorem Dj_    (nd:(es.map (·.1)).Nodup)(h:(v,m)∈es):putK (ents es) (wkey v) (.int m)=ents es:=by
 unfold putK
 rw[J6,I0 nd h,if_pos (by simp)]
 unfold ents
 rw[List.map_map]
 refine List.map_congr_left fun e he=>?_
 show (if wkey e.1=wkey v then (wkey e.1,V.int m) else (wkey e.1,V.int e.2))=(wkey e.1,V.int e.2)
 split
 ·rename_i z
  have e1:e.1=v:=Sy z
  have h1:=I0 nd (show (e.1,e.2)∈es from he)
  rw[e1,I0 nd h]at h1
  rw[Option.some.inj h1]
 ·rfl
noncomputable def LD (C BW BM CO:Addr):Sp:=fun vs H Q E=>∃(p d t:Addr) (L m:Int) (w:List Int) (es:List (List Int×Int)),vs=[.ref p,.ref t,.int m]/\BookAt C H p d L es/\H t=some (.tup (w.map V.int))/\w.length<=900/\es.length<=100000 /\
 (isW L w=false->∀H',Same H H'->E (.ref BW) none H') /\
 (isW L w=true->¬ (0<=m/\m<=1000000000)->∀H',Same H H'->E (.ref BM) none H') /\
 (isW L w=true->0<=m->m<=1000000000->∀n,(w,n)∈es->n≠m->∀H',Same H H'->E (.ref CO) none H') /\
 (isW L w=true->0<=m->m<=1000000000->(∀n,(w,n)∈es->n=m)->∀H',BookAt C H' p d L (putE es w m)->(∀b o,H b=some o->b≠d->H' b=some o)->Q .non H')
theorem AZ_   (F:Fun K "put" "Book.put" F7 f fd)(T:Txt mg)
  (W:Own K mg C_j7 C_j9 C_jj C_ja C_j1 C_j4)
  (Z:Exs K mg C_j8 C_j5 C_j6 C_j3 C_j2 C_j0)
   (Ge:FnOk P w K mg base (CXe P w) 3 Cq Gw ["self","word","mark"] (Jq C_j7 C_j5 C_j6)) (Gf:Fun K "check" "Book.check" D2 Cq Gw) (Gg:Ap K Gw ["self","word","mark"] []) (Gh:Meth K C_j7 "check" Cq)
  : FnOk P w K mg base (CXe P w) 4 f fd ["self","word","mark"] (LD C_j7 C_j5 C_j6 C_j0):=by
 refine F.okE AW_ (fun vs H Q E h=>?_) (fun cdv A outer s H vs Q E hr h=>?_)
 ·obtain⟨p,d,t,L,m,w,es,rfl,_⟩:=h;rfl
 ·obtain⟨p,d,t,L,m,wd,es,rfl,B,ht,hwl,hl,kW,kM,kC,k⟩:=h
  have hln:=Ao
  refine⟨_,(Ad (Ba (DF (pvD 0) W.cl_j7 Gh Ge (hr.mono (by decide)) Gg .nil (JH fun _ _ _ h=>h) (Aa (pvD 1) (Aa (pvD 2) Af))))
   (Ad (Cv (ptT (Az (opN IZ) (FW_ (NT hr) (AQ (pvD 0) rfl) (pvD 1) (pvD 2) ⟨by rfl,by rfl,by rfl,by rfl⟩) (pvD 2) (Bh _)))
   (Ac (M0 Z.m_j0 Z.x_j0 rfl rfl (Aa Bn Af)))
   AR)
   (Ac (NU (NT hr) (AQ (pvD 0) rfl) (pvD 1) (pvD 2) rfl)))),?_⟩
  obtain⟨⟨dx,hp⟩,hd,nd⟩:=id B
  walk_at "rd"
  refine⟨_,_,hp,He _ _ (by decide +kernel) (by decide +kernel),p,d,t,L,m,wd,es,rfl,B,ht,hwl,fun hw H1 s1=>kW hw H1 s1,fun hw hm H1 s1=>kM hw hm H1 s1,fun hw h0 h1 H1 s1=>?_⟩
  have hp1:=s1 _ _ hp
  have hd1:=s1 _ _ hd
  have ht1:H1 t=some (.tup ((wkey wd).map kV)):=by rw[EG];exact s1 _ _ ht
  have hel:(ents es).length=es.length:=by unfold ents;rw[List.length_map]
  have hpd:p≠d:=fun z=>by rw[z,hd1]at hp1;cases hp1
  have hg:=DGet.t hd1 ht1
  walk_at "rd"
  by_cases hn:wd∈es.map (·.1)
  ·obtain⟨e,he,rfl⟩:=List.mem_map.mp hn
   have hv:=I0 nd (show (e.1,e.2)∈es from he)
   rw[hv]at hg
   refine⟨_,_,_,hp1,W.cl_j7,W.n_Book_marks,_,GU _ _,d,rfl,.inr ⟨_,.inl hd1⟩,_,hg,rfl,?_⟩
   by_cases hm:e.2=m
   ·rw[if_neg (by simp[hm])]
    refine⟨_,_,_,hp1,W.cl_j7,W.n_Book_marks,_,GU _ _,d,rfl,_,DPut.t hd1 ht1 s!"",?_⟩
    rw[Dj_ nd (show (e.1,m)∈es from hm ▸ he)]
    refine k hw h0 h1 (fun n hn'=>?_) _ ⟨⟨dx,by rw[Ah hpd];exact hp1⟩,by unfold putE;rw[if_pos hn];exact Ae,by unfold putE;rw[if_pos hn];exact nd⟩ fun b o hb hbd=>by rw[Ah hbd];exact s1 _ _ hb
    have h2:=I0 nd hn'
    rw[hv]at h2
    have h3:=Option.some.inj h2
    simp at h3
    lia
   ·rw[if_pos (by simp[hm])]
    exact⟨by lia,kC hw h0 h1 e.2 he hm H1 s1⟩
  ·rw[S7 hn]at hg
   refine⟨_,_,_,hp1,W.cl_j7,W.n_Book_marks,_,GU _ _,d,rfl,.inr ⟨_,.inl hd1⟩,_,hg,rfl,?_⟩
   rw[if_neg (by simp)]
   refine⟨_,_,_,hp1,W.cl_j7,W.n_Book_marks,_,GU _ _,d,rfl,_,DPut.t hd1 ht1 s!"",?_⟩
   rw[Cr_ hn]
   refine k hw h0 h1 (fun n hn'=>absurd (List.mem_map.mpr ⟨_,hn',rfl⟩) hn) _ ⟨⟨dx,by rw[Ah hpd];exact hp1⟩,by unfold putE;rw[if_neg hn];exact Ae,?_⟩ fun b o hb hbd=>by rw[Ah hbd];exact s1 _ _ hb
   unfold putE
   rw[if_neg hn,List.map_append,List.nodup_append]
   refine⟨nd,by simp,fun a ha b hb z=>?_⟩
   rw[List.map_singleton,List.mem_singleton]at hb
   exact hn (by have e:a=wd:=z.trans hb;rw[<-e];exact ha)
noncomputable def Jb (C:Addr):Sp:=fun vs H Q _=>∃(p d t:Addr) (L:Int) (w:List Int) (es:List (List Int×Int)),vs=[.ref p,.ref t]/\BookAt C H p d L es/\H t=some (.tup (w.map V.int))/\(w∉es.map (·.1)->Q .non H)/\∀m,(w,m)∈es->Q (.int m) H
theorem Y4   (F:Fun K "told" "Book.told" Ef f fd)(T:Txt mg)
  (W:Own K mg C_j7 C_j9 C_jj C_ja C_j1 C_j4)
  (Z:Exs K mg C_j8 C_j5 C_j6 C_j3 C_j2 C_j0)
  : FnOk P w K mg base CX0 1 f fd ["self","word"] (Jb C_j7):=by
 refine F.ok YV (fun vs H Q E h=>?_) (fun cdv A outer s H vs Q E hr h=>?_)
 ·obtain⟨p,d,t,L,wd,es,rfl,_⟩:=h;rfl
 ·obtain⟨p,d,t,L,wd,es,rfl,B,ht,kn,ks⟩:=h
  refine⟨_,(Ac (As (Ci_ (NT hr) (AQ (pvD 0) rfl) (pvD 1) ⟨by rfl,by rfl,by rfl,by rfl⟩))),?_⟩
  obtain⟨⟨dx,hp⟩,hd,nd⟩:=id B
  have ht1:H t=some (.tup ((wkey wd).map kV)):=by rw[EG];exact ht
  walk_at "rd"
  refine⟨_,_,_,hp,W.cl_j7,W.n_Book_marks,_,GU _ _,d,rfl,.inr ⟨_,.inl hd⟩,_,DGet.t hd ht1,?_⟩
  by_cases hm:wd∈es.map (·.1)
  ·obtain⟨e,he,rfl⟩:=List.mem_map.mp hm
   rw[I0 nd (show (e.1,e.2)∈es from he)]
   exact ks e.2 he
  ·rw[S7 hm]
   exact kn hm
noncomputable def G0 (H:Hp)(rs:List V)(es:List (List Int×Int)):Prop:=rs.length=es.length/\∀(i:Nat) (tr:List Int×Int),es[i]?=some tr->∃t b,rs[i]?=some (V.ref t)/\H t=some (.tup [.ref b,.int tr.2])/\H b=some (.tup (tr.1.map V.int))
theorem G0.mono    (h:G0 H rs es)(k:∀b xs,H b=some (.tup xs)->H' b=some (.tup xs)):G0 H' rs es:=⟨h.1,fun i tr hi=>by
 obtain⟨t,b,e1,e2,e3⟩:=h.2 i tr hi
 exact⟨t,b,e1,k _ _ e2,k _ _ e3⟩⟩
noncomputable def Kb (K:PySem.W.Frag)(C:Addr):Sp:=fun vs H Q _=>∃(p d:Addr) (L:Int) (es:List (List Int×Int)),vs=[.ref p]/\BookAt C H p d L es/\∀l rs H',Same H H'->H l=none->H' l=some (.lst rs)->G0 H' rs es->Q (.ref l) H'
theorem WW   (F:Fun K "heard" "Book.heard" D3 f fd)(T:Txt mg)
  (W:Own K mg C_j7 C_j9 C_jj C_ja C_j1 C_j4)
  (Z:Exs K mg C_j8 C_j5 C_j6 C_j3 C_j2 C_j0)
  : FnOk P w K mg base CX0 1 f fd ["self"] (Kb K C_j7):=by
 refine F.ok WJ (fun vs H Q E h=>?_) (fun cdv A outer s H vs Q E hr h=>?_)
 ·obtain⟨p,d,L,es,rfl,_⟩:=h;rfl
 ·obtain⟨p,d,L,es,rfl,B,k⟩:=h
  refine⟨_,(Ac (As (EF (S6 rfl) rfl T.list PyProof.Rows.boot_list (Aa (Gj_ (AQ (pvD 0) rfl)) Af)))),?_⟩
  obtain⟨⟨dx,hp⟩,hd,nd⟩:=id B
  walk_at "rd"
  refine⟨_,_,_,hp,W.cl_j7,W.n_Book_marks,_,GU _ _,d,rfl,_,.inl hd,fun v hv=>?_⟩
  have sv:=Same.new (o:=AS_ v d) hv
  refine⟨d,Ae,_,.inl (sv _ _ hd),fun l rs H2 s2 hl2 hlen hr=>?_⟩
  have s3:=sv.trans (s2.newT (o:=.lst rs) hl2)
  refine k l rs _ s3 (Same.none (sv.trans s2) hl2) Ae ⟨by rw[hlen];unfold ents;rw[List.length_map],fun i tr hi=>?_⟩
  obtain⟨t,e1,b,e2,e3⟩:=hr i (wkey tr.1) (.int tr.2) (by unfold ents;rw[List.getElem?_map,hi];rfl)
  rw[EG]at e3
  exact⟨t,b,e1,(Same.new hl2) _ _ e2,(s2.newT hl2) _ _ e3⟩
noncomputable def Tr (K:PySem.W.Frag):Sp:=fun vs H Q _=>∃(L:Nat) (a:Addr) (xs:List V) (acc:List (List Int)),vs=[.int L,.ref a]/\L<=6/\SqL K H a xs/\Au K H xs acc/\acc.length<=100/\(∀w∈acc,w.length<=100)/\∀l rs H',Same H H'->H l=none->H' l=some (.lst rs)->Au K H' rs (CN L acc)->Q (.ref l) H'
theorem Dk_   (F:Fun K "rows_of" "rows_of" Ho f fd)(T:Txt mg)
  (W:Own K mg C_j7 C_j9 C_jj C_ja C_j1 C_j4)
  (Z:Exs K mg C_j8 C_j5 C_j6 C_j3 C_j2 C_j0)
  : FnOk P w K mg base CX0 1 f fd ["letters","access"] (Tr K):=by
 refine F.ok JJ (fun vs H Q E h=>?_) (fun cdv A outer s H vs Q E hr h=>?_)
 ·obtain⟨L,a,xs,acc,rfl,_⟩:=h;rfl
 ·obtain⟨L,a,xs,acc,rfl,hL,ha,hw,hal,hwl,k⟩:=h
  have hl:=Ao
  refine⟨_,(Ad (Rl (i:=2) JJ.nd rfl (Or.inl rfl) MZ)
   (Ad (Hl PassesOwn.never rfl (Gq (pvD 1)) (B4 (i:=3) JJ.nd rfl (Or.inl rfl))
   (Ac (NU (NT hr) (pvD 2) (pvD 3) Jm rfl)))
   (Ad (Hl PassesOwn.never rfl (Gq (pvD 1)) (B4 (i:=3) JJ.nd rfl (Or.inl rfl))
   (Ac (Hl PassesOwn.never rfl (Li rfl T.range (Aa (pvD 0) Af)) (B4 (i:=4) JJ.nd rfl (Or.inl rfl))
   (Ac (NU (NT hr) (pvD 2) (Bu J7 (pvD 3) (GJ (Aa (pvD 4) Af))) Jm rfl)))))
   (Ac (As (EF (Iy rfl) rfl T.list PyProof.Rows.boot_list (Aa (pvD 2) Af))))))),?_⟩
  walk_at "rd"
  intro p hp
  have sp:=Same.new (o:=.dT []) hp
  refine⟨⟨_,sp.seq ha⟩,?_⟩
  obtain⟨Pv,hPv⟩:∃Pv:Nat->St->Hp->Prop,∀i σ' H',Pv i σ' H'↔(∃(kvs:List (List Key×V)) (o:Option V),Same H H'/\H' p=some (.dT kvs)/\HN ((acc.take i).foldl ins []) kvs/\σ'=[some (.int L),some (.ref a),some (.ref p),o,none]):=⟨_,fun _ _ _=>Iff.rfl⟩
  refine forL (xs:=xs) Pv ((hPv _ _ _).mpr ⟨[],none,sp,Ae,by rw[List.take_zero];exact HN.nil,rfl⟩) (fun i σ' H' _ h'=>by obtain⟨_,_,s',_⟩:=(hPv _ _ _).mp h';exact s'.seq ha) (fun i x σ' H' hx h'=>?_) (fun σ' H' h'=>?_)
  ·obtain⟨kvs,o,s',hd,hk,rfl⟩:=(hPv _ _ _).mp h'
   obtain⟨t,w,hwi,rfl,ht⟩:=hw.at hx
   have hlen:kvs.length<=100:=by
    have:=C6 (acc.take i) []
    rw[hk.len];simp at this ⊢;lia
   walk_at "rd"
   refine⟨_,DPut.t (k:=wkey w) hd (by rw[EG];exact s' _ _ ht) s!"",(hPv _ _ _).mpr ⟨_,_,s'.over hp,Ae,?_,rfl⟩⟩
   rw[List.take_add_one,hwi,Option.toList_some,List.foldl_append]
   exact hk.put w _
  ·obtain⟨kvs,o,s',hd,hk,rfl⟩:=(hPv _ _ _).mp h'
   rw[hw.1,List.take_length]at hk
   walk_at "rd"
   refine⟨⟨_,s'.seq ha⟩,?_⟩
   obtain⟨Pw,hPw⟩:∃Pv:Nat->St->Hp->Prop,∀i σ' H',Pv i σ' H'↔(∃(kvs:List (List Key×V)) (o o':Option V),Same H H'/\H' p=some (.dT kvs)/\HN (((acc.take i).flatMap (extW L)).foldl ins (acc.foldl ins [])) kvs/\σ'=[some (.int L),some (.ref a),some (.ref p),o,o']):=⟨_,fun _ _ _=>Iff.rfl⟩
   refine forL (xs:=xs) Pw ((hPw _ _ _).mpr ⟨kvs,_,_,s',hd,by rw[List.take_zero];exact hk,rfl⟩) (fun i σ' H' _ h'=>by obtain⟨_,_,_,s',_⟩:=(hPw _ _ _).mp h';exact s'.seq ha) (fun i x σ2 H2 hx h2=>?_) (fun σ2 H2 h2=>?_)
   ·obtain⟨kvs,o,o',s2,hd,hk,rfl⟩:=(hPw _ _ _).mp h2
    obtain⟨t,w,hwi,rfl,ht⟩:=hw.at hx
    have hwlen:=hwl w (List.mem_of_getElem? hwi)
    have ht2:=s2 _ _ ht
    walk_at "rd"
    refine⟨by lia,by lia,?_⟩
    rw[Int.toNat_natCast]
    obtain⟨Py,hPy⟩:∃Pv:Nat->St->Hp->Prop,∀j σ' H',Pv j σ' H'↔(∃(kvs:List (List Key×V)) (o':Option V),Same H H'/\H' p=some (.dT kvs)/\HN (((List.range j).map fun x:Nat=>w++[(x:Int)]).foldl ins (((acc.take i).flatMap (extW L)).foldl ins (acc.foldl ins []))) kvs/\σ'=[some (.int L),some (.ref a),some (.ref p),some (.ref t),o']):=⟨_,fun _ _ _=>Iff.rfl⟩
    refine forR Py ((hPy _ _ _).mpr ⟨kvs,_,s2,hd,hk,rfl⟩) (fun j σ3 H3 hj h3=>?_) (fun σ3 H3 h3=>?_)
    ·obtain⟨kvs,o',s3,hd,hk,rfl⟩:=(hPy _ _ _).mp h3
     have ej:(0:Int)+(j:Nat)=(j:Int):=by lia
     rw[ej]
     have ht3:=s3 _ _ ht
     have hlen:kvs.length<=10000:=by
      have h1:=C6 ((List.range j).map fun x:Nat=>w++[(x:Int)]) (((acc.take i).flatMap (extW L)).foldl ins (acc.foldl ins []))
      have h2:=C6 ((acc.take i).flatMap (extW L)) (acc.foldl ins [])
      have h3:=C6 acc []
      have h4:((acc.take i).flatMap (extW L)).length<=600:=by
       rw[List.length_flatMap]
       have:(acc.take i).map (fun a=>(extW L a).length)=(acc.take i).map (fun _=>L):=List.map_congr_left fun a _=>by simp[extW]
       rw[this,List.map_const',List.sum_replicate_nat]
       have:(acc.take i).length<=100:=by rw[List.length_take];lia
       exact Nat.le_trans (Nat.mul_le_mul this hL) s!""
      rw[hk.len]
      simp at h1 h3
      lia
     walk_at "rd"
     refine⟨by lia,fun p1 hp1=>?_⟩
     refine Kt.ofS (Same.new hp1 _ _ ht3) Ae (by simp;lia) fun q H4 s4 hq=>?_
     have s34:=(Same.new (o:=.tup [V.int (j:Int)]) hp1).trans s4
     have hq':H4 q=some (.tup ((wkey (w++[(j:Int)])).map kV)):=by rw[EG,hq];simp
     refine⟨_,DPut.t (k:=wkey (w++[(j:Int)])) (s34 _ _ hd) hq' s!"",(hPy _ _ _).mpr ⟨_,_,(s3.trans s34).over hp,Ae,?_,rfl⟩⟩
     rw[List.range_succ,List.map_append,List.foldl_append]
     exact hk.put _ _
    ·obtain⟨kvs,o',s3,hd,hk,rfl⟩:=(hPy _ _ _).mp h3
     refine (hPw _ _ _).mpr ⟨kvs,_,_,s3,hd,?_,rfl⟩
     rw[List.take_add_one,hwi,Option.toList_some,List.flatMap_append,List.foldl_append]
     simpa [extW] using hk
   ·obtain⟨kvs,o,o',s2,hd,hk,rfl⟩:=(hPw _ _ _).mp h2
    rw[hw.1,List.take_length]at hk
    walk_at "rd"
    refine⟨kvs,.inl hd,fun l rs hln hrl hrs=>?_⟩
    exact k l rs _ (s2.newT hln) (Same.none s2 hln) Ae ((hk.words (K:=K) hrl hrs).mono (TK.new hln))
noncomputable def Cu_ (K:PySem.W.Frag):Sp:=fun vs H Q _=>∃(L:Nat) (a e:Addr) (xs ys:List V) (acc ends:List (List Int)),vs=[.int L,.ref a,.ref e]/\L<=6/\SqL K H a xs/\Au K H xs acc/\acc.length<=100/\(∀w∈acc,w.length<=100)/\SqL K H e ys/\Au K H ys ends/\ends.length<=100/\(∀w∈ends,w.length<=500)/\∀l rs H',Same H H'->H l=none->H' l=some (.lst rs)->Au K H' rs (Kv (CN L acc) ends)->Q (.ref l) H'
theorem Ba_   (hL:L<=6)(hal:acc.length<=100)(hwl:∀w∈acc,w.length<=100):(CN L acc).length<=700/\∀w∈CN L acc,w.length<=101:=by
 have mem:∀(l s:List (List Int)) (w:List Int),w∈l.foldl ins s->w∈s\/w∈l:=by
  intro l
  induction l with
  |nil=>intro s w h;exact .inl h
  |cons v l ih=>
   intro s w h
   rw[List.foldl_cons]at h
   rcases ih _ _ h with h|h
   ·unfold ins at h
    split at h
    ·exact .inl h
    ·rcases List.mem_append.mp h with h|h
     ·exact .inl h
     ·rw[List.mem_singleton.mp h];exact .inr List.mem_cons_self
   ·exact .inr (List.mem_cons_of_mem _ h)
 refine⟨?_,fun w hw=>?_⟩
 ·have h2:=C6 (acc.flatMap (extW L)) (acc.foldl ins [])
  have h3:=C6 acc []
  have h4:(acc.flatMap (extW L)).length<=600:=by
   rw[List.length_flatMap]
   have:acc.map (fun a=>(extW L a).length)=acc.map (fun _=>L):=List.map_congr_left fun a _=>by simp[extW]
   rw[this,List.map_const',List.sum_replicate_nat]
   exact Nat.le_trans (Nat.mul_le_mul hal hL) s!""
  unfold CN
  simp at h3
  lia
 ·unfold CN at hw
  rcases mem _ _ _ hw with h|h
  ·rcases mem _ _ _ h with h|h
   ·simp at h
   ·have:=hwl w h;lia
  ·obtain⟨v,hv,h⟩:=List.mem_flatMap.mp h
   obtain⟨x,_,rfl⟩:=List.mem_map.mp h
   have:=hwl v hv
   simp;lia
theorem Gp_   (F:Fun K "cells" "cells" NV f fd)(T:Txt mg)
  (W:Own K mg C_j7 C_j9 C_jj C_ja C_j1 C_j4)
  (Z:Exs K mg C_j8 C_j5 C_j6 C_j3 C_j2 C_j0)
   (JQ:FnOk P w K mg base CX0 1 Gx JR ["letters","access"] (Tr K)) (Hs:Fun K "rows_of" "rows_of" Ho Gx JR) (JS:Ap K JR ["letters","access"] []) (JT:mg "rows_of"=some (.ref Gx))
  : FnOk P w K mg base CX0 2 f fd ["letters","access","ends"] (Cu_ K):=by
 refine F.ok SD (fun vs H Q E h=>?_) (fun cdv A outer s H vs Q E hr h=>?_)
 ·obtain⟨L,a,e,xs,ys,acc,ends,rfl,_⟩:=h;rfl
 ·obtain⟨L,a,e,xs,ys,acc,ends,rfl,hL,ha,hw,hal,hwl,he,hwe,hel,hewl,k⟩:=h
  have hl:=Ao
  obtain⟨hrl,hrw⟩:=Ba_ hL hal hwl
  refine⟨_,(Ad (Rl (i:=3) SD.nd rfl (Or.inl rfl) MZ)
   (Ad (Hl PassesOwn.never rfl (Gq (Aj JQ (hr.mono (by decide)) rfl JT Hs.kp JS .nil Ay (Aa (pvD 0) (Aa (pvD 1) Af)))) (B4 (i:=4) SD.nd rfl (Or.inl rfl))
   (Ac (Hl PassesOwn.never rfl (Gq (pvD 2)) (B4 (i:=5) SD.nd rfl (Or.inl rfl))
   (Ac (NU (NT hr) (pvD 3) (Bu J7 (pvD 4) (pvD 5)) Jm rfl)))))
   (Ac (As (EF (Iy rfl) rfl T.list PyProof.Rows.boot_list (Aa (pvD 3) Af)))))),?_⟩
  walk_at "rd"
  intro p hp
  have sp:=Same.new (o:=.dT []) hp
  refine⟨L,a,xs,acc,rfl,hL,sp.seq ha,hw.mono (TK.of sp),hal,hwl,fun r rs H1 s1 hrn hr hrs=>?_⟩
  generalize CN L acc=rows at hrl hrw hrs k
  have s01:=sp.trans s1
  have hrH:H r=none:=Same.none sp hrn
  have hp1:=s1 _ _ (Ae (H:=H) (a:=p) (o:=.dT []))
  walk_at "rd"
  refine⟨⟨_,SqL.of hr⟩,?_⟩
  have hpr:r≠p:=(AP_ hrn).2
  obtain⟨Pw,hPw⟩:∃Pv:Nat->St->Hp->Prop,∀i σ' H',Pv i σ' H'↔(∃(kvs:List (List Key×V)) (o o':Option V),Same H H'/\H' r=some (.lst rs)/\Au K H' rs rows/\H' p=some (.dT kvs)/\HN (((rows.take i).flatMap fun r=>ends.map (r ++ ·)).foldl ins []) kvs/\σ'=[some (.int L),some (.ref a),some (.ref e),some (.ref p),o,o']):=⟨_,fun _ _ _=>Iff.rfl⟩
  refine forL (xs:=rs) Pw ((hPw _ _ _).mpr ⟨[],_,_,s01,hr,hrs,hp1,by rw[List.take_zero];exact HN.nil,rfl⟩) (fun i σ' H' _ h'=>by obtain⟨_,_,_,_,q,_⟩:=(hPw _ _ _).mp h';exact SqL.of q) (fun i x σ2 H2 hx h2=>?_) (fun σ2 H2 h2=>?_)
  ·obtain⟨kvs,o,o',s2,hr2,hrs2,hd,hk,rfl⟩:=(hPw _ _ _).mp h2
   obtain⟨t,w,hwi,rfl,ht⟩:=hrs2.at hx
   have hwlen:=hrw w (List.mem_of_getElem? hwi)
   walk_at "rd"
   refine⟨⟨_,s2.seq he⟩,?_⟩
   obtain⟨Py,hPy⟩:∃Pv:Nat->St->Hp->Prop,∀j σ' H',Pv j σ' H'↔(∃(kvs:List (List Key×V)) (o':Option V),Same H H'/\H' r=some (.lst rs)/\Au K H' rs rows/\H' t=some (.tup (w.map V.int))/\H' p=some (.dT kvs)/\HN (((ends.take j).map (w ++ ·)).foldl ins (((rows.take i).flatMap fun r=>ends.map (r ++ ·)).foldl ins [])) kvs/\σ'=[some (.int L),some (.ref a),some (.ref e),some (.ref p),some (.ref t),o']):=⟨_,fun _ _ _=>Iff.rfl⟩
   refine forL (xs:=ys) Py ((hPy _ _ _).mpr ⟨kvs,_,s2,hr2,hrs2,ht,hd,by rw[List.take_zero];exact hk,rfl⟩) (fun j σ' H' _ h'=>by obtain⟨_,_,s',_⟩:=(hPy _ _ _).mp h';exact s'.seq he) (fun j y σ3 H3 hy h3=>?_) (fun σ3 H3 h3=>?_)
   ·obtain⟨kvs,o',s3,hr3,hrs3,ht3,hd,hk,rfl⟩:=(hPy _ _ _).mp h3
    obtain⟨u,v,hvi,rfl,hu⟩:=hwe.at hy
    have hvlen:=hewl v (List.mem_of_getElem? hvi)
    have hlen:kvs.length<=100000:=by
     have h1:=C6 ((ends.take j).map (w ++ ·)) (((rows.take i).flatMap fun r=>ends.map (r ++ ·)).foldl ins [])
     have h2:=C6 ((rows.take i).flatMap fun r=>ends.map (r ++ ·)) []
     have h4:((rows.take i).flatMap fun r=>ends.map (r ++ ·)).length<=70000:=by
      rw[List.length_flatMap]
      have:(rows.take i).map (fun a=>(ends.map (a ++ ·)).length)=(rows.take i).map (fun _=>ends.length):=List.map_congr_left fun a _=>by simp
      rw[this,List.map_const',List.sum_replicate_nat]
      have:(rows.take i).length<=700:=by rw[List.length_take];lia
      exact Nat.le_trans (Nat.mul_le_mul this hel) s!""
     rw[hk.len]
     rw[List.length_map,List.length_take]at h1
     rw[List.length_nil,Nat.zero_add]at h2
     lia
    walk_at "rd"
    refine Kt.ofS ht3 (s3 _ _ hu) (by simp;lia) fun q H4 s4 hq=>?_
    have hq':H4 q=some (.tup ((wkey (w++v)).map kV)):=by rw[EG,hq];simp
    have hd4:=s4 _ _ hd
    have kD:TK H4 (upd H4 p (.dT (putK kvs (wkey (w++v)) (V.bl true)))):=TK.dT hd4
    refine⟨_,DPut.t (k:=wkey (w++v)) hd4 hq' s!"",(hPy _ _ _).mpr ⟨_,_,(s3.trans s4).over hp,by rw[Ah hpr];exact s4 _ _ hr3,(hrs3.mono (TK.of s4)).mono kD,kD _ _ (s4 _ _ ht3),Ae,?_,rfl⟩⟩
    rw[List.take_add_one,hvi,Option.toList_some,List.map_append,List.foldl_append]
    exact hk.put _ _
   ·obtain⟨kvs,o',s3,hr3,hrs3,ht3,hd,hk,rfl⟩:=(hPy _ _ _).mp h3
    rw[hwe.1,List.take_length]at hk
    refine (hPw _ _ _).mpr ⟨kvs,_,_,s3,hr3,hrs3,hd,?_,rfl⟩
    rw[List.take_add_one,hwi,Option.toList_some,List.flatMap_append,List.foldl_append]
    simpa using hk
  ·obtain⟨kvs,o,o',s2,hr2,hrs2,hd,hk,rfl⟩:=(hPw _ _ _).mp h2
   rw[hrs.1,List.take_length]at hk
   walk_at "rd"
   refine⟨kvs,.inl hd,fun l rs' hln hrl' hrs'=>?_⟩
   exact k l rs' _ (s2.newT hln) (Same.none s2 hln) Ae ((hk.words (K:=K) hrl' hrs').mono (TK.new hln))
noncomputable def mkO (es:List (List Int×Int))(w:List Int):Option Int:=(es.find? fun e=>decide (e.1=w)).map (·.2)
noncomputable def oV:Option Int->V
 |some m=>.int m
 |none=>.non
theorem M4:∀{es:List (List Int×Int)} {w:List Int} {m:Int},(es.map (·.1)).Nodup->(w,m)∈es->mkO es w=some m
 |[],_,_,_,h=>by cases h
 |e::es,w,m,nd,h=>by
  rw[List.map_cons,List.nodup_cons]at nd
  unfold mkO
  rw[List.find?_cons]
  rcases List.mem_cons.mp h with h|h
  ·subst h
   simp
  ·have hne:e.1≠w:=fun z=>nd.1 (by rw[z];exact List.mem_map_of_mem (f:=(·.1)) h)
   rw[decide_eq_false hne]
   exact M4 nd.2 h
theorem SE {es:List (List Int×Int)}{w:List Int}(h:w∉es.map (·.1)):mkO es w=none:=by
 unfold mkO
 rw[List.find?_eq_none.mpr fun e he z=>h (by have:=of_decide_eq_true z;rw[<-this];exact List.mem_map_of_mem (f:=(·.1)) he)]
 rfl
noncomputable def Wc (K:PySem.W.Frag)(C:Addr):Sp:=fun vs H Q _=>∃(p d t a:Addr) (L:Int) (w:List Int) (es:List (List Int×Int)) (xs:List V) (ends:List (List Int)),vs=[.ref p,.ref t,.ref a]/\BookAt C H p d L es/\H t=some (.tup (w.map V.int))/\w.length<=100/\SqL K H a xs/\Au K H xs ends/\ends.length<=100/\(∀e∈ends,e.length<=500)/\∀l H',Same H H'->H' l=some (.lst (ends.map fun e=>oV (mkO es (w++e))))->Q (.ref l) H'
theorem Bb_   (F:Fun K "marks_of" "marks_of" GX f fd)(T:Txt mg)
  (W:Own K mg C_j7 C_j9 C_jj C_ja C_j1 C_j4)
  (Z:Exs K mg C_j8 C_j5 C_j6 C_j3 C_j2 C_j0)
   (Ek:FnOk P w K mg base CX0 1 B8 D6 ["self","word"] (Jb C_j7)) (EU:Fun K "told" "Book.told" Ef B8 D6) (El:Ap K D6 ["self","word"] []) (Em:Meth K C_j7 "told" B8)
  : FnOk P w K mg base CX0 2 f fd ["book","word","ends"] (Wc K C_j7):=by
 refine F.ok AX_ (fun vs H Q E h=>?_) (fun cdv A outer s H vs Q E hr h=>?_)
 ·obtain⟨p,d,t,a,L,wd,es,xs,ends,rfl,_⟩:=h;rfl
 ·obtain⟨p,d,t,a,L,wd,es,xs,ends,rfl,B,ht,hwl,ha,hE,hel,hew,k⟩:=h
  have hl:=Ao
  refine⟨_,(Ac (As (Ln rfl (OD rfl) (cp:=Rr) ⟨⟨rfl,rfl⟩,⟨⟨rfl,rfl⟩,True.intro⟩⟩ (Gq (pvD 2)) (fun _ _ _ _=>(B4 (i:=0) Tf rfl (Or.inl rfl))) (fun _ _ _ _=>OC) (fun _ _ _ _=>(DF (pvD 1) W.cl_j7 Em Ek (hr.mono (by decide)) El .nil Ay (Aa (Bu (YT (K:=K) rfl) (pvD 2) (pvD 0)) Af)))))),?_⟩
  walk_at "rd"
  obtain⟨⟨dx,hp⟩,hd,nd⟩:=id B
  refine⟨⟨_,ha⟩,FZ_ (xs:=xs) (fun i ys σ' H'=>Same H H'/\ys=(ends.take i).map (fun e=>oV (mkO es (wd++e)))/\∃o,σ'=[o,some (.ref p),some (.ref t)]) ⟨Same.refl _,rfl,none,rfl⟩ (by rw[hE.1];lia) (fun i ys σ' H' hi h'=>⟨h'.1.seq ha,by rw[h'.2.1,List.length_map,List.length_take];lia⟩) (fun i x ys σ' H' hx h'=>?_) (fun ys σ' H' h' D hD=>?_)⟩
  ·obtain⟨s1,rfl,o,rfl⟩:=h'
   obtain⟨te,e,hei,rfl,hte⟩:=hE.at hx
   have hel':=hew e (List.mem_of_getElem? hei)
   have et:ends.take (i+1)=ends.take i++[e]:=by rw[List.take_add_one,hei];rfl
   walk_at "rd"
   refine⟨_,_,s1 _ _ hp,He _ _ (by decide +kernel) (by decide +kernel),Kt.ofS (s1 _ _ ht) (s1 _ _ hte) (by simp;lia) fun q H2 s2 hq=>?_⟩
   have s12:=s1.trans s2
   refine⟨p,d,q,L,wd++e,es,rfl,B.mono s12,by rw[List.map_append];exact hq,fun hm=>⟨s12,?_,_,rfl⟩,fun m hm=>⟨s12,?_,_,rfl⟩⟩
   ·rw[et,List.map_append,List.map_singleton,SE hm];rfl
   ·rw[et,List.map_append,List.map_singleton,M4 nd hm];rfl
  ·obtain⟨s1,rfl,o,rfl⟩:=h'
   rw[hE.1,List.take_length]
   exact k D _ (s1.newT hD) Ae
noncomputable def HU (H:Hp)(f:List Int->List V)(ks:List (List Int))(kvs:List (List Key×V)):Prop:=kvs.length=ks.length/\∀(i:Nat) (w:List Int),ks[i]?=some w->∃t,kvs[i]?=some (wkey w,.ref t)/\H t=some (.tup (f w))
theorem HU.nil   : HU H f [] []:=⟨rfl,fun i w h=>by simp at h⟩
theorem HU.mono     (h:HU H f ks kvs)(s:∀t ys,H t=some (.tup ys)->H' t=some (.tup ys)):HU H' f ks kvs:=⟨h.1,fun i w hi=>by
 obtain⟨t,a,b⟩:=h.2 i w hi
 exact⟨t,a,s _ _ b⟩⟩
theorem HU.snoc {H:Hp}{f:List Int->List V}{ks:List (List Int)}{kvs:List (List Key×V)}{w:List Int}{t:Addr}(h:HU H f ks kvs)(ht:H t=some (.tup (f w))):HU H f (ks++[w]) (kvs++[(wkey w,.ref t)]):=by
 refine⟨by simp[h.1],fun i r hi=>?_⟩
 by_cases hl:i<ks.length
 ·rw[List.getElem?_append_left hl]at hi
  rw[List.getElem?_append_left (by rw[h.1];exact hl)]
  exact h.2 i r hi
 ·have:=(List.getElem?_eq_some_iff.mp hi).1
  rw[List.length_append,List.length_singleton]at this
  have e:i=ks.length:=by lia
  subst e
  rw[List.getElem?_append_right (Nat.le_refl _),Nat.sub_self]at hi
  simp at hi
  subst hi
  exact⟨t,by rw[<-h.1];simp,ht⟩
theorem HU.keys     (h:HU H f ks kvs):HN ks kvs:=by
 refine List.ext_getElem? fun i=>?_
 rw[List.getElem?_map,List.getElem?_map]
 cases e:ks[i]? with
 |none=>
  have:kvs[i]?=none:=List.getElem?_eq_none (by rw[h.1];exact List.getElem?_eq_none_iff.mp e)
  rw[this];rfl
 |some w=>
  obtain⟨t,a,_⟩:=h.2 i w e
  rw[a];rfl
theorem Fk_ {s:List (List Int)}{w:List Int}(h:s.Nodup):(ins s w).Nodup:=by
 unfold ins
 split
 ·exact h
 ·rename_i hw
  rw[List.nodup_append]
  refine⟨h,by simp,fun a ha b hb z=>?_⟩
  rw[List.mem_singleton.mp hb]at z
  exact hw (z ▸ ha)
theorem Jc:∀{l s:List (List Int)},s.Nodup->(l.foldl ins s).Nodup
 |[],_,h=>h
 |w::l,s,h=>by rw[List.foldl_cons];exact Jc (Fk_ h)
theorem Bc_ (n:Nat)(acc:List (List Int)):(CN n acc).Nodup:=Jc (Jc List.nodup_nil)
theorem Fl_ (n:Nat):∀(acc:List (List Int)),(acc.flatMap (extW n)).length<=acc.length*n
 |[]=>by simp
 |w::acc=>by
  rw[List.flatMap_cons,List.length_append,List.length_cons,Nat.succ_mul]
  have h1:=Fl_ n acc
  have h2:(extW n w).length=n:=by unfold extW;simp
  lia
theorem Y5 (n:Nat)(acc:List (List Int)):(CN n acc).length<=acc.length+acc.length*n:=by
 unfold CN
 have h1:=C6 (acc.flatMap (extW n)) (acc.foldl ins [])
 have h2:=C6 acc []
 have h3:=Fl_ n acc
 simp at h2
 lia
theorem Gq_ {s:List (List Int)}{w:List Int}{m:Nat}(h:∀v∈s,v.length<=m)(hw:w.length<=m):∀v∈ins s w,v.length<=m:=fun v hv=>by
 unfold ins at hv
 split at hv
 ·exact h v hv
 ·rcases List.mem_append.mp hv with hv|hv
  ·exact h v hv
  ·rw[List.mem_singleton.mp hv];exact hw
theorem NY {m:Nat}:∀{l s:List (List Int)},(∀v∈s,v.length<=m)->(∀v∈l,v.length<=m)->∀v∈l.foldl ins s,v.length<=m
 |[],_,h,_=>h
 |w::l,s,h,hl=>by rw[List.foldl_cons];exact NY (Gq_ h (hl w (by simp))) (fun v hv=>hl v (by simp[hv]))
theorem Dl_   (h:∀w∈acc,w.length<=m):∀w∈CN n acc,w.length<=m+1:=by
 unfold CN
 refine NY (NY (by simp) fun v hv=>by have:=h v hv;lia) fun v hv=>?_
 obtain⟨u,hu,hv⟩:=List.mem_flatMap.mp hv
 unfold extW at hv
 obtain⟨x,_,rfl⟩:=List.mem_map.mp hv
 have:=h u hu
 rw[List.length_append,List.length_singleton]
 lia
noncomputable def Fm_ (K:PySem.W.Frag)(C:Addr):Sp:=fun vs H Q _=>∃(p d a b:Addr) (L:Int) (N:Nat) (es:List (List Int×Int)) (xs ys:List V) (acc ends:List (List Int)),vs=[.ref p,.int N,.ref a,.ref b]/\BookAt C H p d L es/\N<=6/\SqL K H a xs/\Au K H xs acc/\acc.length<=64/\(∀w∈acc,w.length<=64)/\SqL K H b ys/\Au K H ys ends/\ends.length<=50/\(∀e∈ends,e.length<=500)/\∀l kvs H',Same H H'->H l=none->H' l=some (.dT kvs)->HU H' (fun w=>ends.map fun e=>oV (mkO es (w++e))) (CN N acc) kvs->Q (.ref l) H'
theorem Ts   (F:Fun K "marks_by_row" "marks_by_row" CG f fd)(T:Txt mg)
  (W:Own K mg C_j7 C_j9 C_jj C_ja C_j1 C_j4)
  (Z:Exs K mg C_j8 C_j5 C_j6 C_j3 C_j2 C_j0)
   (JQ:FnOk P w K mg base CX0 1 Gx JR ["letters","access"] (Tr K)) (Hs:Fun K "rows_of" "rows_of" Ho Gx JR) (JS:Ap K JR ["letters","access"] []) (JT:mg "rows_of"=some (.ref Gx))
   (Qc:FnOk P w K mg base CX0 2 Ik Tt ["book","word","ends"] (Wc K C_j7)) (JU:Fun K "marks_of" "marks_of" GX Ik Tt) (Qd:Ap K Tt ["book","word","ends"] []) (Qe:mg "marks_of"=some (.ref Ik))
  : FnOk P w K mg base CX0 3 f fd ["book","letters","access","ends"] (Fm_ K C_j7):=by
 refine F.ok IC (fun vs H Q E h=>?_) (fun cdv A outer s H vs Q E hr h=>?_)
 ·obtain⟨p,d,a,b,L,N,es,xs,ys,acc,ends,rfl,_⟩:=h;rfl
 ·obtain⟨p,d,a,b,L,N,es,xs,ys,acc,ends,rfl,B,hN,ha,hA,hal,haw,hb,hE,hel,hew,k⟩:=h
  have hl:=Ao
  refine⟨_,(Ad (Rl (i:=4) IC.nd rfl (Or.inl rfl) MZ)
   (Ad (Hl PassesOwn.never rfl (Gq (Aj JQ (hr.mono (by decide)) rfl JT Hs.kp JS .nil Ay (Aa (pvD 1) (Aa (pvD 2) Af)))) (B4 (i:=5) IC.nd rfl (Or.inl rfl))
   (Ac (NU (NT hr) (pvD 4) (pvD 5) (EF Hn rfl T.tuple PyProof.Rows.boot_tuple (Aa (Aj Qc (hr.mono (by decide)) rfl Qe JU.kp Qd .nil Ay (Aa (pvD 0) (Aa (pvD 5) (Aa (pvD 3) Af)))) Af)) rfl)))
   (Ac (As (pvD 4))))),?_⟩
  walk_at "rd"
  intro m hm
  have s0:=Same.new hm (o:=.dT [])
  refine⟨N,a,xs,acc,rfl,hN,s0.seq ha,hA.mono (fun _ _ z=>s0 _ _ z),by lia,fun w hw=>by have:=haw w hw;lia,fun r rs H1 s1 hr0 hr1 hW=>⟨r,rfl,⟨_,SqL.of hr1⟩,?_⟩⟩
  have hm1:=s1 _ _ (show upd H m (.dT []) m=some (.dT []) from Ae)
  have s01:=s0.trans s1
  have hrlen:=Y5 N acc
  have hrw:=Dl_ (n:=N) haw
  have hnd:=Bc_ N acc
  have hrl:(CN N acc).length<=500:=by
   have:acc.length*N<=64*6:=Nat.mul_le_mul hal hN
   lia
  have kk:=k
  generalize CN N acc=rw' at hW hrl hrw hnd kk
  clear k hrlen
  obtain⟨Pv,hPv⟩:∃Pv:Nat->St->Hp->Prop,∀i σ' H',Pv i σ' H'↔(∃(kvs:List (List Key×V)) (o:Option V),Same H H'/\H' r=some (.lst rs)/\TK H1 H'/\H' m=some (.dT kvs)/\HU H' (fun w=>ends.map fun e=>oV (mkO es (w++e))) (rw'.take i) kvs/\σ'=[some (.ref p),some (.int N),some (.ref a),some (.ref b),some (.ref m),o]):=⟨_,fun _ _ _=>Iff.rfl⟩
  refine forL (xs:=rs) Pv ((hPv _ _ _).mpr ⟨[],none,s01,hr1,TK.refl _,hm1,by rw[List.take_zero];exact HU.nil,rfl⟩) (fun i σ' H' _ h'=>by obtain⟨_,_,_,h2,_⟩:=(hPv _ _ _).mp h';exact SqL.of h2) (fun i x σ' H' hx h'=>?_) (fun σ' H' h'=>?_)
  ·obtain⟨kvs,o,s',hr',tk,hm',hM,rfl⟩:=(hPv _ _ _).mp h'
   obtain⟨t,w,hwi,rfl,ht⟩:=hW.at hx
   have hi:=(List.getElem?_eq_some_iff.mp hwi).1
   have hwl:=hrw w (List.mem_of_getElem? hwi)
   have et:rw'.take (i+1)=rw'.take i++[w]:=by rw[List.take_add_one,hwi];rfl
   have hno:w∉rw'.take i:=fun z=>by
    obtain⟨j,hj,ej⟩:=List.getElem_of_mem z
    rw[List.length_take]at hj
    rw[List.getElem_take]at ej
    have:=(List.getElem_inj (h₀:=(show j<rw'.length by lia)) (h₁:=hi) hnd).mp (by rw[ej];exact ((List.getElem?_eq_some_iff.mp hwi).2).symm)
    lia
   have hv:valV kvs (wkey w)=none:=by
    have:=hM.keys.some_iff w
    rw[decide_eq_false hno]at this
    cases e:valV kvs (wkey w) with
    |none=>rfl
    |some v=>rw[e]at this;cases this
   have hkl:kvs.length<=500:=by rw[hM.1,List.length_take];lia
   walk_at "rd"
   refine⟨p,d,t,b,L,w,es,ys,ends,rfl,B.mono s',tk _ _ ht,by lia,s'.seq hb,hE.mono (fun _ _ z=>s' _ _ z),by lia,fun e he=>by have:=hew e he;lia,fun l H2 s2 hl2=>⟨l,rfl,_,.inl ⟨SqL.of hl2,fun t2 ht2=>?_⟩⟩⟩
   have s3:=s2.newT ht2 (o:=.tup (ends.map fun e=>oV (mkO es (w++e))))
   refine⟨_,DPut.t (k:=wkey w) (s3 _ _ hm') (by rw[EG];exact s3 _ _ (tk _ _ ht)) s!"",(hPv _ _ _).mpr ⟨_,_,(s'.trans s3).over hm,?_,fun c zs z=>?_,Ae,?_,rfl⟩⟩
   ·rw[Ah (fun z=>by rw[z,hm']at hr';cases hr')];exact s3 _ _ hr'
   ·rw[Ah (fun e=>by have:=tk _ _ z;rw[e,hm']at this;cases this)];exact s3 _ _ (tk _ _ z)
   ·rw[FT_ _ hv,et]
    exact ((hM.mono fun c zs z=>s3 _ _ z).snoc (t:=t2) Ae).mono fun c zs z=>by
     rw[Ah (fun e=>by rw[e,s3 _ _ hm']at z;cases z)];exact z
  ·obtain⟨kvs,o,s',hr',tk,hm',hM,rfl⟩:=(hPv _ _ _).mp h'
   rw[hW.1,List.take_length]at hM
   walk_at "rd"
   exact kk m kvs _ s' hm hm' hM
theorem HU.get {H:Hp}{f:List Int->List V}{ks:List (List Int)}{kvs:List (List Key×V)}(h:HU H f ks kvs){w:List Int}(hw:w∈ks):∃t,valV kvs (wkey w)=some (.ref t)/\H t=some (.tup (f w)):=by
 have hs:=h.keys.some_iff w
 rw[decide_eq_true hw]at hs
 unfold valV at hs ⊢
 cases e:kvs.find? (fun kv=>decide (kv.1=wkey w)) with
 |none=>rw[e]at hs;cases hs
 |some kv=>
  have h1:kv.1=wkey w:=by have:=List.find?_some e;simpa using this
  obtain⟨i,hi,ei⟩:=List.getElem_of_mem (List.mem_of_find?_eq_some e)
  have hi':i<ks.length:=by rw[<-h.1];exact hi
  obtain⟨t,a,b⟩:=h.2 i ks[i] (by simp[hi'])
  rw[List.getElem?_eq_getElem hi,ei]at a
  have ea:=Option.some.inj a
  rw[ea]at h1
  have:ks[i]=w:=Sy h1
  rw[this]at b
  exact⟨t,by rw[ea];rfl,b⟩
theorem Gr_ {s:List (List Int)}{w v:List Int}:v∈ins s w↔v∈s\/v=w:=by
 unfold ins
 split
 ·rename_i h
  exact⟨.inl,fun z=>z.elim id fun e=>e ▸ h⟩
 ·simp
theorem Kc:∀{l s:List (List Int)} {v:List Int},v∈l.foldl ins s↔v∈s\/v∈l
 |[],s,v=>by simp
 |w::l,s,v=>by
  rw[List.foldl_cons,Kc,Gr_,List.mem_cons,or_assoc]
theorem Kd {n:Nat}{acc:List (List Int)}{w:List Int}(h:w∈acc):w∈CN n acc:=by
 unfold CN
 exact Kc.mpr (.inl (Kc.mpr (.inr h)))
noncomputable def We (K:PySem.W.Frag)(C:Addr):Sp:=fun vs H Q _=>∃(p d a b:Addr) (L:Int) (N:Nat) (es:List (List Int×Int)) (xs ys:List V) (acc ends:List (List Int)) (g:List Int->List Int),vs=[.ref p,.int N,.ref a,.ref b]/\BookAt C H p d L es/\N<=6/\SqL K H a xs/\Au K H xs acc/\acc.length<=64/\(∀w∈acc,w.length<=64)/\SqL K H b ys/\Au K H ys ends/\ends.length<=50/\(∀e∈ends,e.length<=500)/\(∀w∈CN N acc,(ends.map fun e=>oV (mkO es (w++e)))=(g w).map V.int)/\(∀w t H',(CN N acc).find? (fun w=>decide (g w∉acc.map g))=some w->Same H H'->H' t=some (.tup (w.map V.int))->Q (.ref t) H')/\∀H',(CN N acc).find? (fun w=>decide (g w∉acc.map g))=none->Same H H'->Q .non H'
theorem Bd_   (F:Fun K "stranger" "stranger" GY f fd)(T:Txt mg)
  (W:Own K mg C_j7 C_j9 C_jj C_ja C_j1 C_j4)
  (Z:Exs K mg C_j8 C_j5 C_j6 C_j3 C_j2 C_j0)
   (Eu:FnOk P w K mg base CX0 3 Cn EV ["book","letters","access","ends"] (Fm_ K C_j7)) (CI:Fun K "marks_by_row" "marks_by_row" CG Cn EV) (Ew:Ap K EV ["book","letters","access","ends"] []) (Ex:mg "marks_by_row"=some (.ref Cn))
  : FnOk P w K mg base CX0 4 f fd ["book","letters","access","ends"] (We K C_j7):=by
 refine F.ok J9 (fun vs H Q E h=>?_) (fun cdv A outer s H vs Q E hr h=>?_)
 ·obtain⟨p,d,a,b,L,N,es,xs,ys,acc,ends,g,rfl,_⟩:=h;rfl
 ·obtain⟨p,d,a,b,L,N,es,xs,ys,acc,ends,g,rfl,B,hN,ha,hA,hal,haw,hb,hE,hel,hew,hg,k,kn⟩:=h
  have hl:=Ao
  refine⟨_,(Ad (Rl (i:=4) J9.nd rfl (Or.inr rfl) (Aj Eu (hr.mono (by decide)) rfl Ex CI.kp Ew .nil Ay (Aa (pvD 0) (Aa (pvD 1) (Aa (pvD 2) (Aa (pvD 3) Af))))))
   (Ad (In_ (i:=5) J9.nd rfl rfl rfl (OD rfl) (cp:=Rt) ⟨⟨rfl,rfl⟩,True.intro⟩ (Gq (pvD 2)) (fun _ _ _ _=>(B4 (i:=0) Tg rfl (Or.inl rfl))) (fun _ _ _ _=>OC) (fun _ _ _ _=>(SW (NT hr) (pvD 1) (pvD 0) (fun _ _=>rfl))))
   (Ad (Hl PassesOwn.never rfl (Gg_ (pvD 4)) (B4 (i:=6) J9.nd rfl (Or.inl rfl))
   (Ac (Cv (ptT (Az (EM_ (hu9 hr)) (SW (NT hr) (pvD 4) (pvD 6) (fun _ _=>rfl)) (pvD 5) rfl))
   (Ac (As (pvD 6)))
   AR)))
   (Ac (As F3))))),?_⟩
  walk_at "rd"
  refine⟨p,d,a,b,L,N,es,xs,ys,acc,ends,rfl,B,hN,ha,hA,hal,haw,hb,hE,hel,hew,fun m kvs H1 s1 hm0 hm hM=>?_⟩
  walk_at "rd"
  have kk:=k
  have kkn:=kn
  have hin:∀w∈acc,w∈CN N acc:=fun w h=>Kd h
  generalize CN N acc=rw' at hM hg kk kkn hin
  clear k kn
  have ha1:=s1.seq ha
  have hA1:Au K H1 xs acc:=hA.mono (TK.of s1)
  refine⟨⟨_,ha1⟩,FZ_ (xs:=xs) (fun i ys σ' H'=>H'=H1/\Au K H1 ys ((acc.take i).map g)/\∃o,σ'=[o,some (.ref m)]) ⟨rfl,Au.nil,none,rfl⟩ (by rw[hA.1];lia) (fun i ys σ' H' hi h'=>⟨by rw[h'.1];exact ha1,by rw[h'.2.1.1,List.length_map,List.length_take];lia⟩) (fun i x ys σ' H' hx h'=>?_) (fun ys σ' H' h' D hD=>?_)⟩
  ·obtain⟨rfl,hY,o,rfl⟩:=h'
   obtain⟨t,w,hwi,rfl,ht⟩:=hA1.at hx
   have hwm:=List.mem_of_getElem? hwi
   obtain⟨u,hu1,hu2⟩:=hM.get (hin w hwm)
   have et:acc.take (i+1)=acc.take i++[w]:=by rw[List.take_add_one,hwi];rfl
   rw[hg w (hin w hwm)]at hu2
   walk_at "rd"
   have hdg:DGet H' m (.ref t) (some (.ref u)):=by rw[<-hu1];exact DGet.t (k:=wkey w) hm (by rw[EG];exact ht)
   refine⟨_,hdg,?_,_,rfl⟩
   rw[et,List.map_append]
   exact hY.snoc hu2
  ·obtain⟨rfl,hY,o,rfl⟩:=h'
   rw[hA.1,List.take_length]at hY
   have sD:=Same.new hD (o:=.lst ys)
   have hm2:=sD _ _ hm
   refine⟨kvs,hm2,fun oo=>?_⟩
   have hDm:D≠m:=fun z=>by rw[z,hm]at hD;cases hD
   obtain⟨HF,hHF⟩:∃HF:Hp,HF=upd (upd H' D (.lst ys)) m (.frz oo (.dT kvs)):=⟨_,rfl⟩
   rw[<-hHF]
   have hmF:HF m=some (.frz oo (.dT kvs)):=by rw[hHF];exact Ae
   have tkF:TK H' HF:=fun c zs z=>by rw[hHF,Ah (fun e=>by rw[e,hm]at z;cases z)];exact sD _ _ z
   have hDF:HF D=some (.lst ys):=by rw[hHF,Ah hDm];exact Ae
   have sF:Same H HF:=by rw[hHF];exact (s1.trans sD).over hm0
   obtain⟨Pv,hPv⟩:∃Pv:Nat->St->Hp->Prop,∀i σ' H',Pv i σ' H'↔(H'=HF/\(∀w∈rw'.take i,g w∈acc.map g)/\∃o,σ'=[some (.ref p),some (.int N),some (.ref a),some (.ref b),some (.ref m),some (.ref D),o]):=⟨_,fun _ _ _=>Iff.rfl⟩
   refine forD Pv ((hPv _ _ _).mpr ⟨rfl,(fun w hw=>by rw[List.take_zero]at hw;cases hw),none,rfl⟩) (fun i σ2 H2 _ h2=>by rw[((hPv _ _ _).mp h2).1];exact hmF) (fun i k0 v0 bb σ2 H2 hkv h2 hbb=>?_) (fun σ2 H2 h2=>?_)
   ·obtain⟨rfl,hall,o2,rfl⟩:=(hPv _ _ _).mp h2
    have hi:i<rw'.length:=by rw[<-hM.1];exact (List.getElem?_eq_some_iff.mp hkv).1
    have hwi:rw'[i]?=some rw'[i]:=by simp[hi]
    obtain⟨t,e1,e2⟩:=hM.2 i _ hwi
    have hwm:=List.mem_of_getElem? hwi
    rw[hkv]at e1
    cases e1
    replace e2:H' t=some (.tup ((g rw'[i]).map V.int)):=by rw[<-hg _ hwm];exact e2
    rw[EG]at hbb
    have et:rw'.take (i+1)=rw'.take i++[rw'[i]]:=by rw[List.take_add_one,hwi];rfl
    walk_at "rd"
    obtain⟨t',hv1,hv2⟩:=hM.get hwm
    replace hv2:H' t'=some (.tup ((g rw'[i]).map V.int)):=by rw[<-hg _ hwm];exact hv2
    refine⟨V.ref t',.inr ⟨kvs,wkey rw'[i],bb,.inr ⟨oo,hmF⟩,rfl,by rw[EG];exact hbb,hv1.symm⟩,t',rfl,_,SqL.of hDF,g rw'[i],acc.map g,hY.mono tkF,SqT.of (tkF _ _ hv2),?_⟩
    by_cases hmem:g rw'[i]∈acc.map g
    ·rw[if_neg (by rw[decide_eq_true hmem];decide)]
     refine (hPv _ _ _).mpr ⟨rfl,fun w hw=>?_,_,rfl⟩
     rw[et]at hw
     rcases List.mem_append.mp hw with hw|hw
     ·exact hall w hw
     ·rw[List.mem_singleton.mp hw];exact hmem
    ·rw[if_pos (by rw[decide_eq_false hmem];rfl)]
     refine kk rw'[i] bb _ (List.find?_eq_some_iff_getElem.mpr ⟨decide_eq_true hmem,i,hi,rfl,fun j hj=>?_⟩) sF hbb
     have:=hall rw'[j] (List.mem_iff_getElem?.mpr ⟨j,by rw[List.getElem?_take,if_pos hj];simp[show j<rw'.length by lia]⟩)
     rw[decide_eq_false (not_not_intro this)]
     rfl
   ·obtain⟨rfl,hall,o2,rfl⟩:=(hPv _ _ _).mp h2
    rw[hM.1,List.take_length]at hall
    walk_at "rd"
    refine kkn _ (List.find?_eq_none.mpr fun w hw=>?_) sF
    simp[hall w hw]
noncomputable def eI (g:List Int->List Int)(acc:List (List Int))(i:Nat):List (List Int×Int):=(List.range i).map fun j=>(g (acc.getD j []),(j:Int))
theorem IL_ (g:List Int->List Int)(acc:List (List Int))(i:Nat):eI g acc (i+1)=eI g acc i++[(g (acc.getD i []),(i:Int))]:=by unfold eI;rw[List.range_succ,List.map_append];rfl
theorem Fn_ (g:List Int->List Int)(acc:List (List Int))  (hi:i<=acc.length):(eI g acc i).map (·.1)=(acc.map g).take i:=by
 refine List.ext_getElem? fun j=>?_
 unfold eI
 rw[List.map_map,List.getElem?_map,List.getElem?_take,List.getElem?_map]
 by_cases hj:j<i
 ·rw[if_pos hj,List.getElem?_range hj]
  have hj':j<acc.length:=by lia
  simp[List.getD_eq_getElem?_getD,hj']
 ·rw[if_neg hj,List.getElem?_eq_none (by simp;lia)];rfl
theorem Kp_    (hx:x∈acc.map g):(x,(((acc.map g).idxOf x:Nat):Int))∈eI g acc acc.length:=by
 unfold eI
 have hlt:(acc.map g).idxOf x<(acc.map g).length:=List.idxOf_lt_length_of_mem hx
 rw[List.length_map]at hlt
 refine List.mem_map.mpr ⟨(acc.map g).idxOf x,List.mem_range.mpr hlt,?_⟩
 have h1:(acc.map g)[(acc.map g).idxOf x]'(by rw[List.length_map];exact hlt)=x:=List.getElem_idxOf _
 rw[List.getElem_map]at h1
 rw[List.getD_eq_getElem?_getD,List.getElem?_eq_getElem hlt]
 show (g _,_)=_
 rw[Option.getD_some,h1]
theorem Be_ {n:Nat}{acc:List (List Int)}{w:List Int}{x:Nat}(h:w∈acc)(hx:x<n):w++[(x:Int)]∈CN n acc:=by
 unfold CN
 refine Kc.mpr (.inr (List.mem_flatMap.mpr ⟨w,h,?_⟩))
 unfold extW
 exact List.mem_map.mpr ⟨x,List.mem_range.mpr hx,rfl⟩
theorem Y6 {l:List (List Int)}{i:Nat}(hi:i<l.length)(nd:l.Nodup):l[i]∉l.take i:=fun z=>by
 obtain⟨j,hj,ej⟩:=List.getElem_of_mem z
 rw[List.length_take]at hj
 rw[List.getElem_take]at ej
 have:=(List.getElem_inj (h₀:=(show j<l.length by lia)) (h₁:=hi) nd).mp ej
 lia
noncomputable def Cv_ (K:PySem.W.Frag):Sp:=fun vs H Q _=>∃(N:Nat) (a m:Addr) (xs:List V) (acc:List (List Int)) (kvs:List (List Key×V)) (g:List Int->List Int),vs=[.int N,.ref a,.ref m]/\N<=6/\SqL K H a xs/\Au K H xs acc/\acc.length<=64/\(∀w∈acc,w.length<=64)/\H m=some (.dT kvs)/\HU H (fun w=>(g w).map V.int) (CN N acc) kvs/\(acc.map g).Nodup/\(∀w∈acc,∀x:Nat,x<N->g (w++[(x:Int)])∈acc.map g)/\∀t ys H',Same H H'->H' t=some (.tup ys)->Au K H' ys (acc.map fun w=>(List.range N).map fun x:Nat=>(((acc.map g).idxOf (g (w++[(x:Int)])):Nat):Int))->Q (.ref t) H'
theorem RM   (F:Fun K "ways_by_marks" "ways_by_marks" C0 f fd)(T:Txt mg)
  (W:Own K mg C_j7 C_j9 C_jj C_ja C_j1 C_j4)
  (Z:Exs K mg C_j8 C_j5 C_j6 C_j3 C_j2 C_j0)
  : FnOk P w K mg base CX0 1 f fd ["letters","access","marks"] (Cv_ K):=by
 refine F.ok C7 (fun vs H Q E h=>?_) (fun cdv A outer s H vs Q E hr h=>?_)
 ·obtain⟨N,a,m,xs,acc,kvs,g,rfl,_⟩:=h;rfl
 ·obtain⟨N,a,m,xs,acc,kvs,g,rfl,hN,ha,hA,hal,haw,hm,hM,hnd,hin,k⟩:=h
  have hl:=Ao
  refine⟨_,(Ad (Rl (i:=3) C7.nd rfl (Or.inr rfl) MZ)
   (Ad (Hl PassesOwn.never rfl (Ge_ rfl T.enumerate (pvD 1)) (DP_ rfl (MW (B4 (i:=4) C7.nd rfl (Or.inl rfl)) (MW (B4 (i:=5) C7.nd rfl (Or.inr rfl)) AH_)))
   (Ac (NU (NT hr) (pvD 3) (SW (NT hr) (pvD 2) (pvD 5) (fun _ _=>rfl)) (pvD 4) rfl)))
   (Ad (AE (i:=6) C7.nd (Rm Af))
   (Ad (Hl PassesOwn.never rfl (Gq (pvD 1)) (B4 (i:=5) C7.nd rfl (Or.inr rfl))
   (Ac (Ba (CV_ PySem.F.plainAttrs_list PySem.F.slot_list_append PySem.F.type_list_append Lk (pvD 6) (Aa (EF Hn rfl T.tuple PyProof.Rows.boot_tuple (Aa (Ln rfl (OD rfl) (cp:=JK) ⟨⟨rfl,rfl⟩,⟨⟨rfl,rfl⟩,⟨⟨rfl,rfl⟩,True.intro⟩⟩⟩ (Li rfl T.range (Aa (pvD 0) Af)) (fun _ _ _ _=>(B4 (i:=0) M9 rfl (Or.inl rfl))) (fun _ _ _ _=>OC) (fun _ _ _ _=>(Ci_ (NT hr) (pvD 1) (SW (NT hr) (pvD 2) (Bu (YT (K:=K) rfl) (pvD 3) (GJ (Aa (pvD 0) Af))) (fun _ _=>rfl)) ⟨by rfl,by rfl,by rfl,by rfl⟩))) Af)) Af)))))
   (Ac (As (EF Hn rfl T.tuple PyProof.Rows.boot_tuple (Aa (pvD 6) Af)))))))),?_⟩
  walk_at "rd"
  intro p hp
  have s0:=Same.new hp (o:=.dT [])
  have hkn:∀i,i<=acc.length->((eI g acc i).map (·.1)).Nodup:=fun i hi=>by rw[Fn_ g acc hi];exact hnd.sublist (List.take_sublist _ _)
  refine⟨_,s0.seq ha,?_⟩
  obtain⟨Pv,hPv⟩:∃Pv:Nat->St->Hp->Prop,∀i σ' H',Pv i σ' H'↔(∃o1 o2:Option V,Same H H'/\H' p=some (.dT (ents (eI g acc i)))/\σ'=[some (.int N),some (.ref a),some (.ref m),some (.ref p),o1,o2,none]):=⟨_,fun _ _ _=>Iff.rfl⟩
  have hpm:p≠m:=fun z=>by rw[z,hm]at hp;cases hp
  refine forM Pv ((hPv _ _ _).mpr ⟨none,none,s0,Ae,rfl⟩) (fun i σ' H' _ h'=>by obtain⟨_,_,s',_⟩:=(hPv _ _ _).mp h';exact s'.seq ha) (fun i v σ' H' t hv h' ht=>?_) (fun σ' H' h'=>?_)
  ·obtain⟨o1,o2,s',hp',rfl⟩:=(hPv _ _ _).mp h'
   obtain⟨tw,w,hwi,rfl,htw⟩:=hA.at hv
   have hwm:=List.mem_of_getElem? hwi
   have hi:=(List.getElem?_eq_some_iff.mp hwi).1
   have sT:=s'.newT ht (o:=.tup [.int i,.ref tw])
   obtain⟨u,hu1,hu2⟩:=hM.get (Kd (n:=N) hwm)
   have hgd:acc.getD i []=w:=by rw[List.getD_eq_getElem?_getD,hwi];rfl
   have hno:g w∉(eI g acc i).map (·.1):=by
    rw[Fn_ g acc s!""]
    have:=Y6 (l:=acc.map g) (i:=i) (by rw[List.length_map];exact hi) hnd
    rw[List.getElem_map,(List.getElem?_eq_some_iff.mp hwi).2]at this
    exact this
   walk_at "rd"
   have hdg:DGet (upd H' t (.tup [V.int i,V.ref tw])) m (.ref tw) (some (.ref u)):=by rw[<-hu1];exact DGet.t (k:=wkey w) (sT _ _ hm) (by rw[EG];exact sT _ _ htw)
   have hle:(ents (eI g acc i)).length=i:=by unfold ents eI;rw[List.length_map,List.length_map,List.length_range]
   refine⟨_,SqT.of Ae,rfl,V.int i,_,rfl,V.ref tw,_,rfl,rfl,V.ref u,hdg,_,DPut.t (k:=wkey (g w)) (Same.new ht _ _ hp') (by rw[EG];exact sT _ _ hu2) s!"",(hPv _ _ _).mpr ⟨_,_,sT.over hp,by rw[Ae,Cr_ hno,IL_,hgd],rfl⟩⟩
  ·obtain⟨o1,o2,s',hp',rfl⟩:=(hPv _ _ _).mp h'
   rw[hA.1]at hp'
   walk_at "rd"
   refine⟨by lia,fun q hq=>⟨⟨_,(s'.newT hq).seq ha⟩,?_⟩⟩
   have sq:=s'.newT hq (o:=.lst [])
   have hqH:H q=none:=s'.none hq
   have hpq:p≠q:=fun z=>by rw[z,hq]at hp';cases hp'
   obtain⟨Pw,hPw⟩:∃Pv:Nat->St->Hp->Prop,∀i σ2 H2,Pv i σ2 H2↔(∃(ys:List V) (o:Option V),Same H H2/\H2 p=some (.dT (ents (eI g acc acc.length)))/\H2 q=some (.lst ys)/\Au K H2 ys ((acc.take i).map fun w=>(List.range N).map fun x:Nat=>(((acc.map g).idxOf (g (w++[(x:Int)])):Nat):Int))/\σ2=[some (.int N),some (.ref a),some (.ref m),some (.ref p),o1,o,some (.ref q)]):=⟨_,fun _ _ _=>Iff.rfl⟩
   refine forL (xs:=xs) Pw ((hPw _ _ _).mpr ⟨[],_,sq,Same.new hq _ _ hp',Ae,Au.nil,rfl⟩) (fun i σ2 H2 _ h2=>by obtain⟨_,_,s2,_⟩:=(hPw _ _ _).mp h2;exact s2.seq ha) (fun i x σ2 H2 hx h2=>?_) (fun σ2 H2 h2=>?_)
   ·obtain⟨ys,o,s2,hp2,hq2,hY,rfl⟩:=(hPw _ _ _).mp h2
    obtain⟨tw,w,hwi,rfl,htw⟩:=hA.at hx
    have hwm:=List.mem_of_getElem? hwi
    have hwl:=haw w hwm
    have et:acc.take (i+1)=acc.take i++[w]:=by rw[List.take_add_one,hwi];rfl
    have hyl:ys.length<=64:=by rw[hY.1,List.length_map,List.length_take];lia
    walk_at "rd"
    refine⟨.inl ⟨rfl,_,SqL.of hq2⟩,by lia,by lia,?_⟩
    rw[Int.toNat_natCast]
    obtain⟨Pc,hPc⟩:∃Pc:Nat->List V->St->Hp->Prop,∀j us σ4 H4,Pc j us σ4 H4↔(Same H2 H4/\us=((List.range j).map fun x:Nat=>(((acc.map g).idxOf (g (w++[(x:Int)])):Nat):Int)).map V.int/\∃o,σ4=[o,some (.ref p),some (.ref m),some (.ref tw)]):=⟨_,fun _ _ _ _=>Iff.rfl⟩
    refine Io_ Pc ((hPc _ _ _ _).mpr ⟨Same.refl _,rfl,none,rfl⟩) s!"" (fun j us σ4 H4 _ h4=>?_) (fun j us σ4 H4 hj h4=>?_) (fun us σ4 H4 h4 D hD=>?_)
    ·obtain⟨_,rfl,_⟩:=(hPc _ _ _ _).mp h4
     rw[List.length_map,List.length_map,List.length_range];lia
    ·obtain⟨s4,rfl,o4,rfl⟩:=(hPc _ _ _ _).mp h4
     rw[Int.zero_add]
     have s24:=s2.trans s4
     obtain⟨u,hu1,hu2⟩:=hM.get (Be_ (n:=N) hwm hj)
     have hmem:=Kp_ (hin w hwm j hj)
     walk_at "rd"
     refine⟨.inr ⟨_,.inl (s4 _ _ hp2)⟩,by lia,fun p1 hp1=>Kt.ofS (Same.new hp1 _ _ (s24 _ _ htw)) Ae (by simp;lia) fun q3 H5 s5 hq5=>?_⟩
     have s45:=(Same.new hp1 (o:=.tup [V.int j])).trans s5
     have s25:=s24.trans s45
     have hdg:DGet H5 m (.ref q3) (some (.ref u)):=by rw[<-hu1];exact DGet.t (k:=wkey (w++[(j:Int)])) (s25 _ _ hm) (by rw[EG,List.map_append];exact hq5)
     refine⟨_,hdg,_,DGet.t (k:=wkey (g (w++[(j:Int)]))) ((s4.trans s45) _ _ hp2) (by rw[EG];exact s25 _ _ hu2),(hPc _ _ _ _).mpr ⟨s4.trans s45,?_,_,rfl⟩⟩
     rw[I0 (hkn _ (Nat.le_refl _)) hmem,List.range_succ,List.map_append,List.map_append]
     rfl
    ·obtain⟨s4,rfl,o4,rfl⟩:=(hPc _ _ _ _).mp h4
     refine⟨D,rfl,_,.inl ⟨SqL.of Ae,fun t ht=>?_⟩⟩
     have sDt:=(s4.newT hD).newT ht (o:=.tup (((List.range N).map fun x:Nat=>(((acc.map g).idxOf (g (w++[(x:Int)])):Nat):Int)).map V.int))
     have hq5:=sDt _ _ hq2
     refine⟨_,hq5,by lia,(hPw _ _ _).mpr ⟨ys++[.ref t],_,(s2.trans sDt).over hqH,by rw[Ah hpq];exact sDt _ _ hp2,Ae,?_,rfl⟩⟩
     rw[et,List.map_append]
     exact ((hY.mono (TK.of sDt)).snoc Ae).mono (TK.lst hq5)
   ·obtain⟨ys,o,s2,hp2,hq2,hY,rfl⟩:=(hPw _ _ _).mp h2
    rw[hA.1,List.take_length]at hY
    walk_at "rd"
    exact⟨_,.inl ⟨SqL.of hq2,fun t ht=>k t ys _ (s2.newT ht) Ae (hY.mono (TK.of (Same.new ht)))⟩⟩
theorem WX (l:List (List Int)):∀(s:List (List Int)) (v:List Int),v∈l.foldl ins s↔v∈s\/v∈l:=by
 induction l with
 |nil=>intro s v;simp
 |cons a l ih=>
  intro s v
  rw[List.foldl_cons,ih]
  unfold ins
  split
  ·rename_i h
   constructor
   ·rintro (h1|h1)
    ·exact .inl h1
    ·exact .inr (List.mem_cons_of_mem _ h1)
   ·rintro (h1|h1)
    ·exact .inl h1
    ·rcases List.mem_cons.mp h1 with rfl|h1
     ·exact .inl h
     ·exact .inr h1
  ·constructor
   ·rintro (h1|h1)
    ·rcases List.mem_append.mp h1 with h1|h1
     ·exact .inl h1
     ·rw[List.mem_singleton.mp h1];exact .inr (List.mem_cons_self ..)
    ·exact .inr (List.mem_cons_of_mem _ h1)
   ·rintro (h1|h1)
    ·exact .inl (List.mem_append_left _ h1)
    ·rcases List.mem_cons.mp h1 with rfl|h1
     ·exact .inl (by simp)
     ·exact .inr h1
theorem C8    : v∈CN L W↔v∈W \/ ∃a∈W,∃x:Nat,x<L/\v=a++[(x:Int)]:=by
 unfold CN
 rw[WX,WX]
 simp only[List.not_mem_nil,false_or,List.mem_flatMap,extW,List.mem_map,List.mem_range]
 constructor
 ·rintro (h|⟨a,ha,x,hx,rfl⟩)
  ·exact .inl h
  ·exact .inr ⟨a,ha,x,hx,rfl⟩
 ·rintro (h|⟨a,ha,x,hx,rfl⟩)
  ·exact .inl h
  ·exact .inr ⟨a,ha,x,hx,rfl⟩
theorem FV   : c∈Kv R E ↔ ∃r∈R,∃e∈E,c=r++e:=by
 unfold Kv
 rw[WX]
 simp only[List.not_mem_nil,false_or,List.mem_flatMap,List.mem_map]
 constructor
 ·rintro⟨r,hr,e,he,rfl⟩;exact⟨r,hr,e,he,rfl⟩
 ·rintro⟨r,hr,e,he,rfl⟩;exact⟨r,hr,e,he,rfl⟩
noncomputable abbrev Bk:=List (List Int×Int)
noncomputable def Grow (es es':Bk):Prop:=∀v m,mkO es v=some m->mkO es' v=some m
theorem Grow.refl (es:Bk):Grow es es:=fun _ _ h=>h
theorem Grow.snoc (es:Bk)(v:List Int)(m:Int):Grow es (es++[(v,m)]):=fun u n h=>by
 unfold mkO at h ⊢
 rw[List.find?_append]
 cases hf:es.find? (fun e=>decide (e.1=u)) with
 |none=>rw[hf]at h;cases h
 |some e=>rw[hf]at h;exact h
theorem Bf_    (h:mkO es v=some m):(v,m)∈es:=by
 unfold mkO at h
 cases hf:es.find? (fun e=>decide (e.1=v)) with
 |none=>rw[hf]at h;cases h
 |some e=>
  rw[hf]at h
  have h1:=List.mem_of_find?_eq_some hf
  have h2:=List.find?_some hf
  simp at h h2
  subst h h2
  exact h1
theorem Bg_   : v∈es.map (·.1) ↔ ∃m,mkO es v=some m:=by
 constructor
 ·intro h
  cases hm:mkO es v with
  |some m=>exact⟨m,rfl⟩
  |none=>
   obtain⟨e,he,rfl⟩:=List.mem_map.mp h
   unfold mkO at hm
   rw[Option.map_eq_none_iff,List.find?_eq_none]at hm
   exact absurd (decide_eq_true rfl) (hm e he)
 ·rintro⟨m,hm⟩
  exact List.mem_map.mpr ⟨_,Bf_ hm,rfl⟩
noncomputable def RO (E:List (List Int))(es:Bk)(v u:List Int):Prop:=∃e∈E,∃m n,mkO es (v++e)=some m/\mkO es (u++e)=some n/\m≠n
theorem RO.symm    (h:RO E es v u):RO E es u v:=by
 obtain⟨e,he,m,n,a,b,c⟩:=h
 exact⟨e,he,n,m,b,a,Ne.symm c⟩
theorem RO.mono    (h:RO E es v u)(hE:∀e∈E,e∈E')(g:Grow es es'):RO E' es' v u:=by
 obtain⟨e,he,m,n,a,b,c⟩:=h
 exact⟨e,hE e he,m,n,g _ _ a,g _ _ b,c⟩
noncomputable def Pend (L:Nat)(W E:List (List Int))(es:Bk):Prop:=∃a∈W,∃x:Nat,x<L/\∀u∈W,RO E es (a++[(x:Int)]) u
theorem Pend.mono    (h:Pend L W E es)(g:Grow es es'):Pend L W E es':=by
 obtain⟨a,ha,x,hx,k⟩:=h
 exact⟨a,ha,x,hx,fun u hu=>(k u hu).mono (fun _ z=>z) g⟩
structure Tb (L most:Nat)(W E:List (List Int))(es:Bk):Prop where
 l1:1<=L
 l6:L<=6
 m12:most<=12
 w0:W[0]?=some []
 wW:∀v∈W,isW L v=true/\v.length<W.length
 wn:W.length<=most
 e0:E.take L=(List.range L).map fun x:Nat=>[(x:Int)]
 eW:∀e∈E,isW L e=true/\e ≠ []
 nd:(es.map (·.1)).Nodup
 bW:∀p∈es,isW L p.1=true/\0<=p.2/\p.2<=1000000000
 dist:∀(i j:Nat) (v u:List Int),W[i]?=some v->W[j]?=some u->i≠j->RO E es v u
 jj:E.length+1<=W.length+L\/(E.length=W.length+L/\Pend L W E es)
theorem Tb.en    (t:Tb L most W E es):E.length<=most+L:=by
 have:=t.wn
 rcases t.jj with h|h
 ·lia
 ·lia
theorem Tb.put {L most:Nat}{W E:List (List Int)}{es:Bk}(t:Tb L most W E es){v:List Int}{m:Int}(hn:v∉es.map (·.1))(hv:isW L v=true)(h0:0<=m)(h9:m<=1000000000):Tb L most W E (es++[(v,m)]) where
 l1:=t.l1
 l6:=t.l6
 m12:=t.m12
 w0:=t.w0
 wW:=t.wW
 wn:=t.wn
 e0:=t.e0
 eW:=t.eW
 nd:=by
  rw[List.map_append,List.nodup_append]
  exact⟨t.nd,by simp,fun a ha b hb=>by rw[List.mem_singleton.mp hb];intro z;subst z;exact hn ha⟩
 bW:=fun p hp=>by
  rcases List.mem_append.mp hp with hp|hp
  ·exact t.bW p hp
  ·rw[List.mem_singleton.mp hp];exact⟨hv,h0,h9⟩
 dist:=fun i j v' u h1 h2 h3=>(t.dist i j v' u h1 h2 h3).mono (fun _ z=>z) (Grow.snoc es v m)
 jj:=by
  rcases t.jj with h|h
  ·exact .inl h
  ·exact .inr ⟨h.1,h.2.mono (Grow.snoc es v m)⟩
noncomputable def Full (L:Nat)(W E:List (List Int))(es:Bk):Prop:=∀c∈Kv (CN L W) E,∃m,mkO es c=some m
noncomputable def gOf (E:List (List Int))(es:Bk)(v:List Int):List Int:=E.map fun e=>(mkO es (v++e)).getD 0
theorem Fo_    (f:Full L W E es)  (hv:v∈CN L W):(E.map fun e=>oV (mkO es (v++e)))=(gOf E es v).map V.int:=by
 unfold gOf
 rw[List.map_map]
 refine List.map_congr_left fun e he=>?_
 obtain⟨m,hm⟩:=f (v++e) (FV.mpr ⟨v,hv,e,he,rfl⟩)
 show oV (mkO es (v++e))=V.int ((mkO es (v++e)).getD 0)
 rw[hm];rfl
theorem OM    (f:Full L W E es)  (hv:v∈CN L W)(hu:u∈CN L W):gOf E es v≠gOf E es u↔RO E es v u:=by
 constructor
 ·intro h
  refine Classical.byContradiction fun hno=>h ?_
  unfold gOf
  refine List.map_congr_left fun e he=>?_
  obtain⟨m,hm⟩:=f (v++e) (FV.mpr ⟨v,hv,e,he,rfl⟩)
  obtain⟨n,hn⟩:=f (u++e) (FV.mpr ⟨u,hu,e,he,rfl⟩)
  rw[hm,hn]
  exact Classical.byContradiction fun hne=>hno ⟨e,he,m,n,hm,hn,hne⟩
 ·rintro⟨e,he,m,n,hm,hn,hne⟩ heq
  unfold gOf at heq
  have:=List.map_inj_left.mp heq e he
  rw[hm,hn]at this
  exact hne this
theorem Tb.nodup    (t:Tb L most W E es)(f:Full L W E es):(W.map (gOf E es)).Nodup:=by
 rw[List.nodup_iff_pairwise_ne,List.pairwise_map,List.pairwise_iff_getElem]
 intro i j hi hj hij
 exact (OM f (C8.mpr (.inl (List.getElem_mem hi))) (C8.mpr (.inl (List.getElem_mem hj)))).mpr (t.dist i j _ _ (List.getElem?_eq_getElem hi) (List.getElem?_eq_getElem hj) s!"")
theorem Tb.more    (t:Tb L most W E es)(f:Full L W E es)  (h:(CN L W).find? (fun v=>decide (gOf E es v∉W.map (gOf E es)))=some v):(v∈CN L W/\v∉W/\isW L v=true/\v.length<=W.length)/\(W.length<most->Tb L most (W++[v]) E es):=by
 have h1:=List.mem_of_find?_eq_some h
 have h2:=List.find?_some h
 have h2:gOf E es v∉W.map (gOf E es):=of_decide_eq_true h2
 have hnW:v∉W:=fun z=>h2 (List.mem_map_of_mem z)
 have hap:∀u∈W,RO E es v u:=fun u hu=>(OM f h1 (C8.mpr (.inl hu))).mp fun z=>h2 (by rw[z];exact List.mem_map_of_mem hu)
 have hv:isW L v=true/\v.length<=W.length:=by
  rcases C8.mp h1 with h|⟨a,ha,x,hx,rfl⟩
  ·exact absurd h hnW
  ·have:=t.wW a ha
   exact⟨Ci.mpr fun y hy=>by
    rcases List.mem_append.mp hy with hy|hy
    ·exact Ci.mp this.1 y hy
    ·rw[List.mem_singleton.mp hy];lia,by rw[List.length_append,List.length_singleton];lia⟩
 refine⟨⟨h1,hnW,hv.1,hv.2⟩,fun hm=>⟨t.l1,t.l6,t.m12,?_,fun u hu=>?_,by simp;lia,t.e0,t.eW,t.nd,t.bW,fun i j a b hi hj hij=>?_,?_⟩⟩
 ·have:=(List.getElem?_eq_some_iff.mp t.w0).1
  rw[List.getElem?_append_left this];exact t.w0
 ·rw[List.length_append,List.length_singleton]
  rcases List.mem_append.mp hu with hu|hu
  ·have:=t.wW u hu;exact⟨this.1,by lia⟩
  ·rw[List.mem_singleton.mp hu];exact⟨hv.1,by lia⟩
 ·have hi':=(List.getElem?_eq_some_iff.mp hi).1
  have hj':=(List.getElem?_eq_some_iff.mp hj).1
  rw[List.length_append,List.length_singleton]at hi' hj'
  by_cases hil:i<W.length
  ·rw[List.getElem?_append_left hil]at hi
   by_cases hjl:j<W.length
   ·rw[List.getElem?_append_left hjl]at hj
    exact t.dist i j a b hi hj hij
   ·rw[List.getElem?_append_right s!"",show j-W.length=0 by lia]at hj
    cases hj
    exact (hap a (List.mem_of_getElem? hi)).symm
  ·rw[List.getElem?_append_right s!"",show i-W.length=0 by lia]at hi
   cases hi
   rw[List.getElem?_append_left s!""]at hj
   exact hap b (List.mem_of_getElem? hj)
 ·rw[List.length_append,List.length_singleton]
  rcases t.jj with h|h
  ·exact .inl s!""
  ·exact .inl s!""
theorem Tb.none    (t:Tb L most W E es)(f:Full L W E es)(h:(CN L W).find? (fun v=>decide (gOf E es v∉W.map (gOf E es)))=none):¬ Pend L W E es/\(∀a∈W,∀x:Nat,x<L->gOf E es (a++[(x:Int)])∈W.map (gOf E es)):=by
 have hall:∀v∈CN L W,gOf E es v∈W.map (gOf E es):=fun v hv=>by
  have:=List.find?_eq_none.mp h v hv
  simpa using this
 refine⟨fun ⟨a,ha,x,hx,k⟩=>?_,fun a ha x hx=>hall _ (C8.mpr (.inr ⟨a,ha,x,hx,rfl⟩))⟩
 have hr:=C8.mpr (.inr ⟨a,ha,x,hx,rfl⟩)
 obtain⟨u,hu,e⟩:=List.mem_map.mp (hall _ hr)
 exact (OM f hr (C8.mpr (.inl hu))).mpr (k u hu) e.symm
theorem Tb.end    (t:Tb L most W E es)  (hx:x<L):E[x]?=some [(x:Int)]:=by
 have h:=congrArg (fun l=>l[x]?) t.e0
 rw[List.getElem?_take,if_pos hx,List.getElem?_map,List.getElem?_range hx]at h
 exact h
theorem Tb.endl    (t:Tb L most W E es):L<=E.length:=by
 have h:=congrArg List.length t.e0
 rw[List.length_take,List.length_map,List.length_range]at h
 lia
structure GuessOk (L:Nat)(W E:List (List Int))(es:Bk)(marks ways:List (List Int)):Prop where
 ml:marks.length=W.length
 sl:∀row∈marks,row.length=L
 m:∀(i:Nat) (v:List Int) (x:Nat),W[i]?=some v->x<L->∃row y,marks[i]?=some row/\row[x]?=some y/\mkO es (v++[(x:Int)])=some y
 wl:ways.length=W.length
 rl:∀row∈ways,row.length=L
 go:∀(i:Nat) (v:List Int) (x:Nat),W[i]?=some v->x<L->∃(row:List Int) (k:Nat) (u:List Int),ways[i]?=some row/\row[x]?=some (k:Int)/\W[k]?=some u/\∀e∈E,∃y,mkO es (v++[(x:Int)]++e)=some y/\mkO es (u++e)=some y
theorem GuessOk.mono      (g:GuessOk L W E es marks ways)(h:Grow es es'):GuessOk L W E es' marks ways:=by
 refine⟨g.ml,g.sl,fun i v x hv hx=>?_,g.wl,g.rl,fun i v x hv hx=>?_⟩
 ·obtain⟨row,y,a,b,c⟩:=g.m i v x hv hx
  exact⟨row,y,a,b,h _ _ c⟩
 ·obtain⟨row,k,u,a,b,c,d⟩:=g.go i v x hv hx
  refine⟨row,k,u,a,b,c,fun e he=>?_⟩
  obtain⟨y,y1,y2⟩:=d e he
  exact⟨y,h _ _ y1,h _ _ y2⟩
theorem Kq_ {α:Type}[BEq α][LawfulBEq α]{l:List α}{a:α}(h:a∈l):l[l.idxOf a]?=some a/\l.idxOf a<l.length:=by
 have h1:=List.idxOf_lt_length_iff.mpr h
 exact⟨by rw[List.getElem?_eq_getElem h1,List.getElem_idxOf],h1⟩
theorem Tb.guess    (t:Tb L most W E es)(f:Full L W E es)(h:∀a∈W,∀x:Nat,x<L->gOf E es (a++[(x:Int)])∈W.map (gOf E es)):GuessOk L W E es (W.map fun v=>(gOf E es v).take L) (W.map fun v=>(List.range L).map fun x:Nat=>(((W.map (gOf E es)).idxOf (gOf E es (v++[(x:Int)])):Nat):Int)):=by
 refine⟨by rw[List.length_map],fun row hr=>?_,fun i v x hv hx=>?_,by rw[List.length_map],fun row hr=>?_,fun i v x hv hx=>?_⟩
 ·obtain⟨v,_,rfl⟩:=List.mem_map.mp hr
  have:=t.endl
  unfold gOf
  rw[List.length_take,List.length_map];lia
 ·have he:=t.end hx
  obtain⟨m,hm⟩:=f (v++[(x:Int)]) (FV.mpr ⟨v,C8.mpr (.inl (List.mem_of_getElem? hv)),[(x:Int)],List.mem_of_getElem? he,rfl⟩)
  refine⟨_,m,by rw[List.getElem?_map,hv];rfl,?_,hm⟩
  rw[List.getElem?_take,if_pos hx]
  unfold gOf
  rw[List.getElem?_map,he]
  show some ((mkO es (v++[(x:Int)])).getD 0)=_
  rw[hm];rfl
 ·obtain⟨v,_,rfl⟩:=List.mem_map.mp hr
  rw[List.length_map,List.length_range]
 ·have hvW:=List.mem_of_getElem? hv
  have hg:=h v hvW x hx
  obtain⟨q1,q2⟩:=Kq_ hg
  obtain⟨k,hk⟩:∃k,k=(W.map (gOf E es)).idxOf (gOf E es (v++[(x:Int)])):=⟨_,rfl⟩
  rw[<-hk]at q1 q2
  rw[List.length_map]at q2
  rw[List.getElem?_map,List.getElem?_eq_getElem q2]at q1
  have q3:gOf E es W[k]=gOf E es (v++[(x:Int)]):=Option.some.inj q1
  refine⟨_,k,W[k],by rw[List.getElem?_map,hv];rfl,by rw[List.getElem?_map,List.getElem?_range hx,hk];rfl,List.getElem?_eq_getElem q2,fun e he=>?_⟩
  obtain⟨y,hy⟩:=f (v++[(x:Int)]++e) (FV.mpr ⟨_,C8.mpr (.inr ⟨v,hvW,x,hx,rfl⟩),e,he,rfl⟩)
  obtain⟨z,hz⟩:=f (W[k]++e) (FV.mpr ⟨_,C8.mpr (.inl (List.getElem_mem q2)),e,he,rfl⟩)
  have:=List.map_inj_left.mp q3 e he
  rw[hy,hz]at this
  have e2:z=y:=this
  exact⟨y,hy,by rw[hz,e2]⟩
theorem Tb.wf    (t:Tb L most W E es)   (g:GuessOk L W E es marks ways):WfS L marks ways:=by
 have h0:=(List.getElem?_eq_some_iff.mp t.w0).1
 have:=t.wn
 have:=t.m12
 have:=t.l1
 have:=t.l6
 have hml:=g.ml
 refine⟨⟨by lia,by lia,by rw[List.length_replicate];lia,by rw[List.length_replicate];lia,by rw[List.length_replicate,g.wl,g.ml],fun row hr=>?_,fun m hm=>by rw[(List.mem_replicate.mp hm).2];lia⟩,fun row hr=>by rw[g.sl row hr]⟩
 refine⟨by rw[g.rl row hr],fun y hy=>?_⟩
 obtain⟨i,hi⟩:=List.mem_iff_getElem?.mp hr
 have hil:=(List.getElem?_eq_some_iff.mp hi).1
 rw[g.wl]at hil
 obtain⟨x,hx⟩:=List.mem_iff_getElem?.mp hy
 have hxl:=(List.getElem?_eq_some_iff.mp hx).1
 rw[g.rl row hr]at hxl
 obtain⟨row',k,u,a,b,c,_⟩:=g.go i _ x (List.getElem?_eq_getElem hil) hxl
 rw[hi]at a
 cases a
 rw[hx]at b
 cases b
 have:=(List.getElem?_eq_some_iff.mp c).1
 rw[List.length_replicate];lia
theorem GuessOk.room    (t:Tb L most W E es)   (g:GuessOk L W E es marks ways)  (hv:isW L v=true):∀i:Nat,∃(k:Nat) (u:List Int),Fp ways (v.take i)=(k:Int)/\W[k]?=some u:=fun i=>by
 have wf:=t.wf g
 obtain⟨h0,h1⟩:=wf.walk hv i
 rw[g.ml]at h1
 obtain⟨k,hk⟩:=Int.eq_ofNat_of_zero_le h0
 rw[hk]at h1
 exact⟨k,W[k]'s!"",hk,List.getElem?_eq_getElem s!""⟩
theorem GuessOk.step {L most:Nat}{W E:List (List Int)}{es:Bk}(t:Tb L most W E es){marks:List (List Int)}{ways:List (List Int)}(g:GuessOk L W E es marks ways){v:List Int}(hv:isW L v=true){i k:Nat}{a:List Int}{y:Int}(hy:v[i]?=some y)(hk:Fp ways (v.take i)=(k:Int))(ha:W[k]?=some a):∃(x k':Nat) (u:List Int),y=(x:Int)/\x<L/\Fp ways (v.take (i+1))=(k':Int)/\W[k']?=some u/\∀e∈E,∃m,mkO es (a++[(x:Int)]++e)=some m/\mkO es (u++e)=some m:=by
 have hb:=Ci.mp hv y (List.mem_of_getElem? hy)
 obtain⟨x,rfl⟩:=Int.eq_ofNat_of_zero_le hb.1
 obtain⟨row,k',u,q1,q2,q3,q4⟩:=g.go k a x ha s!""
 refine⟨x,k',u,rfl,by lia,?_,q3,q4⟩
 rw[M3 hy,hk]
 exact Sx (by rw[show ((k:Int)).toNat=k by lia];exact q1) (by rw[show ((x:Int)).toNat=x by lia];exact q2)
theorem Tb.halved {L most:Nat}{W E:List (List Int)}{es:Bk}(t:Tb L most W E es)(hE:E.length+1<=W.length+L){marks:List (List Int)}{ways:List (List Int)}(g:GuessOk L W E es marks ways){v:List Int}(hv:isW L v=true){i k k':Nat}(hi':i+1<v.length){a u:List Int}{mk b:Int}(hk:Fp ways (v.take i)=(k:Int))(ha:W[k]?=some a)(h1:mkO es (a++v.drop i)=some b)(hne:b≠mk)(hk':Fp ways (v.take (i+1))=(k':Int))(hu:W[k']?=some u)(h2:mkO es (u++v.drop (i+1))=some mk):Tb L most W (E++[v.drop (i+1)]) es/\Pend L W (E++[v.drop (i+1)]) es:=by
 have hi:i<v.length:=by lia
 obtain⟨y,hy⟩:∃y,v[i]?=some y:=⟨v[i],by simp⟩
 obtain⟨x,k2,u2,rfl,hx,q1,q2,q3⟩:=g.step t hv hy hk ha
 have ek:k2=k':=by rw[hk']at q1;exact (Int.ofNat.inj q1).symm
 subst ek
 rw[hu]at q2
 cases q2
 have hdr:v.drop i=(x:Int)::v.drop (i+1):=by
  have:=(List.getElem?_eq_some_iff.mp hy)
  rw[List.drop_eq_getElem_cons hi,this.2]
 have hpend:Pend L W (E++[v.drop (i+1)]) es:=by
  refine⟨a,List.mem_of_getElem? ha,x,hx,fun w' hw'=>?_⟩
  obtain⟨j,hj⟩:=List.mem_iff_getElem?.mp hw'
  by_cases hjk:j=k2
  ·subst hjk
   rw[hu]at hj
   cases hj
   refine⟨v.drop (i+1),by simp,b,mk,?_,h2,hne⟩
   rw[hdr]at h1
   rw[List.append_assoc];exact h1
  ·obtain⟨e,he,m,n,z1,z2,z3⟩:=t.dist j k2 _ _ hj hu hjk
   obtain⟨y2,y3,y4⟩:=q3 e he
   rw[z2]at y4
   cases y4
   exact⟨e,List.mem_append_left _ he,n,m,y3,z1,Ne.symm z3⟩
 refine⟨⟨t.l1,t.l6,t.m12,t.w0,t.wW,t.wn,?_,fun e he=>?_,t.nd,t.bW,fun i j v u h1 h2 h3=>(t.dist i j v u h1 h2 h3).mono (fun e he=>List.mem_append_left _ he) (Grow.refl _),?_⟩,hpend⟩
 ·rw[List.take_append_of_le_length t.endl];exact t.e0
 ·rcases List.mem_append.mp he with he|he
  ·exact t.eW e he
  ·rw[List.mem_singleton.mp he]
   exact⟨Ci.mpr fun y hy=>Ci.mp hv y (List.mem_of_mem_drop hy),fun z=>by have:=congrArg List.length z;rw[List.length_drop]at this;simp at this;lia⟩
 ·rw[List.length_append,List.length_singleton]
  by_cases hlt:E.length+1<W.length+L
  ·exact .inl s!""
  ·exact .inr ⟨by lia,hpend⟩
structure AS where
 L:Nat
 most:Nat
 W:List (List Int)
 E:List (List Int)
 G:List (List Int)
 gs:Option (List (List Int)×List (List Int))
 wr:Option (List Int)
 es:Bk
inductive Wish where
 | ask (c:List Int)
 | shown (m ws:List (List Int))
 | done (m ws:List (List Int))
 | spent (c:List Int)
inductive HR where
 | ask (c:List Int)
 | fin (hi:Nat)
noncomputable def ON (L:Nat)(W E:List (List Int))(es:Bk):List (List Int):=(Kv (CN L W) E).filter fun c=>(mkO es c).isNone
noncomputable def HV (L:Nat)(W E:List (List Int))(es:Bk):List (List Int):=W.map fun v=>(gOf E es v).take L
noncomputable def lsay (m ws:List (List Int))(v:List Int):Int:=(sayW m ws v).getD (v.length-1) 0
noncomputable def Nb (L:Nat)(W E:List (List Int))(es:Bk):List (List Int):=W.map fun v=>(List.range L).map fun x:Nat=>(((W.map (gOf E es)).idxOf (gOf E es (v++[(x:Int)])):Nat):Int)
noncomputable def Gi (es:Bk)(m ws:List (List Int)):Option (List Int):=(es.find? fun e=>decide (lsay m ws e.1≠e.2)).map (·.1)
noncomputable def NZ (W ws:List (List Int))(v:List Int)(i:Nat):List Int:=W.getD (Fp ws (v.take i)).toNat []
noncomputable def Nd (es:Bk)(W ws:List (List Int))(v:List Int)(mk:Int):Nat->Nat->Nat->HR
 |0,_,hi=>.fin hi
 |f+1,lo,hi=>if hi-lo > 1 then (match mkO es (NZ W ws v ((lo+hi) / 2)++v.drop ((lo+hi) / 2)) with
   |none=>.ask (NZ W ws v ((lo+hi) / 2)++v.drop ((lo+hi) / 2))
   |some t=>if t=mk then Nd es W ws v mk f lo ((lo+hi) / 2) else Nd es W ws v mk f ((lo+hi) / 2) hi) else .fin hi
noncomputable def M5 (L:Nat)(W E:List (List Int))(es:Bk):Option (List Int):=(CN L W).find? fun v=>decide (gOf E es v∉W.map (gOf E es))
noncomputable def KJ (s:AS):AS×Option Wish:=match M5 s.L s.W s.E s.es with
 |some r=>if s.W.length=s.most then (s,some (.spent r)) else ({s with W:=s.W++[r],G:=ON s.L (s.W++[r]) s.E s.es},none)
 |none=>match Gi s.es (HV s.L s.W s.E s.es) (Nb s.L s.W s.E s.es) with
  |none=>({s with gs:=some (HV s.L s.W s.E s.es,Nb s.L s.W s.E s.es),wr:=none},some (.shown (HV s.L s.W s.E s.es) (Nb s.L s.W s.E s.es)))
  |some v=>({s with gs:=some (HV s.L s.W s.E s.es,Nb s.L s.W s.E s.es),wr:=some v},none)
noncomputable def Tu (s:AS)(v:List Int)(m ws:List (List Int)):AS×Option Wish:=match Nd s.es s.W ws v (lsay m ws v) v.length 0 (v.length-1) with
 |.ask c=>(s,some (.ask c))
 |.fin hi=>({s with wr:=none,E:=s.E++[v.drop hi],G:=ON s.L s.W (s.E++[v.drop hi]) s.es},none)
noncomputable def Gp (s:AS):AS×Option Wish:=match s.G with
 |c::r=>({s with G:=r},some (.ask c))
 |[]=>match s.wr with
  |some v=>match s.gs with
   |some (m,ws)=>Tu s v m ws
   |none=>(s,none)
  |none=>KJ s
structure OkX (x:Option (List Int))(B:Nat)(s:AS):Prop where
 tb:Tb s.L s.most s.W s.E s.es
 cov:∀c∈Kv (CN s.L s.W) s.E,(∃m,mkO s.es c=some m)\/c∈s.G\/x=some c
 gn:s.G.Nodup
 gW:∀c∈s.G,(isW s.L c=true/\c ≠ [])/\mkO s.es c=none/\c.length<=B+(s.most+1)*s.E.length
 le:∀e∈s.E,e.length+(s.most+1)<=B+(s.most+1)*s.E.length
 lb:∀p∈s.es,p.1.length<=B+(s.most+1)*s.E.length+(if s.wr.isSome then s.most else 0)
 ne:∀p∈s.es,p.1 ≠ []
 wr:∀v,s.wr=some v->s.G=[]/\s.E.length+1<=s.W.length+s.L/\isW s.L v=true/\v.length<=B+(s.most+1)*s.E.length/\∃m ws t,s.gs=some (m,ws)/\GuessOk s.L s.W s.E s.es m ws/\mkO s.es v=some t/\t≠lsay m ws v
theorem OkX.full {B:Nat}  (o:OkX none B s)(h:s.G=[]):Full s.L s.W s.E s.es:=fun c hc=>by
 rcases o.cov c hc with z|z|z
 ·exact z
 ·rw[h]at z;cases z
 ·cases z
theorem OkX.lens  {B:Nat}  (o:OkX x B s):(s.most+1)*s.E.length<=(s.most+1)*(s.most+s.L):=Nat.mul_le_mul_left _ o.tb.en
theorem OkX.cell {x:Option (List Int)}{B:Nat}{s:AS}{W:List (List Int)}{E:List (List Int)}(hW:∀v∈W,isW s.L v=true/\v.length<W.length)(hn:W.length<=s.most)(hE:∀e∈E,(isW s.L e=true/\e ≠ [])/\e.length+(s.most+1)<=B+(s.most+1)*E.length){c:List Int}(hc:c∈Kv (CN s.L W) E):(isW s.L c=true/\c ≠ [])/\c.length<=B+(s.most+1)*E.length:=by
 obtain⟨r,hr,e,he,rfl⟩:=FV.mp hc
 have h2:=hE e he
 have h1:isW s.L r=true/\r.length<=W.length:=by
  rcases C8.mp hr with h|⟨a,ha,y,hy,rfl⟩
  ·have:=hW r h;exact⟨this.1,by lia⟩
  ·have:=hW a ha
   exact⟨Ci.mpr fun z hz=>by
    rcases List.mem_append.mp hz with hz|hz
    ·exact Ci.mp this.1 z hz
    ·rw[List.mem_singleton.mp hz];lia,by rw[List.length_append,List.length_singleton];lia⟩
 refine⟨⟨Ci.mpr fun z hz=>?_,fun z=>h2.1.2 (List.append_eq_nil_iff.mp z).2⟩,by rw[List.length_append];lia⟩
 rcases List.mem_append.mp hz with hz|hz
 ·exact Ci.mp h1.1 z hz
 ·exact Ci.mp h2.1.1 z hz
theorem Tv (R E:List (List Int)):(Kv R E).Nodup:=Jc List.nodup_nil
theorem Bh_ {B:Nat}{s:AS}{W E:List (List Int)}(hW:∀v∈W,isW s.L v=true/\v.length<W.length)(hn:W.length<=s.most)(hE:∀e∈E,(isW s.L e=true/\e ≠ [])/\e.length+(s.most+1)<=B+(s.most+1)*E.length):(∀c∈Kv (CN s.L W) E,(∃m,mkO s.es c=some m)\/c∈ON s.L W E s.es\/(none:Option (List Int))=some c)/\(ON s.L W E s.es).Nodup/\∀c∈ON s.L W E s.es,(isW s.L c=true/\c ≠ [])/\mkO s.es c=none/\c.length<=B+(s.most+1)*E.length:=by
 refine⟨fun c hc=>?_,(Tv _ _).filter _,fun c hc=>?_⟩
 ·cases hm:mkO s.es c with
  |some m=>exact .inl ⟨m,rfl⟩
  |none=>exact .inr (.inl (List.mem_filter.mpr ⟨hc,by rw[hm];rfl⟩))
 ·obtain⟨h1,h2⟩:=List.mem_filter.mp hc
  have:=OkX.cell (x:=none) (s:=s) hW hn hE h1
  exact⟨this.1,by simpa using h2,this.2⟩
theorem Bi_ {L most:Nat}{W E:List (List Int)}{es:Bk}(t:Tb L most W E es){m ws:List (List Int)}(g:GuessOk L W E es m ws){v:List Int}(hv:isW L v=true){mk:Int}:∀(f lo hi:Nat),hi-lo<=f+1->lo<hi->hi<=v.length-1->(∃b,mkO es (NZ W ws v lo++v.drop lo)=some b/\b≠mk)->mkO es (NZ W ws v hi++v.drop hi)=some mk->match Nd es W ws v mk f lo hi with
   |.ask c=>mkO es c=none/\∃i,i<v.length-1/\c=NZ W ws v i++v.drop i
   |.fin h=>0<h/\h<=v.length-1/\(∃b,mkO es (NZ W ws v (h-1)++v.drop (h-1))=some b/\b≠mk)/\mkO es (NZ W ws v h++v.drop h)=some mk
 |0,lo,hi,h1,h2,h3,h4,h5=>by
  have:lo=hi-1:=by lia
  subst this
  exact⟨by lia,h3,h4,h5⟩
 |f+1,lo,hi,h1,h2,h3,h4,h5=>by
  unfold Nd
  by_cases hg:hi-lo > 1
  ·rw[if_pos hg]
   cases hm:mkO es (NZ W ws v ((lo+hi) / 2)++v.drop ((lo+hi) / 2)) with
   |none=>exact⟨hm,(lo+hi) / 2,by lia,rfl⟩
   |some b=>
    dsimp only
    by_cases hb:b=mk
    ·rw[if_pos hb]
     subst hb
     exact Bi_ t g hv f lo ((lo+hi) / 2) s!"" s!"" s!"" h4 hm
    ·rw[if_neg hb]
     exact Bi_ t g hv f ((lo+hi) / 2) hi s!"" s!"" h3 ⟨b,hm,hb⟩ h5
  ·rw[if_neg hg]
   have:lo=hi-1:=by lia
   subst this
   exact⟨by lia,h3,h4,h5⟩
theorem Tw    (t:Tb L most W E es)  (g:GuessOk L W E es m ws)  (hv:isW L v=true)(i:Nat):∃k:Nat,Fp ws (v.take i)=(k:Int)/\W[k]?=some (NZ W ws v i):=by
 obtain⟨k,u,h1,h2⟩:=g.room t hv i
 refine⟨k,h1,?_⟩
 unfold NZ
 rw[h1,show ((k:Int)).toNat=k by lia,List.getD_eq_getElem?_getD,h2];rfl
open Classical in
noncomputable def mu (s:AS):Nat:=4*(s.most-s.W.length)+(if s.wr.isSome then 2 else if Pend s.L s.W s.E s.es then 1 else 3)
noncomputable def WOk (B:Nat)(s:AS):Wish->Prop
 |.ask c=>OkX (some c) B s/\mkO s.es c=none/\(isW s.L c=true/\c ≠ [])/\c.length<=B+(s.most+1)*s.E.length+(if s.wr.isSome then s.most else 0)/\c∉s.G
 |.shown m ws=>OkX none B s/\s.G=[]/\s.wr=none/\s.gs=some (m,ws)/\GuessOk s.L s.W s.E s.es m ws/\∀p∈s.es,lsay m ws p.1=p.2
 |.done m ws=>OkX none B s/\s.G=[]/\s.wr=none/\s.gs=some (m,ws)/\GuessOk s.L s.W s.E s.es m ws/\∀p∈s.es,lsay m ws p.1=p.2
 |.spent r=>OkX none B s/\s.G=[]/\s.wr=none/\s.W.length=s.most/\r∈CN s.L s.W/\r∉s.W/\isW s.L r=true/\r.length<=s.W.length/\∀u∈s.W,RO s.E s.es r u
structure Kept (s s':AS):Prop where
 l:s'.L=s.L
 m:s'.most=s.most
 e:s'.es=s.es
theorem Y7 {B:Nat}  (o:OkX none B s)    (g:GuessOk s.L s.W s.E s.es m ws)(hvW:isW s.L v=true)(ht:mkO s.es v=some t)(hne:t≠lsay m ws v):v ≠ []/\NZ s.W ws v 0=[]/\mkO s.es (NZ s.W ws v (v.length-1)++v.drop (v.length-1))=some (lsay m ws v)/\0<v.length-1:=by
 have tb:=o.tb
 have hw0:=tb.w0
 have hvn:v ≠ []:=o.ne (v,t) (Bf_ ht)
 have hv0:0<v.length:=List.length_pos_iff.mpr hvn
 have a0:NZ s.W ws v 0=[]:=by
  obtain⟨k,k1,k2⟩:=Tw tb g hvW 0
  have:(k:Int)=0:=by rw[<-k1];rfl
  have:k=0:=by lia
  subst this
  rw[hw0]at k2
  exact (Option.some.inj k2).symm
 have aL:mkO s.es (NZ s.W ws v (v.length-1)++v.drop (v.length-1))=some (lsay m ws v):=by
  obtain⟨k,k1,k2⟩:=Tw tb g hvW (v.length-1)
  have hlt:v.length-1<v.length:=by lia
  have hx:=Ci.mp hvW _ (List.getElem_mem hlt)
  obtain⟨x,hxe⟩:∃x:Nat,v[v.length-1]=(x:Int):=⟨(v[v.length-1]).toNat,by lia⟩
  obtain⟨row,y,y1,y2,y3⟩:=g.m k _ x k2 s!""
  have hd:v.drop (v.length-1)=[(x:Int)]:=by
   rw[List.drop_eq_getElem_cons hlt,hxe,show v.length-1+1=v.length by lia,List.drop_length]
  rw[hd,y3]
  have e:lsay m ws v=KG m (Fp ws (v.take (v.length-1))) (v.getD (v.length-1) 0):=by
   unfold lsay sayW
   rw[List.getD_eq_getElem?_getD,List.getElem?_map,List.getElem?_range hlt];rfl
  rw[e,k1,List.getD_eq_getElem?_getD,List.getElem?_eq_getElem hlt]
  show some y=some (KG m (k:Int) v[v.length-1])
  rw[hxe,Sx (by rw[show ((k:Int)).toNat=k by lia];exact y1) (by rw[show ((x:Int)).toNat=x by lia];exact y2)]
 have hv1:0<v.length-1:=by
  refine Nat.pos_of_ne_zero fun z=>?_
  rw[z,a0]at aL
  rw[List.drop_zero,List.nil_append,ht]at aL
  exact hne (Option.some.inj aL)
 exact⟨hvn,a0,aL,hv1⟩
theorem Gs_ {B:Nat}  (o:OkX none B s)   (hv:s.wr=some v)(hg:s.gs=some (m,ws)):(∀s',Tu s v m ws=(s',none)->OkX none B s'/\Kept s s'/\mu s'<mu s)/\∀s' x,Tu s v m ws=(s',some x)->WOk B s' x/\Kept s s':=by
 obtain⟨hG,hE,hvW,hvl,m',ws',t,e1,g,ht,hne⟩:=o.wr v hv
 rw[hg]at e1
 cases e1
 have tb:=o.tb
 have hw0:=tb.w0
 obtain⟨hvn,a0,aL,hv1⟩:=Y7 o g hvW ht hne
 have hv0:0<v.length:=by lia
 have key:=Bi_ tb g hvW (mk:=lsay m ws v) v.length 0 (v.length-1) s!"" hv1 s!"" ⟨t,by rw[a0];exact ht,hne⟩ aL
 unfold Tu
 cases hh:Nd s.es s.W ws v (lsay m ws v) v.length 0 (v.length-1) with
 |ask c=>
  rw[hh]at key
  obtain⟨k1,i,hi,rfl⟩:=key
  refine⟨fun s' z=>(by cases z),fun s' x z=>?_⟩
  cases z
  obtain⟨k,q1,q2⟩:=Tw tb g hvW i
  have q3:=tb.wW _ (List.mem_of_getElem? q2)
  have q4:=tb.wn
  refine⟨⟨⟨tb,fun c hc=>?_,o.gn,o.gW,o.le,o.lb,o.ne,o.wr⟩,k1,⟨Ci.mpr fun y hy=>?_,fun z=>?_⟩,?_,by rw[hG];simp⟩,⟨rfl,rfl,rfl⟩⟩
  ·rcases o.cov c hc with z|z|z
   ·exact .inl z
   ·exact .inr (.inl z)
   ·cases z
  ·rcases List.mem_append.mp hy with hy|hy
   ·exact Ci.mp q3.1 y hy
   ·exact Ci.mp hvW y (List.mem_of_mem_drop hy)
  ·have:=congrArg List.length (List.append_eq_nil_iff.mp z).2
   rw[List.length_drop]at this
   simp at this
   lia
  ·rw[hv,List.length_append,List.length_drop]
   simp only[Option.isSome_some,if_true]
   lia
 |fin hi=>
  rw[hh]at key
  obtain⟨h0,h1,⟨b,b1,b2⟩,h3⟩:=key
  refine⟨fun s' z=>?_,fun s' x z=>(by cases z)⟩
  cases z
  obtain⟨k,q1,q2⟩:=Tw tb g hvW (hi-1)
  obtain⟨k',q1',q2'⟩:=Tw tb g hvW hi
  have e1:hi-1+1=hi:=by lia
  obtain⟨tb',pend⟩:=tb.halved hE g hvW (i:=hi-1) s!"" q1 q2 b1 b2 (by rw[e1];exact q1') q2' (by rw[e1];exact h3)
  rw[e1]at tb' pend
  have hle:∀e∈s.E++[v.drop hi],(isW s.L e=true/\e ≠ [])/\e.length+(s.most+1)<=B+(s.most+1)*(s.E++[v.drop hi]).length:=fun e he=>by
   rw[List.length_append,List.length_singleton,Nat.mul_succ]
   rcases List.mem_append.mp he with he|he
   ·have:=o.le e he;exact⟨tb.eW e he,by lia⟩
   ·rw[List.mem_singleton.mp he,List.length_drop]
    exact⟨⟨Ci.mpr fun y hy=>Ci.mp hvW y (List.mem_of_mem_drop hy),fun z=>by have:=congrArg List.length z;rw[List.length_drop]at this;simp at this;lia⟩,by lia⟩
  obtain⟨c1,c2,c3⟩:=Bh_ (B:=B) (s:=s) (W:=s.W) (E:=s.E++[v.drop hi]) tb.wW tb.wn hle
  refine⟨⟨tb',c1,c2,c3,fun e he=>(hle e he).2,fun p hp=>?_,o.ne,fun v' z=>(by cases z)⟩,⟨rfl,rfl,rfl⟩,?_⟩
  ·have:=o.lb p hp
   rw[hv]at this
   simp only[Option.isSome_some,if_true]at this
   show p.1.length<=B+(s.most+1)*(s.E++[v.drop hi]).length+0
   rw[List.length_append,List.length_singleton,Nat.mul_succ]
   lia
  ·unfold mu
   rw[hv]
   simp only[Option.isSome_some,if_true,Option.isSome_none,Bool.false_eq_true,if_false]
   rw[if_pos pend]
   lia
theorem Fp_ {B:Nat}  (o:OkX none B s)(hG:s.G=[])(hw:s.wr=none):(∀s',KJ s=(s',none)->OkX none B s'/\Kept s s'/\mu s'<mu s)/\∀s' x,KJ s=(s',some x)->WOk B s' x/\Kept s s':=by
 have tb:=o.tb
 have full:=o.full hG
 have hlb:∀p∈s.es,p.1.length<=B+(s.most+1)*s.E.length:=fun p hp=>by
  have:=o.lb p hp
  rw[hw]at this
  exact this
 unfold KJ
 cases hst:M5 s.L s.W s.E s.es with
 |some r=>
  obtain⟨⟨r1,r2,r3,r4⟩,more⟩:=tb.more full hst
  have rap:∀u∈s.W,RO s.E s.es r u:=fun u hu=>by
   have h2:=List.find?_some hst
   have h2:gOf s.E s.es r∉s.W.map (gOf s.E s.es):=of_decide_eq_true h2
   exact (OM full r1 (C8.mpr (.inl hu))).mp fun z=>h2 (by rw[z];exact List.mem_map_of_mem hu)
  dsimp only
  by_cases hm:s.W.length=s.most
  ·rw[if_pos hm]
   refine⟨fun s' z=>(by cases z),fun s' x z=>?_⟩
   cases z
   exact⟨⟨o,hG,hw,hm,r1,r2,r3,r4,rap⟩,⟨rfl,rfl,rfl⟩⟩
  ·rw[if_neg hm]
   refine⟨fun s' z=>?_,fun s' x z=>(by cases z)⟩
   cases z
   have hlt:s.W.length<s.most:=by have:=tb.wn;lia
   have tb':=more hlt
   obtain⟨c1,c2,c3⟩:=Bh_ (B:=B) (s:=s) (W:=s.W++[r]) (E:=s.E) tb'.wW tb'.wn (fun e he=>⟨tb.eW e he,o.le e he⟩)
   refine⟨⟨tb',c1,c2,c3,o.le,o.lb,o.ne,fun v z=>?_⟩,⟨rfl,rfl,rfl⟩,?_⟩
   ·rw[show s.wr=some v from z]at hw;cases hw
   ·unfold mu
    show 4*(s.most-(s.W++[r]).length)+(if s.wr.isSome then 2 else _)<_
    rw[List.length_append,List.length_singleton,hw]
    simp only[Option.isSome_none,Bool.false_eq_true,if_false]
    split<;>split<;>lia
 |none=>
  obtain⟨np,cl⟩:=tb.none full hst
  have g:GuessOk s.L s.W s.E s.es (HV s.L s.W s.E s.es) (Nb s.L s.W s.E s.es):=tb.guess full cl
  have hEW:s.E.length+1<=s.W.length+s.L:=by
   rcases tb.jj with h|h
   ·exact h
   ·exact absurd h.2 np
  dsimp only
  cases hf:Gi s.es (HV s.L s.W s.E s.es) (Nb s.L s.W s.E s.es) with
  |none=>
   refine⟨fun s' z=>(by cases z),fun s' x z=>?_⟩
   cases z
   refine⟨⟨⟨tb,o.cov,o.gn,o.gW,o.le,fun p hp=>by have:=hlb p hp;exact this,o.ne,fun v z=>(by cases z)⟩,hG,rfl,rfl,g,fun p hp=>?_⟩,⟨rfl,rfl,rfl⟩⟩
   unfold Gi at hf
   rw[Option.map_eq_none_iff,List.find?_eq_none]at hf
   have:=hf p hp
   simpa using this
  |some v=>
   refine⟨fun s' z=>?_,fun s' x z=>(by cases z)⟩
   cases z
   unfold Gi at hf
   cases hfd:s.es.find? (fun e=>decide (lsay (HV s.L s.W s.E s.es) (Nb s.L s.W s.E s.es) e.1≠e.2)) with
   |none=>rw[hfd]at hf;cases hf
   |some e=>
    rw[hfd]at hf
    cases hf
    have h1:=List.mem_of_find?_eq_some hfd
    have h2:=List.find?_some hfd
    have h2:lsay (HV s.L s.W s.E s.es) (Nb s.L s.W s.E s.es) e.1≠e.2:=of_decide_eq_true h2
    refine⟨⟨tb,o.cov,o.gn,o.gW,o.le,fun p hp=>by have:=hlb p hp;show p.1.length<=B+(s.most+1)*s.E.length+s.most;lia,o.ne,fun v z=>?_⟩,⟨rfl,rfl,rfl⟩,?_⟩
    ·cases z
     exact⟨hG,hEW,(tb.bW e h1).1,hlb e h1,_,_,e.2,rfl,g,M4 tb.nd h1,Ne.symm h2⟩
    ·unfold mu
     rw[hw]
     simp only[Option.isSome_some,if_true,Option.isSome_none,Bool.false_eq_true,if_false]
     rw[if_neg np]
     lia
theorem WY {B:Nat}  (o:OkX none B s):(∀s',Gp s=(s',none)->OkX none B s'/\Kept s s'/\mu s'<mu s)/\∀s' x,Gp s=(s',some x)->WOk B s' x/\Kept s s':=by
 unfold Gp
 cases hG:s.G with
 |cons c r=>
  refine⟨fun s' z=>(by cases z),fun s' x z=>?_⟩
  cases z
  have hwr:s.wr=none:=by
   cases h:s.wr with
   |none=>rfl
   |some v=>have:=(o.wr v h).1;rw[hG]at this;cases this
  have gn:=o.gn
  rw[hG,List.nodup_cons]at gn
  have hc:=o.gW c (by rw[hG];exact List.mem_cons_self ..)
  refine⟨⟨⟨o.tb,fun b hb=>?_,gn.2,fun b hb=>o.gW b (by rw[hG];exact List.mem_cons_of_mem _ hb),o.le,o.lb,o.ne,fun v z=>?_⟩,hc.2.1,hc.1,by have:=hc.2.2;show c.length<=B+(s.most+1)*s.E.length+(if s.wr.isSome=true then s.most else 0);lia,gn.1⟩,⟨rfl,rfl,rfl⟩⟩
  ·rcases o.cov b hb with z|z|z
   ·exact .inl z
   ·rw[hG]at z
    rcases List.mem_cons.mp z with rfl|z
    ·exact .inr (.inr rfl)
    ·exact .inr (.inl z)
   ·cases z
  ·rw[show s.wr=some v from z]at hwr;cases hwr
 |nil=>
  cases hw:s.wr with
  |none=>exact Fp_ o hG hw
  |some v=>
   obtain⟨_,_,_,_,m,ws,t,e1,_⟩:=o.wr v hw
   rw[e1]
   exact Gs_ o hw e1
noncomputable def afl (wv:V)(L most:Int)(b pw pe pg:Addr)(gv rv:V):List (Str×V):=[("wish",wv),("letters",.int L),("most",.int most),("book",.ref b),("ways",.ref pw),("ends",.ref pe),("gaps",.ref pg),("guess",gv),("wrong",rv)]
section
variable (wv:V) (L most:Int) (b pw pe pg:Addr) (gv rv y:V)
theorem N0:(afl wv L most b pw pe pg gv rv).lookup ("wish" : Str)=some wv:=by kernel_rfl
theorem Il:(afl wv L most b pw pe pg gv rv).lookup ("letters" : Str)=some (.int L):=by kernel_rfl
theorem IM_:(afl wv L most b pw pe pg gv rv).lookup ("most" : Str)=some (.int most):=by kernel_rfl
theorem Ke:(afl wv L most b pw pe pg gv rv).lookup ("book" : Str)=some (.ref b):=by kernel_rfl
theorem Kf:(afl wv L most b pw pe pg gv rv).lookup ("ways" : Str)=some (.ref pw):=by kernel_rfl
theorem Qf:(afl wv L most b pw pe pg gv rv).lookup ("ends" : Str)=some (.ref pe):=by kernel_rfl
theorem Fq_:(afl wv L most b pw pe pg gv rv).lookup ("gaps" : Str)=some (.ref pg):=by kernel_rfl
theorem SF:(afl wv L most b pw pe pg gv rv).lookup ("guess" : Str)=some gv:=by kernel_rfl
theorem M6:(afl wv L most b pw pe pg gv rv).lookup ("wrong" : Str)=some rv:=by kernel_rfl
theorem Cw_:putF "wish" y (afl wv L most b pw pe pg gv rv)=afl y L most b pw pe pg gv rv:=by kernel_rfl
theorem Gt_ (q:Addr):putF "gaps" (.ref q) (afl wv L most b pw pe pg gv rv)=afl wv L most b pw pe q gv rv:=by kernel_rfl
theorem Fr_:putF "guess" y (afl wv L most b pw pe pg gv rv)=afl wv L most b pw pe pg y rv:=by kernel_rfl
theorem Tx:putF "wrong" y (afl wv L most b pw pe pg gv rv)=afl wv L most b pw pe pg gv y:=by kernel_rfl
theorem Gu_:putF "wrong" .non (putF "guess" .non (putF "gaps" (.ref pg) (putF "ends" (.ref pe) (putF "ways" (.ref pw) (putF "book" (.ref b) (putF "most" (.int most) (putF "letters" (.int L) (putF "wish" .non []))))))))=afl .non L most b pw pe pg .non .non:=by kernel_rfl
end
structure AD where
 dx:Addr
 b:Addr
 d:Addr
 pw:Addr
 pe:Addr
 pg:Addr
noncomputable def HouT (K:PySem.W.Frag)(H:Hp)(h:Addr)(L:Int)(m:List (List Int))(ws:List (List Int)):Prop:=∃tm tw us zs,H h=some (.tup [.int L,.ref tm,.ref tw])/\H tm=some (.tup us)/\Au K H us m/\H tw=some (.tup zs)/\Au K H zs ws
theorem HouT.mono {K:PySem.W.Frag}      (x:HouT K H h L m ws)(k:TK H H'):HouT K H' h L m ws:=by
 obtain⟨tm,tw,us,zs,a,b,c,d,e⟩:=x
 exact⟨tm,tw,us,zs,k _ _ a,k _ _ b,c.mono k,k _ _ d,e.mono k⟩
theorem Au.rows39 {K:PySem.W.Frag}     (h:Au K H zs ws)(hw:SqT K H t zs):Rows K H t ws:=by
 refine⟨zs.map (fun v=>match v with | .ref t=>t|_=>0),?_,by rw[List.length_map];exact h.1,fun i t r hi hr=>?_⟩
 ·have e:(zs.map (fun v=>match v with | .ref t=>t|_=>0)).map V.ref=zs:=by
   rw[List.map_map]
   refine List.ext_getElem? fun i=>?_
   rw[List.getElem?_map]
   by_cases hi:i<ws.length
   ·obtain⟨t,a,_⟩:=h.2 i ws[i] (by simp[hi])
    rw[a];rfl
   ·rw[List.getElem?_eq_none (by rw[h.1];lia)];rfl
  rw[e];exact hw
 ·obtain⟨t',a,b⟩:=h.2 i r hr
  rw[List.getElem?_map,a]at hi
  cases hi
  exact SqT.of b
theorem HouT.house {K:PySem.W.Frag}      (x:HouT K H h L m ws):U8 K H h L m ws:=by
 obtain⟨tm,tw,us,zs,a,b,c,d,e⟩:=x
 exact⟨tm,tw,SqT.of a,Au.rows39 c (SqT.of b),Au.rows39 e (SqT.of d)⟩
noncomputable def GV (K:PySem.W.Frag)(H:Hp)(L:Int)(gv:V):Option (List (List Int)×List (List Int))->Prop
 |none=>gv=.non
 |some (m,ws)=>∃h,gv=.ref h/\HouT K H h L m ws
noncomputable def RV (H:Hp)(rv:V):Option (List Int)->Prop
 |none=>rv=.non
 |some v=>∃t,rv=.ref t/\H t=some (.tup (v.map V.int))
theorem GV.mono {K:PySem.W.Frag}     (x:GV K H L gv o)(k:TK H H'):GV K H' L gv o:=by
 match o,x with
 |none,x=>exact x
 |some (m,ws),⟨h,a,b⟩=>exact⟨h,a,b.mono k⟩
theorem RV.mono    (x:RV H rv o)(k:TK H H'):RV H' rv o:=by
 match o,x with
 |none,x=>exact x
 |some v,⟨t,a,b⟩=>exact⟨t,a,k _ _ b⟩
noncomputable def Wish.tag:Wish->Str
 |.ask _ => "ask"
 |.shown _ _ => "show"
 |.done _ _ => "done"
 |.spent _ => "spent"
noncomputable def KL_ (K:PySem.W.Frag)(H:Hp)(L:Int)(u:Addr):Wish->Prop
 |.ask c=>H u=some (.tup (c.map V.int))
 |.shown m ws=>HouT K H u L m ws
 |.done m ws=>HouT K H u L m ws
 |.spent c=>H u=some (.tup (c.map V.int))
noncomputable def Cg (K:PySem.W.Frag)(H:Hp)(L:Int)(wv:V)(x:Wish):Prop:=∃t u,wv=.ref t/\H t=some (.tup [.str x.tag,.ref u])/\KL_ K H L u x
theorem Cg.mono {K:PySem.W.Frag}   {wv:V}  (h:Cg K H L wv x)(k:TK H H'):Cg K H' L wv x:=by
 obtain⟨t,u,a,b,c⟩:=h
 refine⟨t,u,a,k _ _ b,?_⟩
 cases x with
 |ask c'=>exact k _ _ c
 |spent c'=>exact k _ _ c
 |shown m ws=>exact HouT.mono c k
 |done m ws=>exact HouT.mono c k
structure AskAt (K:PySem.W.Frag)(CA CB:Addr)(H:Hp)(a:Addr)(ad:AD)(s:AS)(wv gv rv:V)(zs ys us:List V):Prop where
 ob:H a=some (.ins CA ad.dx (afl wv s.L s.most ad.b ad.pw ad.pe ad.pg gv rv))
 bk:BookAt CB H ad.b ad.d s.L s.es
 w:H ad.pw=some (.lst zs)
 wW:Au K H zs s.W
 e:H ad.pe=some (.lst ys)
 eW:Au K H ys s.E
 g:H ad.pg=some (.lst us)
 gW:Au K H us s.G
 we:ad.pw≠ad.pe
 wg:ad.pw≠ad.pg
 eg:ad.pe≠ad.pg
 gv:GV K H s.L gv s.gs
 rv:RV H rv s.wr
noncomputable def Asks (K:PySem.W.Frag)(CA CB:Addr)(H:Hp)(a:Addr)(ad:AD)(s:AS)(wv:V):Prop:=∃gv rv zs ys us,AskAt K CA CB H a ad s wv gv rv zs ys us
theorem BookAt.tk      (h:BookAt C H p d L es)(hp:∀o,H p=some o->H' p=some o)(hd:∀o,H d=some o->H' d=some o):BookAt C H' p d L es:=by
 obtain⟨⟨dx,a⟩,b,c⟩:=h
 exact⟨⟨dx,hp _ a⟩,hd _ b,c⟩
noncomputable def Frm (H H':Hp)(a:Addr)(ad:AD):Prop:=(∀x o,H x=some o->x≠a->x≠ad.d->x≠ad.pw->x≠ad.pe->x≠ad.pg->H' x=some o)/\∀x,H' x=none->H x=none
noncomputable def AdOk (H:Hp)(ad ad':AD):Prop:=ad'.dx=ad.dx/\ad'.b=ad.b/\ad'.d=ad.d/\ad'.pw=ad.pw/\ad'.pe=ad.pe/\(ad'.pg=ad.pg\/H ad'.pg=none)
theorem AdOk.refl (H:Hp)(ad:AD):AdOk H ad ad:=⟨rfl,rfl,rfl,rfl,rfl,.inl rfl⟩
theorem Frm.of  (s:Same H H')(a:Addr)(ad:AD):Frm H H' a ad:=⟨fun x o h _ _ _ _ _=>s _ _ h,fun x h=>s.none h⟩
theorem Frm.trans {H H1 H2:Hp}  {ad ad1:AD}(f:Frm H H1 a ad)(k:AdOk H ad ad1)(g:Frm H1 H2 a ad1):Frm H H2 a ad:=by
 obtain⟨k1,k2,k3,k4,k5,k6⟩:=k
 refine⟨fun x o h n1 n2 n3 n4 n5=>g.1 x o (f.1 x o h n1 n2 n3 n4 n5) n1 (by rw[k3];exact n2) (by rw[k4];exact n3) (by rw[k5];exact n4) (fun z=>?_),fun x h=>f.2 x (g.2 x h)⟩
 rcases k6 with k6|k6
 ·exact n5 (z.trans k6)
 ·rw[z,k6]at h;cases h
theorem AdOk.trans {H H1:Hp}  {ad ad1 ad2:AD}(f:Frm H H1 a ad)(k:AdOk H ad ad1)(g:AdOk H1 ad1 ad2):AdOk H ad ad2:=by
 obtain⟨k1,k2,k3,k4,k5,k6⟩:=k
 obtain⟨g1,g2,g3,g4,g5,g6⟩:=g
 refine⟨g1.trans k1,g2.trans k2,g3.trans k3,g4.trans k4,g5.trans k5,?_⟩
 rcases g6 with g6|g6
 ·rw[g6];exact k6
 ·exact .inr (f.2 _ g6)
section
variable {K:PySem.W.Frag} {CA CB:Addr} {H H':Hp} {a:Addr} {ad:AD} {s:AS} {wv gv rv:V} {zs ys us:List V}
theorem AskAt.same (x:AskAt K CA CB H a ad s wv gv rv zs ys us)(k:Same H H'):AskAt K CA CB H' a ad s wv gv rv zs ys us:=
 ⟨k _ _ x.ob,x.bk.mono k,k _ _ x.w,x.wW.mono (TK.of k),k _ _ x.e,x.eW.mono (TK.of k),k _ _ x.g,x.gW.mono (TK.of k),x.we,x.wg,x.eg,x.gv.mono (TK.of k),x.rv.mono (TK.of k)⟩
theorem AskAt.tkob (x:AskAt K CA CB H a ad s wv gv rv zs ys us)(o:HO):TK H (upd H a o):=fun t ts h=>by rw[Ah (fun z=>by rw[z,x.ob]at h;cases h)];exact h
theorem AskAt.na (x:AskAt K CA CB H a ad s wv gv rv zs ys us):ad.pw≠a/\ad.pe≠a/\ad.pg≠a/\ad.d≠a/\ad.b≠ad.d/\ad.pw≠ad.d/\ad.pe≠ad.d/\ad.pg≠ad.d/\ad.b≠ad.pw/\ad.b≠ad.pe/\ad.b≠ad.pg:=by
 obtain⟨dx,hb⟩:=x.bk.ob
 refine⟨fun z=>?_,fun z=>?_,fun z=>?_,fun z=>?_,fun z=>?_,fun z=>?_,fun z=>?_,fun z=>?_,fun z=>?_,fun z=>?_,fun z=>?_⟩
 ·have:=x.w;rw[z,x.ob]at this;cases this
 ·have:=x.e;rw[z,x.ob]at this;cases this
 ·have:=x.g;rw[z,x.ob]at this;cases this
 ·have:=x.bk.dc;rw[z,x.ob]at this;cases this
 ·rw[z,x.bk.dc]at hb;cases hb
 ·have:=x.w;rw[z,x.bk.dc]at this;cases this
 ·have:=x.e;rw[z,x.bk.dc]at this;cases this
 ·have:=x.g;rw[z,x.bk.dc]at this;cases this
 ·rw[z,x.w]at hb;cases hb
 ·rw[z,x.e]at hb;cases hb
 ·rw[z,x.g]at hb;cases hb
theorem AskAt.nb (x:AskAt K CA CB H a ad s wv gv rv zs ys us):ad.b≠a:=fun z=>by
 obtain⟨dx,hb⟩:=x.bk.ob
 rw[z,x.ob]at hb
 injection hb with hb
 injection hb with _ _ hb
 have h1:=congrArg (fun l=>List.lookup ("wish" : Str) l) hb
 rw[N0,He _ _ (by decide +kernel) (by decide +kernel)]at h1
 cases h1
theorem AskAt.put (x:AskAt K CA CB H a ad s wv gv rv zs ys us)   (hL:s'.L=s.L)(hm:s'.most=s.most)(hW:s'.W=s.W)(hE:s'.E=s.E)(hG:s'.G=s.G)(hes:s'.es=s.es)(g':GV K H s'.L gv' s'.gs)(r':RV H rv' s'.wr):AskAt K CA CB (upd H a (.ins CA ad.dx (afl wv' s.L s.most ad.b ad.pw ad.pe ad.pg gv' rv'))) a ad s' wv' gv' rv' zs ys us:=by
 obtain⟨n1,n2,n3,n4,n5,n6,n7,n8,n9,n10,n11⟩:=x.na
 have tk:=x.tkob (.ins CA ad.dx (afl wv' s.L s.most ad.b ad.pw ad.pe ad.pg gv' rv'))
 exact⟨by rw[Ae,hL,hm],by rw[hL,hes];exact BookAt.tk x.bk (fun o h=>by rw[Ah x.nb];exact h) (fun o h=>by rw[Ah n4];exact h),by rw[Ah n1];exact x.w,by rw[hW];exact x.wW.mono tk,by rw[Ah n2];exact x.e,by rw[hE];exact x.eW.mono tk,by rw[Ah n3];exact x.g,by rw[hG];exact x.gW.mono tk,x.we,x.wg,x.eg,g'.mono tk,r'.mono tk⟩
theorem AskAt.putF (x:AskAt K CA CB H a ad s wv gv rv zs ys us)(o:HO):Frm H (upd H a o) a ad:=⟨fun y o' h n _ _ _ _=>by rw[Ah n];exact h,fun y h=>by
 by_cases z:y=a
 ·rw[z,Ae]at h;cases h
 ·rwa [Ah z]at h⟩
end
inductive Goes:AS->AS->Wish->Prop where
 | stop {s s':AS} {x:Wish}:Gp s=(s',some x)->Goes s s' x
 | more {s s1 s':AS} {x:Wish}:Gp s=(s1,none)->Goes s1 s' x->Goes s s' x
theorem Goes.ok {B:Nat}   (g:Goes s s' x)(o:OkX none B s):WOk B s' x/\Kept s s':=by
 induction g with
 |stop h=>exact (WY o).2 _ _ h
 |more h _ ih=>
  obtain⟨o1,k1,_⟩:=(WY o).1 _ h
  obtain⟨o2,k2⟩:=ih o1
  exact⟨o2,⟨k2.l.trans k1.l,k2.m.trans k1.m,k2.e.trans k1.e⟩⟩
structure Sz (s:AS):Prop where
 l6:s.L<=6
 w:s.W.length<=13/\∀v∈s.W,v.length<=50
 e:s.E.length<=20/\∀v∈s.E,v.length<=500
 b:∀p∈s.es,p.1.length<=600
theorem Wg (ys:List Int)(m:Nat):cutV (ys.map V.int) (some (m:Int)) none=(ys.drop m).map V.int:=by
 rw[Gb_]
 unfold cutI
 rw[HT.sIx_nat,HT.sIx_none]
 congr 1
 by_cases h:m<=ys.length
 ·rw[Nat.min_eq_left h,List.take_of_length_le (by rw[List.length_drop];lia)]
 ·rw[Nat.min_eq_right s!"",List.drop_length,List.drop_of_length_le s!"",List.take_nil]
theorem Fs_ (ws:List (List Int))(v:List Int)  (hi:i<=v.length):((S0 ws v).map V.int)[i]?=some (V.int (Fp ws (v.take i))):=by
 unfold S0
 rw[List.getElem?_map,List.getElem?_map,List.getElem?_range s!""];rfl
theorem Frm.seq {H H1 H2:Hp}  {ad:AD}(f:Frm H H1 a ad)(g:Frm H1 H2 a ad):Frm H H2 a ad:=f.trans (AdOk.refl H ad) g
noncomputable def Bd (B:Nat)(s:AS):Prop:=B+(s.most+1)*(s.most+s.L)+s.most<=500
theorem OkX.sz  {B:Nat}  (o:OkX y B s)(h:Bd B s):Sz s:=by
 have tb:=o.tb
 have h1:=tb.wn
 have h2:=tb.m12
 have h3:=tb.en
 have h4:=o.lens
 have h5:=tb.l6
 unfold Bd at h
 refine⟨tb.l6,⟨by lia,fun v hv=>by have:=(tb.wW v hv).2;lia⟩,⟨by lia,fun v hv=>by have:=o.le v hv;lia⟩,fun p hp=>?_⟩
 have:=o.lb p hp
 split at this<;>lia
theorem Qg (wv:V)(L most:Int)(b pw pe pg:Addr)(gv rv:V):(afl wv L most b pw pe pg gv rv).length<1000:=by unfold afl;simp
section
variable {K:PySem.W.Frag} {CA CB:Addr} {H H':Hp} {a:Addr} {ad:AD} {s:AS} {wv gv rv:V} {zs ys us:List V}
theorem AskAt.putW (x:AskAt K CA CB H a ad s wv gv rv zs ys us)   (h:Au K H zs' W'):AskAt K CA CB (upd H ad.pw (.lst zs')) a ad {s with W:=W' } wv gv rv zs' ys us:=by
 obtain⟨n1,n2,n3,n4,n5,n6,n7,n8,n9,n10,n11⟩:=x.na
 have tk:=TK.lst x.w (o:=.lst zs')
 exact⟨by rw[Ah (Ne.symm n1)];exact x.ob,BookAt.tk x.bk (fun o h=>by rw[Ah n9];exact h) (fun o h=>by rw[Ah (Ne.symm n6)];exact h),Ae,h.mono tk,by rw[Ah (Ne.symm x.we)];exact x.e,x.eW.mono tk,by rw[Ah (Ne.symm x.wg)];exact x.g,x.gW.mono tk,x.we,x.wg,x.eg,x.gv.mono tk,x.rv.mono tk⟩
theorem AskAt.putE (x:AskAt K CA CB H a ad s wv gv rv zs ys us)   (h:Au K H ys' E'):AskAt K CA CB (upd H ad.pe (.lst ys')) a ad {s with E:=E' } wv gv rv zs ys' us:=by
 obtain⟨n1,n2,n3,n4,n5,n6,n7,n8,n9,n10,n11⟩:=x.na
 have tk:=TK.lst x.e (o:=.lst ys')
 exact⟨by rw[Ah (Ne.symm n2)];exact x.ob,BookAt.tk x.bk (fun o h=>by rw[Ah n10];exact h) (fun o h=>by rw[Ah (Ne.symm n7)];exact h),by rw[Ah x.we];exact x.w,x.wW.mono tk,Ae,h.mono tk,by rw[Ah (Ne.symm x.eg)];exact x.g,x.gW.mono tk,x.we,x.wg,x.eg,x.gv.mono tk,x.rv.mono tk⟩
theorem AskAt.putG (x:AskAt K CA CB H a ad s wv gv rv zs ys us)   (h:Au K H us' G'):AskAt K CA CB (upd H ad.pg (.lst us')) a ad {s with G:=G' } wv gv rv zs ys us':=by
 obtain⟨n1,n2,n3,n4,n5,n6,n7,n8,n9,n10,n11⟩:=x.na
 have tk:=TK.lst x.g (o:=.lst us')
 exact⟨by rw[Ah (Ne.symm n3)];exact x.ob,BookAt.tk x.bk (fun o h=>by rw[Ah n11];exact h) (fun o h=>by rw[Ah (Ne.symm n8)];exact h),by rw[Ah x.wg];exact x.w,x.wW.mono tk,by rw[Ah x.eg];exact x.e,x.eW.mono tk,Ae,h.mono tk,x.we,x.wg,x.eg,x.gv.mono tk,x.rv.mono tk⟩
theorem Frm.put   (h:q=ad.pw\/q=ad.pe\/q=ad.pg\/q=ad.d)(hq:∃o,H q=some o):Frm H (upd H q o) a ad:=by
 refine⟨fun y o' hy n1 n2 n3 n4 n5=>?_,fun y hy=>?_⟩
 ·rw[Ah (fun z=>by rcases h with h|h|h|h<;>subst h<;>contradiction)];exact hy
 ·by_cases z:y=q
  ·rw[z,Ae]at hy;cases hy
  ·rwa [Ah z]at hy
end
theorem Kr_ {i n:Nat}(h:i<n):seqIndex? (i:Int) n=some i:=by
 unfold seqIndex?
 simp[show ¬ (i:Int)<0 by lia,h]
theorem Au.tail39 {K:PySem.W.Frag}     (h:Au K H us (c::r)):Au K H (us.eraseIdx 0) r:=by
 cases us with
 |nil=>have:=h.1;cases this
 |cons u us=>
  refine⟨?_,fun i w hi=>?_⟩
  ·have:=h.1
   simpa using this
  ·exact h.2 (i+1) w (by simpa using hi)
theorem Dm_    (h:mkO es b=none)(hb:b≠c):mkO (es++[(c,m)]) b=none:=by
 refine SE fun z=>?_
 rw[List.map_append]at z
 rcases List.mem_append.mp z with z|z
 ·obtain⟨n,hn⟩:=Bg_.mp z
  rw[h]at hn;cases hn
 ·exact hb (List.mem_singleton.mp z)
theorem OkX.told  {B:Nat}  (o:OkX y B s)   (hy:∀b,y=some b->b=c)(hn:c∉s.es.map (·.1))(hc:isW s.L c=true/\c ≠ [])(h0:0<=m)(h9:m<=1000000000)(hl:c.length<=B+(s.most+1)*s.E.length+(if s.wr.isSome then s.most else 0))(hg:c∉s.G):OkX none B {s with es:=s.es++[(c,m)]}:=by
 have gr:=Grow.snoc s.es c m
 refine⟨o.tb.put hn hc.1 h0 h9,fun b hb=>?_,o.gn,fun b hb=>?_,o.le,fun p hp=>?_,fun p hp=>?_,fun v hv=>?_⟩
 ·rcases o.cov b hb with ⟨z,hz⟩|z|z
  ·exact .inl ⟨z,gr _ _ hz⟩
  ·exact .inr (.inl z)
  ·have:=hy b z
   subst this
   exact .inl ⟨m,M4 (o.tb.put hn hc.1 h0 h9).nd (by simp)⟩
 ·obtain⟨h1,h2,h3⟩:=o.gW b hb
  exact⟨h1,Dm_ h2 (fun z=>hg (z ▸ hb)),h3⟩
 ·rcases List.mem_append.mp hp with hp|hp
  ·exact o.lb p hp
  ·rw[List.mem_singleton.mp hp];exact hl
 ·rcases List.mem_append.mp hp with hp|hp
  ·exact o.ne p hp
  ·rw[List.mem_singleton.mp hp];exact hc.2
 ·obtain⟨h1,h2,h3,h4,mm,ws,t,h5,h6,h7,h8⟩:=o.wr v hv
  exact⟨h1,h2,h3,h4,mm,ws,t,h5,h6.mono gr,gr _ _ h7,h8⟩
section
variable {K:PySem.W.Frag} {CA CB:Addr} {H H':Hp} {a:Addr} {ad:AD} {s:AS} {wv gv rv:V} {zs ys us:List V}
theorem AskAt.putB (x:AskAt K CA CB H a ad s wv gv rv zs ys us)  (hb:BookAt CB H' ad.b ad.d s.L es')(hf:∀b o,H b=some o->b≠ad.d->H' b=some o):AskAt K CA CB H' a ad {s with es:=es' } wv gv rv zs ys us/\Frm H H' a ad/\TK H H':=by
 obtain⟨n1,n2,n3,n4,n5,n6,n7,n8,n9,n10,n11⟩:=x.na
 have tk:TK H H':=fun t ts h=>hf t _ h (fun z=>by rw[z,x.bk.dc]at h;cases h)
 refine⟨⟨hf _ _ x.ob (Ne.symm n4),hb,hf _ _ x.w n6,x.wW.mono tk,hf _ _ x.e n7,x.eW.mono tk,hf _ _ x.g n8,x.gW.mono tk,x.we,x.wg,x.eg,x.gv.mono tk,x.rv.mono tk⟩,⟨fun y o h _ n _ _ _=>hf _ _ h n,fun y h=>?_⟩,tk⟩
 cases hy:H y with
 |none=>rfl
 |some o=>
  by_cases z:y=ad.d
  ·rw[z,hb.dc]at h;cases h
  ·rw[hf _ _ hy z]at h;cases h
end
noncomputable def fE57 (L:Nat):List (List Int):=(List.range L).map fun x:Nat=>[(x:Int)]
noncomputable def s039 (L most:Nat):AS:={L:=L,most:=most,W:=[[]],E:=fE57 L,G:=ON L [[]] (fE57 L) [],gs:=none,wr:=none,es:=[]}
theorem Ft_  (B:Nat)(b1:1<=B)(l1:1<=L)(l6:L<=6)(m1:1<=most)(m12:most<=12):OkX none B (s039 L most):=by
 have hw:∀v ∈ [([]:List Int)],isW (L:Int) v=true/\v.length < [([]:List Int)].length:=fun v hv=>by
  rw[List.mem_singleton.mp hv];exact⟨Ci.mpr fun x hx=>(by cases hx),by simp⟩
 have hEl:(fE57 L).length=L:=by unfold fE57;rw[List.length_map,List.length_range]
 have hE:∀e∈fE57 L,(isW (L:Int) e=true/\e ≠ [])/\e.length+(most+1)<=B+(most+1)*(fE57 L).length:=fun v hv=>by
  obtain⟨x,hx,rfl⟩:=List.mem_map.mp hv
  have hx:=List.mem_range.mp hx
  have hm:(most+1)*1<=(most+1)*(fE57 L).length:=Nat.mul_le_mul_left _ s!""
  refine⟨⟨Ci.mpr fun y hy=>?_,by simp⟩,?_⟩
  ·rw[List.mem_singleton.mp hy];lia
  ·rw[List.length_singleton];lia
 obtain⟨c1,c2,c3⟩:=Bh_ (B:=B) (s:=s039 L most) (W:=[[]]) (E:=fE57 L) hw (by show 1<=most;lia) hE
 refine⟨⟨l1,l6,m12,rfl,hw,by show 1<=most;lia,List.take_of_length_le (by show (fE57 L).length<=L;lia),fun e he=>(hE e he).1,List.nodup_nil,fun p hp=>(by cases hp),fun i j v u h1 h2 h3=>?_,.inl (by show (fE57 L).length+1<=1+L;lia)⟩,c1,c2,c3,fun e he=>(hE e he).2,fun p hp=>(by cases hp),fun p hp=>(by cases hp),fun v hv=>(by cases hv)⟩
 have h1:=(List.getElem?_eq_some_iff.mp h1).1
 have h2:=(List.getElem?_eq_some_iff.mp h2).1
 have h1:i<1:=h1
 have h2:j<1:=h2
 lia
noncomputable def Tz (marks ways:List (List Int))(tr:List Int×Int):Bool:=decide (lsay marks ways tr.1≠tr.2)
noncomputable def LF (K:PySem.W.Frag)(fm:Addr):Sp:=fun vs H Q _=>∃(l h:Addr) (L:Int) (marks ways:List (List Int)) (rs:List V) (es:List (List Int×Int)),vs=[.ref l,.ref fm,.ref h]/\SqL K H l rs/\G0 H rs es/\U8 K H h L marks ways/\WfS L marks ways/\(∀e∈es,(isW L e.1=true/\e.1 ≠ [])/\e.1.length<=600) /\
 ∀H',Same H H'->((∀e∈es,Tz marks ways e=false)->Q .non H')/\∀(i:Nat) (e:List Int×Int) (t:Addr),(∀j,j<i->∀e',es[j]?=some e'->Tz marks ways e'=false)->es[i]?=some e->Tz marks ways e=true->H' t=some (.tup (e.1.map V.int))->Q (.ref t) H'
theorem TB   (F:Fun K "first_unlike" "first_unlike" DH f fd)(T:Txt mg)
  (W:Own K mg C_j7 C_j9 C_jj C_ja C_j1 C_j4)
  (Z:Exs K mg C_j8 C_j5 C_j6 C_j3 C_j2 C_j0)
   (EW:FnOk P w K mg base (CXe P w) 5 BF D7 ["house","word"] (Ja K C_j5)) (DL:Fun K "last_said" "last_said" Eg BF D7) (EX:Ap K D7 ["house","word"] []) (EY:mg "last_said"=some (.ref BF))
  : FnOk P w K mg base CX0 6 f fd ["heard","answer","house"] (LF K BF):=by
 refine F.ok ID (fun vs H Q E h=>?_) (fun cdv A outer s H vs Q E hr h=>?_)
 ·obtain⟨l,h,L,marks,ways,rs,es,rfl,_⟩:=h;rfl
 ·obtain⟨l,h,L,marks,ways,rs,es,rfl,hl1,ht,hh,wf,hes,k⟩:=h
  refine⟨_,(Ad (Hl PassesOwn.never rfl (Gq (pvD 0)) (DP_ rfl (MW (B4 (i:=3) ID.nd rfl (Or.inl rfl)) (MW (B4 (i:=4) ID.nd rfl (Or.inl rfl)) AH_)))
   (Ac (Cv (ptT (Az (opN IZ) (Gk_ 1 EW (hr.mono (by decide)) DL.kp EX .nil (PZ (P:=P) (w:=w)) (Aa (pvD 2) (Aa (pvD 3) Af))) (pvD 4) (Bh _)))
   (Ac (As (pvD 3)))
   AR)))
   (Ac (As F3))),?_⟩
  walk_at "rd"
  refine⟨⟨_,hl1⟩,?_⟩
  obtain⟨Pv,hPv⟩:∃Pv:Nat->St->Hp->Prop,∀i σ' H',Pv i σ' H'↔(Same H H'/\(∀j,j<i->∀e,es[j]?=some e->Tz marks ways e=false)/\∃o o',σ'=[some (.ref l),some (.ref BF),some (.ref h),o,o']):=⟨_,fun _ _ _=>Iff.rfl⟩
  refine forL (xs:=rs) Pv ((hPv _ _ _).mpr ⟨Same.refl _,fun j hj=>absurd hj (Nat.not_lt_zero _),none,none,rfl⟩) (fun i σ2 H2 _ h2=>((hPv _ _ _).mp h2).1.seq hl1) (fun i x σ2 H2 hx h2=>?_) (fun σ2 H2 h2=>?_)
  ·obtain⟨s2,hall,o,o',rfl⟩:=(hPv _ _ _).mp h2
   have hi:i<es.length:=by rw[<-ht.1];exact (List.getElem?_eq_some_iff.mp hx).1
   have hei:es[i]?=some es[i]:=by simp[hi]
   obtain⟨t,wt,e1,e2,e3⟩:=ht.2 i _ hei
   rw[hx]at e1
   cases e1
   have hok:=hes _ (List.mem_of_getElem? hei)
   generalize es[i]=e at hei e2 e3 hok
   walk_at "rd"
   refine⟨_,SqT.of (s2 _ _ e2),rfl,_,_,rfl,_,_,rfl,rfl,h,wt,L,marks,ways,e.1,rfl,hh.mono s2,wf,SqT.of (s2 _ _ e3),hok.2,fun _ hne H3 x s3 hx3=>?_,fun z=>by rcases z with z|z;(rw[hok.1.1]at z;cases z);exact absurd z hok.1.2⟩
   have hlx:x=lsay marks ways e.1:=by
    unfold lsay
    rw[List.getD_eq_getElem?_getD,hx3];rfl
   subst hlx
   refine⟨rfl,?_⟩
   by_cases hw:lsay marks ways e.1=e.2
   ·rw[if_neg (by rw[hw];simp)]
    refine (hPv _ _ _).mpr ⟨s2.trans s3,fun j hj e' hj'=>?_,_,_,rfl⟩
    by_cases hji:j<i
    ·exact hall j hji e' hj'
    ·have ej:j=i:=by lia
     subst ej
     rw[hei]at hj'
     cases hj'
     exact decide_eq_false fun z=>z hw
   ·rw[if_pos (by simp[hw])]
    exact (k _ (s2.trans s3)).2 i e wt hall hei (decide_eq_true hw) ((s2.trans s3) _ _ e3)
  ·obtain⟨s2,hall,o,o',rfl⟩:=(hPv _ _ _).mp h2
   walk_at "rd"
   refine (k _ s2).1 fun e he=>?_
   obtain⟨j,hj,ej⟩:=List.getElem_of_mem he
   exact hall j (by rw[ht.1];exact hj) e (by rw[List.getElem?_eq_getElem hj,ej])
theorem Cx_ (f:Str)(v:V):∀fs:List (Str×V),(putF f v fs).length<=fs.length+1
 |[]=>by simp[putF]
 | (g,x)::r=>by
  unfold putF
  split
  ·simp
  ·have:=Cx_ f v r
   rw[List.length_cons,List.length_cons];lia
theorem Fu_   (hW:W.length<=100)(hL:L<=6)(hE:E.length<=100):(Kv (CN L W) E).length<=100000:=by
 unfold Kv
 have h1:=C6 ((CN L W).flatMap fun r=>E.map (r ++ ·)) []
 have h2:((CN L W).flatMap fun r=>E.map (r ++ ·)).length=(CN L W).length*E.length:=by
  rw[List.length_flatMap]
  generalize CN L W=l
  induction l with
  |nil=>simp
  |cons a l ih=>rw[List.map_cons,List.sum_cons,ih,List.length_map,List.length_cons,Nat.succ_mul];lia
 have h3:=Y5 L W
 have h4:W.length*L<=100*6:=Nat.mul_le_mul hW hL
 have h5:(CN L W).length*E.length<=700*100:=Nat.mul_le_mul s!"" hE
 rw[h2,List.length_nil]at h1
 lia
noncomputable def Cy_ (CA:Addr):Sp:=fun vs H Q _=>∃(a dx:Addr) (fs:List (Str×V)),vs=[.ref a]/\H a=some (.ins CA dx fs)/\fs.length<1000/\Q .non (upd H a (.ins CA dx (putF "wish" .non fs)))
theorem WZ   (F:Fun K "__init__" "Turns.__init__" EL f fd)(T:Txt mg)
  (W:Own K mg C_j7 C_j9 C_jj C_ja C_j1 C_j4)
  (Z:Exs K mg C_j8 C_j5 C_j6 C_j3 C_j2 C_j0)
  : FnOk P w K mg base CX0 1 f fd ["self"] (Cy_ C_j1):=by
 refine F.ok WM (fun vs H Q E h=>?_) (fun cdv A outer s H vs Q E hr h=>?_)
 ·obtain⟨a,dx,fs,rfl,_⟩:=h;rfl
 ·obtain⟨a,dx,fs,rfl,ha,hz,k⟩:=h
  refine⟨_,(Ac (F4 (pvD 0) F3 rfl)),?_⟩
  walk_at "rd"
  exact⟨_,_,_,ha,W.cl_j1,W.n_SayHunt_wish,hz,k⟩
noncomputable def Cz_ (CA:Addr):Sp:=fun vs H Q _=>∃(a dx b pw pe:Addr) (L most:Int),vs=[.ref a,.int L,.int most,.ref b,.ref pw,.ref pe]/\H a=some (.ins CA dx [])/\∀(pg:Addr) (H':Hp),H pg=none->H' a=some (.ins CA dx (afl .non L most b pw pe pg .non .non))->H' pg=some (.lst [])->(∀x o,H x=some o->x≠a->H' x=some o)->(∀x,H' x=none->H x=none)->Q .non H'
theorem Y8   (F:Fun K "__init__" "Hunt.__init__" FT f fd)(T:Txt mg)
  (W:Own K mg C_j7 C_j9 C_jj C_ja C_j1 C_j4)
  (Z:Exs K mg C_j8 C_j5 C_j6 C_j3 C_j2 C_j0)
   (LG:FnOk P w K mg base CX0 1 EZ OO ["self"] (Cy_ C_j1)) (Jd:Fun K "__init__" "Turns.__init__" EL EZ OO) (LH:Ap K OO ["self"] []) (LI:CMeth K C_j9 "__init__" EZ)
  : FnOk P w K mg base CX0 3 f fd ["self","letters","most","book","ways","ends"] (Cz_ C_j1):=by
 refine F.ok YY (fun vs H Q E h=>?_) (fun cdv A outer s H vs Q E hr h=>?_)
 ·obtain⟨a,dx,b,pw,pe,L,most,rfl,_⟩:=h;rfl
 ·obtain⟨a,dx,b,pw,pe,L,most,rfl,ha,k⟩:=h
  have hl:=Ao
  refine⟨_,(Ad (Ba (Kf_ rfl W.m_j9 LI LG (hr.mono (by decide)) LH .nil Ay (Aa (pvD 0) Af)))
   (Ad (F4 (pvD 0) (pvD 1) rfl)
   (Ad (F4 (pvD 0) (pvD 2) rfl)
   (Ad (F4 (pvD 0) (pvD 3) rfl)
   (Ad (F4 (pvD 0) (pvD 4) rfl)
   (Ad (F4 (pvD 0) (pvD 5) rfl)
   (Ad (F4 (pvD 0) (Rm Af) rfl)
   (Ad (F4 (pvD 0) F3 rfl)
   (Ac (F4 (pvD 0) F3 rfl)))))))))),?_⟩
  walk_at "rd"
  have pl:∀(f:Str) (v:V) (fs:List (Str×V)) (n:Nat),fs.length<n->(putF f v fs).length<n+1:=fun f v fs n h=>by have:=Cx_ f v fs;lia
  have z1:=pl "wish" .non [] 1 (by simp)
  have z2:=pl "letters" (.int L) _ _ z1
  have z3:=pl "most" (.int most) _ _ z2
  have z4:=pl "book" (.ref b) _ _ z3
  have z5:=pl "ways" (.ref pw) _ _ z4
  have z6:=pl "ends" (.ref pe) _ _ z5
  refine⟨a,dx,[],rfl,ha,by simp,_,_,_,Ae,W.cl_j1,W.n_SayHunt_letters,by lia,_,_,_,Ae,W.cl_j1,W.n_SayHunt_most,by lia,_,_,_,Ae,W.cl_j1,W.n_SayHunt_book,by lia,_,_,_,Ae,W.cl_j1,W.n_SayHunt_ways,by lia,_,_,_,Ae,W.cl_j1,W.n_SayHunt_ends,by lia,by lia,fun pg hpg=>?_⟩
  have hga:pg≠a:=fun z=>by rw[z,Ae]at hpg;cases hpg
  have z7:=pl "gaps" (.ref pg) _ _ z6
  have z8:=pl "guess" .non _ _ z7
  refine⟨_,_,_,by rw[Ah (Ne.symm hga)];exact Ae,W.cl_j1,W.n_SayHunt_gaps,by lia,_,_,_,Ae,W.cl_j1,W.n_SayHunt_guess,by lia,_,_,_,Ae,W.cl_j1,W.n_SayHunt_wrong,by lia,?_⟩
  have hpgH:H pg=none:=by
   simp only[Ah hga]at hpg
   exact hpg
  refine k pg _ hpgH (by rw[Ae,Gu_]) (by simp only[Ah hga];exact Ae) (fun y o hy hya=>?_) (fun y hy=>?_)
  ·have hyg:y≠pg:=fun z=>by rw[z,hpgH]at hy;cases hy
   simp only[Ah hya,Ah hyg]
   exact hy
  ·by_cases hya:y=a
   ·rw[hya,Ae]at hy;cases hy
   ·by_cases hyg:y=pg
    ·rw[hyg];exact hpgH
    ·simp only[Ah hya,Ah hyg]at hy
     exact hy
noncomputable def CA_ (K:PySem.W.Frag)(CA CB:Addr):Sp:=fun vs H Q _=>∃(a:Addr) (ad:AD) (s:AS) (wv:V),vs=[.ref a]/\Asks K CA CB H a ad s wv/\Q wv H
theorem U9   (F:Fun K "wants" "Turns.wants" Ee f fd)(T:Txt mg)
  (W:Own K mg C_j7 C_j9 C_jj C_ja C_j1 C_j4)
  (Z:Exs K mg C_j8 C_j5 C_j6 C_j3 C_j2 C_j0)
  : FnOk P w K mg base CX0 1 f fd ["self"] (CA_ K C_j1 C_j7):=by
 refine F.ok U4 (fun vs H Q E h=>?_) (fun cdv A outer s H vs Q E hr h=>?_)
 ·obtain⟨a,ad,s,wv,rfl,_⟩:=h;rfl
 ·obtain⟨a,ad,s,wv,rfl,⟨gv,rv,zs,ys,us,x⟩,k⟩:=h
  refine⟨_,(Ac (As (AQ (pvD 0) rfl))),?_⟩
  walk_at "rd"
  exact⟨_,_,_,x.ob,W.cl_j1,W.n_SayHunt_wish,_,N0 ..,k⟩
noncomputable def LJ (K:PySem.W.Frag)(CA CB OT:Addr):Sp:=fun vs H Q E=>∃(a:Addr) (ad:AD) (s:AS) (wv:V) (x:Wish) (d:Str),vs=[.ref a,.str d]/\Asks K CA CB H a ad s wv/\Cg K H s.L wv x/\(x.tag=d->Q .non H)/\(x.tag≠d->E (.ref OT) none H)
theorem Nf   (F:Fun K "check_wants" "Turns.check_wants" AY f fd)(T:Txt mg)
  (W:Own K mg C_j7 C_j9 C_jj C_ja C_j1 C_j4)
  (Z:Exs K mg C_j8 C_j5 C_j6 C_j3 C_j2 C_j0)
  : FnOk P w K mg base (CXe P w) 1 f fd ["self","deed"] (LJ K C_j1 C_j7 C_j3):=by
 refine F.okE M8 (fun vs H Q E h=>?_) (fun cdv A outer s H vs Q E hr h=>?_)
 ·obtain⟨a,ad,s,wv,x,d,rfl,_⟩:=h;rfl
 ·obtain⟨a,ad,s,wv,x,d,rfl,⟨gv,rv,zs,ys,us,A'⟩,hw,k,kE⟩:=h
  have hl:=Ao
  refine⟨_,(Ac (Cv (ptT (Az (opN IZ) (BG (ixTD CZ) (AQ (pvD 0) rfl) Ai) (pvD 1) (Bh _)))
   (Ac (M0 Z.m_j3 Z.x_j3 rfl rfl (Aa Bn Af)))
   AR)),?_⟩
  walk_at "rd"
  obtain⟨t,u,rfl,ht,_⟩:=hw
  refine⟨_,_,_,A'.ob,W.cl_j1,W.n_SayHunt_wish,_,N0 ..,t,rfl,_,SqT.of ht,V.str x.tag,rfl,rfl,?_⟩
  by_cases hd:x.tag=d
  ·rw[if_neg (by simp[hd])];exact k hd
  ·rw[if_pos (by simp[hd])];exact⟨by lia,kE hd⟩
noncomputable def OP (K:PySem.W.Frag)(CA CB:Addr)(f:AS->List (List Int)):Sp:=fun vs H Q _=>∃(a:Addr) (ad:AD) (s:AS) (wv:V),vs=[.ref a]/\Asks K CA CB H a ad s wv/\∀l ts H',Same H H'->H l=none->H' l=some (.lst ts)->Au K H' ts (f s)->Q (.ref l) H'
theorem Va   (F:Fun K "access" "Hunt.access" Ej f fd)(T:Txt mg)
  (W:Own K mg C_j7 C_j9 C_jj C_ja C_j1 C_j4)
  (Z:Exs K mg C_j8 C_j5 C_j6 C_j3 C_j2 C_j0)
  : FnOk P w K mg base CX0 1 f fd ["self"] (OP K C_j1 C_j7 AS.W):=by
 refine F.ok U6 (fun vs H Q E h=>?_) (fun cdv A outer s H vs Q E hr h=>?_)
 ·obtain⟨a,ad,s,wv,rfl,_⟩:=h;rfl
 ·obtain⟨a,ad,s,wv,rfl,⟨gv,rv,zs,ys,us,x⟩,k⟩:=h
  refine⟨_,(Ac (As (EF Ro rfl T.list PyProof.Rows.boot_list (Aa (AQ (pvD 0) rfl) Af)))),?_⟩
  walk_at "rd"
  exact⟨_,_,_,x.ob,W.cl_j1,W.n_SayHunt_ways,_,Kf ..,ad.pw,rfl,zs,.inl (SqL.of x.w),fun l hl=>k l zs _ (Same.new hl) hl Ae (x.wW.mono (TK.new hl))⟩
theorem TC   (F:Fun K "tellers" "Hunt.tellers" DJ f fd)(T:Txt mg)
  (W:Own K mg C_j7 C_j9 C_jj C_ja C_j1 C_j4)
  (Z:Exs K mg C_j8 C_j5 C_j6 C_j3 C_j2 C_j0)
  : FnOk P w K mg base CX0 1 f fd ["self"] (OP K C_j1 C_j7 AS.E):=by
 refine F.ok Tc (fun vs H Q E h=>?_) (fun cdv A outer s H vs Q E hr h=>?_)
 ·obtain⟨a,ad,s,wv,rfl,_⟩:=h;rfl
 ·obtain⟨a,ad,s,wv,rfl,⟨gv,rv,zs,ys,us,x⟩,k⟩:=h
  refine⟨_,(Ac (As (EF Ro rfl T.list PyProof.Rows.boot_list (Aa (AQ (pvD 0) rfl) Af)))),?_⟩
  walk_at "rd"
  exact⟨_,_,_,x.ob,W.cl_j1,W.n_SayHunt_ends,_,Qf ..,ad.pe,rfl,ys,.inl (SqL.of x.e),fun l hl=>k l ys _ (Same.new hl) hl Ae (x.eW.mono (TK.new hl))⟩
noncomputable def Wi (K:PySem.W.Frag)(CA CB:Addr):Sp:=fun vs H Q _=>∃(a:Addr) (ad:AD) (s:AS) (wv:V),vs=[.ref a]/\Asks K CA CB H a ad s wv/\∀l rs H',Same H H'->H l=none->H' l=some (.lst rs)->G0 H' rs s.es->Q (.ref l) H'
theorem W0   (F:Fun K "heard" "Hunt.heard" EO f fd)(T:Txt mg)
  (W:Own K mg C_j7 C_j9 C_jj C_ja C_j1 C_j4)
  (Z:Exs K mg C_j8 C_j5 C_j6 C_j3 C_j2 C_j0)
   (Gj:FnOk P w K mg base CX0 1 Cr Gy ["self"] (Kb K C_j7)) (Gk:Fun K "heard" "Book.heard" D3 Cr Gy) (Gm:Ap K Gy ["self"] []) (Gn:Meth K C_j7 "heard" Cr)
  : FnOk P w K mg base CX0 2 f fd ["self"] (Wi K C_j1 C_j7):=by
 refine F.ok WO (fun vs H Q E h=>?_) (fun cdv A outer s H vs Q E hr h=>?_)
 ·obtain⟨a,ad,s,wv,rfl,_⟩:=h;rfl
 ·obtain⟨a,ad,s,wv,rfl,⟨gv,rv,zs,ys,us,x⟩,k⟩:=h
  refine⟨_,(Ac (As (Bm (AQ (pvD 0) rfl) W.cl_j7 Gn Gj (hr.mono (by decide)) Gm .nil Ay))),?_⟩
  walk_at "rd"
  obtain⟨dxb,hb⟩:=x.bk.ob
  exact⟨_,_,_,x.ob,W.cl_j1,W.n_SayHunt_book,_,Ke ..,ad.b,rfl,_,_,hb,He _ _ (by decide +kernel) (by decide +kernel),ad.b,ad.d,_,s.es,rfl,x.bk,k⟩
noncomputable def Y9 (K:PySem.W.Frag)(CA CB:Addr):Sp:=fun vs H Q _=>∃(a l:Addr) (ad:AD) (s:AS) (wv:V) (ts:List V) (ws:List (List Int)),vs=[.ref a,.ref l]/\Asks K CA CB H a ad s wv/\SqL K H l ts/\Au K H ts ws/\ws.Nodup/\ws.length<=100000/\∀ad' H',Asks K CA CB H' a ad' {s with G:=ws.filter fun c=>(mkO s.es c).isNone} wv->Frm H H' a ad->AdOk H ad ad'->Q .non H'
theorem TF   (F:Fun K "ask_for" "Hunt.ask_for" DG f fd)(T:Txt mg)
  (W:Own K mg C_j7 C_j9 C_jj C_ja C_j1 C_j4)
  (Z:Exs K mg C_j8 C_j5 C_j6 C_j3 C_j2 C_j0)
   (Ek:FnOk P w K mg base CX0 1 B8 D6 ["self","word"] (Jb C_j7)) (EU:Fun K "told" "Book.told" Ef B8 D6) (El:Ap K D6 ["self","word"] []) (Em:Meth K C_j7 "told" B8)
  : FnOk P w K mg base CX0 2 f fd ["self","words"] (Y9 K C_j1 C_j7):=by
 refine F.ok IB (fun vs H Q E h=>?_) (fun cdv A outer s H vs Q E hr h=>?_)
 ·obtain⟨a,l,ad,s,wv,ts,ws,rfl,_⟩:=h;rfl
 ·obtain⟨a,l,ad,s,wv,ts,ws,rfl,⟨gv,rv,zs,ys,us,x⟩,hl',hW,nd,hz,k⟩:=h
  have hl:=Ao
  refine⟨_,(Ad (Rl (i:=2) IB.nd rfl (Or.inl rfl) MZ)
   (Ad (Hl PassesOwn.never rfl (Gq (pvD 1)) (B4 (i:=3) IB.nd rfl (Or.inl rfl))
   (Ac (Cv (ptT (Az V4 (DF (AQ (pvD 0) rfl) W.cl_j7 Em Ek (hr.mono (by decide)) El .nil Ay (Aa (pvD 3) Af)) F3 (Bh _)))
   (Ac (NU (NT hr) (pvD 2) (pvD 3) Jm rfl))
   AR)))
   (Ac (F4 (pvD 0) (EF (Iy rfl) rfl T.list PyProof.Rows.boot_list (Aa (pvD 2) Af)) rfl)))),?_⟩
  walk_at "rd"
  intro p hp
  have sp:=Same.new (o:=.dT []) hp
  obtain⟨dxb,hb⟩:=x.bk.ob
  obtain⟨Pv,hPv⟩:∃Pv:Nat->St->Hp->Prop,∀i σ' H',Pv i σ' H'↔(∃(kvs:List (List Key×V)) (o:Option V),Same H H'/\H' p=some (.dT kvs)/\HN ((ws.take i).filter fun c=>(mkO s.es c).isNone) kvs/\σ'=[some (.ref a),some (.ref l),some (.ref p),o]):=⟨_,fun _ _ _=>Iff.rfl⟩
  refine⟨⟨_,sp.seq hl'⟩,forL (xs:=ts) Pv ((hPv _ _ _).mpr ⟨[],none,sp,Ae,by rw[List.take_zero];exact HN.nil,rfl⟩) (fun i σ' H' _ h'=>by obtain⟨_,_,s',_⟩:=(hPv _ _ _).mp h';exact s'.seq hl') (fun i y σ' H' hy h'=>?_) (fun σ' H' h'=>?_)⟩
  ·obtain⟨kvs,o,s',hd,hk,rfl⟩:=(hPv _ _ _).mp h'
   obtain⟨t,c,hci,rfl,ht⟩:=hW.at hy
   have hil:i<ws.length:=(List.getElem?_eq_some_iff.mp hci).1
   have hlen:kvs.length<=100000:=by
    rw[hk.len]
    have h1:=List.length_filter_le (fun c=>(mkO s.es c).isNone) (ws.take i)
    rw[List.length_take]at h1
    lia
   have ht':=s' _ _ ht
   have hnot:c∉ws.take i:=fun z=>by
    obtain⟨j,hj⟩:=List.mem_iff_getElem?.mp z
    rw[List.getElem?_take]at hj
    split at hj
    ·rename_i hji
     have h1:=List.getElem?_eq_some_iff.mp hj
     have h2:=List.getElem?_eq_some_iff.mp hci
     have:=(List.pairwise_iff_getElem.mp (List.nodup_iff_pairwise_ne.mp nd)) j i h1.1 h2.1 hji
     exact this (h1.2.trans h2.2.symm)
    ·cases hj
   have etk:(ws.take (i+1)).filter (fun c=>(mkO s.es c).isNone)=(ws.take i).filter (fun c=>(mkO s.es c).isNone)++(if (mkO s.es c).isNone then [c] else []):=by
    rw[List.take_add_one,hci,List.filter_append]
    congr 1
    show List.filter _ [c]=_
    rw[List.filter_cons]
    rfl
   walk_at "rd"
   refine⟨_,_,_,s' _ _ x.ob,W.cl_j1,W.n_SayHunt_book,_,Ke ..,ad.b,rfl,_,_,s' _ _ hb,He _ _ (by decide +kernel) (by decide +kernel),ad.b,ad.d,t,_,c,s.es,rfl,x.bk.mono s',ht',fun hn=>?_,fun m hm=>?_⟩
   ·dsimp only
    rw[if_pos rfl]
    have hno:(mkO s.es c).isNone=true:=by rw[SE hn];rfl
    refine⟨_,DPut.t (k:=wkey c) hd (by rw[EG];exact ht') s!"",(hPv _ _ _).mpr ⟨_,_,s'.over hp,Ae,?_,rfl⟩⟩
    rw[etk,if_pos hno]
    have:=hk.put c (.bl true)
    unfold ins at this
    rw[if_neg (fun z=>hnot (List.mem_filter.mp z).1)]at this
    exact this
   ·dsimp only
    rw[if_neg (by simp)]
    have hso:(mkO s.es c).isNone=false:=by rw[M4 x.bk.nd hm];rfl
    refine (hPv _ _ _).mpr ⟨kvs,_,s',hd,?_,rfl⟩
    rw[etk,hso]
    simpa using hk
  ·obtain⟨kvs,o,s',hd,hk,rfl⟩:=(hPv _ _ _).mp h'
   rw[hW.1,List.take_length]at hk
   walk_at "rd"
   refine⟨kvs,.inl hd,fun q rs hq hrl hrs=>?_⟩
   have x1:=x.same (s'.newT hq (o:=.lst rs))
   have uq:upd H' q (.lst rs) q=some (.lst rs):=Ae
   have hwd:=(hk.words (K:=K) hrl hrs).mono (TK.new hq (o:=.lst rs))
   have s1:=s'.newT hq (o:=.lst rs)
   have hqH:H q=none:=s'.none hq
   generalize upd H' q (.lst rs)=H1 at x1 uq hwd s1 ⊢
   obtain⟨n1,n2,n3,n4,n5,n6,n7,n8,n9,n10,n11⟩:=x1.na
   have hqa:q≠a:=fun z=>by rw[z,x1.ob]at uq;cases uq
   refine⟨_,_,_,x1.ob,W.cl_j1,W.n_SayHunt_gaps,by unfold afl;simp,?_⟩
   rw[Gt_]
   refine k {ad with pg:=q} _ ⟨gv,rv,zs,ys,rs,?_⟩ ⟨fun y o hy m1 m2 m3 m4 m5=>by rw[Ah m1];exact s1 _ _ hy,fun y hy=>?_⟩ ⟨rfl,rfl,rfl,rfl,rfl,.inr hqH⟩
   ·have tk:=x1.tkob (.ins C_j1 ad.dx (afl wv s.L s.most ad.b ad.pw ad.pe q gv rv))
    refine⟨Ae,BookAt.tk x1.bk (fun o h=>by rw[Ah x1.nb];exact h) (fun o h=>by rw[Ah n4];exact h),by rw[Ah n1];exact x1.w,x1.wW.mono tk,by rw[Ah n2];exact x1.e,x1.eW.mono tk,by rw[Ah hqa];exact uq,hwd.mono tk,x.we,fun z=>?_,fun z=>?_,x1.gv.mono tk,x1.rv.mono tk⟩
    ·rw[show q=ad.pw from z.symm,x.w]at hqH;cases hqH
    ·rw[show q=ad.pe from z.symm,x.e]at hqH;cases hqH
   ·by_cases hya:y=a
    ·rw[hya,Ae]at hy;cases hy
    ·rw[Ah hya]at hy;exact s1.none hy
noncomputable def SH (K:PySem.W.Frag)(CA CB:Addr):Sp:=fun vs H Q _=>∃(a:Addr) (ad:AD) (s:AS) (wv:V),vs=[.ref a]/\Asks K CA CB H a ad s wv/\Sz s/\∀ad' H',Asks K CA CB H' a ad' {s with G:=ON s.L s.W s.E s.es} wv->Frm H H' a ad->AdOk H ad ad'->Q .non H'
theorem KL   (F:Fun K "look_for_gaps" "Asker.look_for_gaps" AU f fd)(T:Txt mg)
  (W:Own K mg C_j7 C_j9 C_jj C_ja C_j1 C_j4)
  (Z:Exs K mg C_j8 C_j5 C_j6 C_j3 C_j2 C_j0)
   (Jr:FnOk P w K mg base CX0 2 CJ LK ["self","words"] (Y9 K C_j1 C_j7)) (Hi:Fun K "ask_for" "Hunt.ask_for" DG CJ LK) (Js:Ap K LK ["self","words"] []) (Jt:Meth K C_j1 "ask_for" CJ)
   (Bj_:FnOk P w K mg base CX0 2 Qh CB_ ["letters","access","ends"] (Cu_ K)) (TH:Fun K "cells" "cells" NV Qh CB_) (Bk_:Ap K CB_ ["letters","access","ends"] []) (Bl_:mg "cells"=some (.ref Qh))
  : FnOk P w K mg base CX0 3 f fd ["self"] (SH K C_j1 C_j7):=by
 refine F.ok KH (fun vs H Q E h=>?_) (fun cdv A outer s H vs Q E hr h=>?_)
 ·obtain⟨a,ad,s,wv,rfl,_⟩:=h;rfl
 ·obtain⟨a,ad,s,wv,rfl,⟨gv,rv,zs,ys,us,x⟩,sz,k⟩:=h
  have hl:=Ao
  refine⟨_,(Ac (Ba (DF (pvD 0) W.cl_j1 Jt Jr (hr.mono (by decide)) Js .nil Ay (Aa (Aj Bj_ (hr.mono (by decide)) rfl Bl_ TH.kp Bk_ .nil Ay (Aa (AQ (pvD 0) rfl) (Aa (AQ (pvD 0) rfl) (Aa (AQ (pvD 0) rfl) Af)))) Af)))),?_⟩
  walk_at "rd"
  have w1:=sz.w.1
  have e1:=sz.e.1
  refine⟨_,_,x.ob,by kernel_rfl,_,_,_,x.ob,W.cl_j1,W.n_SayHunt_letters,_,Il ..,_,_,_,x.ob,W.cl_j1,W.n_SayHunt_ways,_,Kf ..,_,_,_,x.ob,W.cl_j1,W.n_SayHunt_ends,_,Qf ..,s.L,ad.pw,ad.pe,zs,ys,s.W,s.E,rfl,sz.l6,SqL.of x.w,x.wW,by lia,fun v hv=>by have:=sz.w.2 v hv;lia,SqL.of x.e,x.eW,by lia,sz.e.2,fun l rs H1 s1 hlN hl1 hw=>?_⟩
  have hcl:(Kv (CN s.L s.W) s.E).length<=100000:=Fu_ s!"" sz.l6 s!""
  exact⟨a,l,ad,s,wv,rs,_,rfl,⟨_,_,_,_,_,x.same s1⟩,SqL.of hl1,hw,Tv _ _,hcl,fun ad' H2 x2 f2 k2=>k ad' H2 x2 ((Frm.of s1 a ad).trans (AdOk.refl H ad) f2) (AdOk.trans (Frm.of s1 a ad) (AdOk.refl H ad) k2)⟩
noncomputable def CC_ (K:PySem.W.Frag):Sp:=fun vs H Q _=>∃(a:Addr) (L:Nat),vs=[.ref a,.int L]/\L<=6/\∀l ts H',Same H H'->H l=none->H' l=some (.lst ts)->Au K H' ts (fE57 L)->Q (.ref l) H'
theorem LL   (F:Fun K "first_ends" "SayHunt.first_ends" BE f fd)(T:Txt mg)
  (W:Own K mg C_j7 C_j9 C_jj C_ja C_j1 C_j4)
  (Z:Exs K mg C_j8 C_j5 C_j6 C_j3 C_j2 C_j0)
  : FnOk P w K mg base CX0 1 f fd ["self","letters"] (CC_ K):=by
 refine F.ok Ls (fun vs H Q E h=>?_) (fun cdv A outer s H vs Q E hr h=>?_)
 ·obtain⟨a,L,rfl,_⟩:=h;rfl
 ·obtain⟨a,L,rfl,hL,k⟩:=h
  have hl:=Ao
  refine⟨_,(Ac (As (Ln rfl (OD rfl) (cp:=GN) True.intro (Li rfl T.range (Aa (pvD 1) Af)) (fun _ _ _ _=>(B4 (i:=0) Jp rfl (Or.inl rfl))) (fun _ _ _ _=>OC) (fun _ _ _ _=>(GJ (Aa (pvD 0) Af)))))),?_⟩
  walk_at "rd"
  refine⟨by lia,by lia,?_⟩
  rw[Int.toNat_natCast]
  obtain⟨Pc,hPc⟩:∃Pc:Nat->List V->St->Hp->Prop,∀i us σ' H',Pc i us σ' H'↔(Same H H'/\Au K H' us (fE57 i)/\∃o,σ'=[o]):=⟨_,fun _ _ _ _=>Iff.rfl⟩
  refine Io_ Pc ((hPc _ _ _ _).mpr ⟨Same.refl _,Au.nil,none,rfl⟩) s!"" (fun i us σ' H' hi h'=>?_) (fun i us σ' H' hi h'=>?_) (fun us σ' H1 h' D hD=>?_)
  ·obtain⟨_,hR,_⟩:=(hPc _ _ _ _).mp h'
   rw[hR.1];unfold fE57;rw[List.length_map,List.length_range];exact Nat.le_refl _
  ·obtain⟨s1,hR,o,rfl⟩:=(hPc _ _ _ _).mp h'
   rw[Int.zero_add]
   walk_at "rd"
   refine⟨by lia,fun t ht=>(hPc _ _ _ _).mpr ⟨s1.newT ht,?_,_,rfl⟩⟩
   have e:fE57 (i+1)=fE57 i++[[(i:Int)]]:=by unfold fE57;rw[List.range_succ,List.map_append];rfl
   rw[e]
   exact (hR.mono (TK.new ht)).snoc Ae
  ·obtain⟨s1,hR,o,rfl⟩:=(hPc _ _ _ _).mp h'
   exact k D us _ (s1.newT hD) (s1.none hD) Ae (hR.mono (TK.new hD))
noncomputable def N1 (K:PySem.W.Frag):Sp:=fun vs H Q _=>∃(a h t:Addr) (L:Int) (m ws:List (List Int)) (v:List Int),vs=[.ref a,.ref h,.ref t]/\U8 K H h L m ws/\WfS L m ws/\SqT K H t (v.map V.int)/\v.length<=600/\isW L v=true/\v ≠ []/\∀H',Same H H'->Q (.int (lsay m ws v)) H'
theorem Qi   (F:Fun K "answer" "SayHunt.answer" Cc f fd)(T:Txt mg)
  (W:Own K mg C_j7 C_j9 C_jj C_ja C_j1 C_j4)
  (Z:Exs K mg C_j8 C_j5 C_j6 C_j3 C_j2 C_j0)
   (EW:FnOk P w K mg base (CXe P w) 5 BF D7 ["house","word"] (Ja K C_j5)) (DL:Fun K "last_said" "last_said" Eg BF D7) (EX:Ap K D7 ["house","word"] []) (EY:mg "last_said"=some (.ref BF))
  : FnOk P w K mg base CX0 6 f fd ["self","house","word"] (N1 K):=by
 refine F.ok P5 (fun vs H Q E h=>?_) (fun cdv A outer s H vs Q E hr h=>?_)
 ·obtain⟨a,h,t,L,m,ws,v,rfl,_⟩:=h;rfl
 ·obtain⟨a,h,t,L,m,ws,v,rfl,hh,wf,ht,hz,hv,hne,k⟩:=h
  refine⟨_,(Ac (As (Aj EW (hr.mono (by decide)) rfl EY DL.kp EX .nil (PZ (P:=P) (w:=w)) (Aa (pvD 1) (Aa (pvD 2) Af))))),?_⟩
  walk_at "rd"
  refine⟨h,t,L,m,ws,v,rfl,hh,wf,ht,hz,fun _ _ H' x s' hx=>?_,fun z=>?_⟩
  ·have hlx:x=lsay m ws v:=by
    unfold lsay
    rw[List.getD_eq_getElem?_getD,hx];rfl
   subst hlx
   exact k H' s'
  ·rcases z with z|z
   ·rw[hv]at z;cases z
   ·exact absurd z hne
theorem IN_  {K:PySem.W.Frag}     (hK:X.K=K)(he:PE X e ta)(hb:attributeBase e f X.env (eval e X.env)=eval e X.env):PE X (.Attribute e f pos) (tFld K ta f):=by subst hK;exact AQ he hb
noncomputable def W2 (_K:PySem.W.Frag):V->Option Int->Option Int->Hp->VK->Prop:=fun x lo hi H Q=>∃a xs,x=.ref a/\H a=some (.tup xs)/\∀p H',Same H H'->H' p=some (.tup (cutV xs lo hi))->Q (.ref p) H'
theorem Bm_  : SlR X (W2 X.K):=by
 intro pins s σ H x v vl vu lo hi sl Q I rx hs pl pu h
 obtain⟨a,xs,rfl,hx,q⟩:=h
 by_cases hw:HT.sIx xs.length 0 lo=0/\HT.sIx xs.length xs.length hi=xs.length
 ·cases rx
  obtain⟨its,r,ht,hz⟩:=I.tuple (SqT.of hx)
  have hlen:its.toArray.size=xs.length:=by rw[List.size_toArray];exact r.length.symm
  refine⟨"tuple",_,PyProof.Rows.slot_tuple_getitem.lookup,ht.typeIs,?_⟩
  refine HT.getItem_tuple_whole ht hs pl pu (by rw[hlen];exact hw) ⟨.ref a,H,I,rfl,q a H (Same.refl _) ?_⟩
  unfold cutV
  rw[hw.1,hw.2,List.drop_zero,Nat.sub_zero,List.take_length]
  exact hx
 ·exact Ei_ pins s σ H (.ref a) v vl vu lo hi sl Q I rx hs pl pu ⟨a,xs,rfl,SqT.of hx,hw,fun p hp=>q p _ (Same.new hp) Ae⟩
theorem Gv_  {K:PySem.W.Frag}(h:X.K=K):SlR X (W2 K):=by subst h;exact Bm_
theorem W2.of {K:PySem.W.Frag}{a:Addr}{xs:List V}{m:Nat}{H:Hp}{Q:VK}(ha:H a=some (.tup xs))(q:∀p H',Same H H'->H' p=some (.tup (xs.take m))->Q (.ref p) H'):W2 K (.ref a) none (some (m:Int)) H Q:=by
 refine⟨a,xs,rfl,ha,fun p H' s' h=>q p H' s' ?_⟩
 rw[h]
 unfold cutV
 rw[HT.sIx_nat,HT.sIx_none,List.drop_zero,Nat.sub_zero]
 congr 2
 rw[List.take_eq_take_iff]
 lia
noncomputable def HK_ (K:PySem.W.Frag)(CA CB:Addr):Sp:=fun vs H Q _=>∃(a:Addr) (ad:AD) (s:AS) (wv:V),vs=[.ref a]/\Asks K CA CB H a ad s wv/\Sz s/\Tb s.L s.most s.W s.E s.es/\Full s.L s.W s.E s.es/\M5 s.L s.W s.E s.es=none/\∀h H',Same H H'->HouT K H' h s.L (HV s.L s.W s.E s.es) (Nb s.L s.W s.E s.es)->Q (.ref h) H'
theorem LM   (F:Fun K "make_guess" "SayHunt.make_guess" BB f fd)(T:Txt mg)
  (W:Own K mg C_j7 C_j9 C_jj C_ja C_j1 C_j4)
  (Z:Exs K mg C_j8 C_j5 C_j6 C_j3 C_j2 C_j0)
   (Eu:FnOk P w K mg base CX0 3 Cn EV ["book","letters","access","ends"] (Fm_ K C_j7)) (CI:Fun K "marks_by_row" "marks_by_row" CG Cn EV) (Ew:Ap K EV ["book","letters","access","ends"] []) (Ex:mg "marks_by_row"=some (.ref Cn))
   (IG:FnOk P w K mg base CX0 1 DS Kw ["letters","access","marks"] (Cv_ K)) (E1:Fun K "ways_by_marks" "ways_by_marks" C0 DS Kw) (IH:Ap K Kw ["letters","access","marks"] []) (II:mg "ways_by_marks"=some (.ref DS))
  : FnOk P w K mg base CX0 4 f fd ["self"] (HK_ K C_j1 C_j7):=by
 refine F.ok EI (fun vs H Q E h=>?_) (fun cdv A outer s H vs Q E hr h=>?_)
 ·obtain⟨a,ad,s,wv,rfl,_⟩:=h;rfl
 ·obtain⟨a,ad,s,wv,rfl,⟨gv,rv,zs,ys,us,x⟩,sz,tb,fu,hs,k⟩:=h
  have hl:=Ao
  refine⟨_,(Ad (Rl (i:=1) EI.nd rfl (Or.inr rfl) (Aj Eu (hr.mono (by decide)) rfl Ex CI.kp Ew .nil Ay (Aa (AQ (pvD 0) rfl) (Aa (AQ (pvD 0) rfl) (Aa (AQ (pvD 0) rfl) (Aa (AQ (pvD 0) rfl) Af))))))
   (Ad (AE (i:=2) EI.nd (EF Hn rfl T.tuple PyProof.Rows.boot_tuple (Aa (Ln rfl (OD rfl) (cp:=GL) ⟨⟨rfl,rfl⟩,⟨⟨rfl,rfl⟩,True.intro⟩⟩ (Gq (AQ (pvD 0) rfl)) (fun _ _ _ _=>(B4 (i:=0) Jo rfl (Or.inl rfl))) (fun _ _ _ _=>OC) (fun _ _ _ _=>(OB (Gv_ (K:=K) rfl) (SW (NT hr) (pvD 1) (pvD 0) (fun _ _=>rfl)) SR (SS (IN_ (K:=K) rfl (pvD 2) rfl))))) Af)))
   (Ac (As (GJ (Aa (AQ (pvD 0) rfl) (Aa (pvD 2) (Aa (Aj IG (hr.mono (by decide)) rfl II E1.kp IH .nil Ay (Aa (AQ (pvD 0) rfl) (Aa (AQ (pvD 0) rfl) (Aa (pvD 1) Af)))) Af)))))))),?_⟩
  walk_at "rd"
  have w1:=sz.w.1
  have e1:=sz.e.1
  obtain⟨np,cl⟩:=tb.none fu hs
  refine⟨_,_,_,x.ob,W.cl_j1,W.n_SayHunt_book,_,Ke ..,_,_,_,x.ob,W.cl_j1,W.n_SayHunt_letters,_,Il ..,_,_,_,x.ob,W.cl_j1,W.n_SayHunt_ways,_,Kf ..,_,_,_,x.ob,W.cl_j1,W.n_SayHunt_ends,_,Qf ..,ad.b,ad.d,ad.pw,ad.pe,s.L,s.L,s.es,zs,ys,s.W,s.E,rfl,x.bk,sz.l6,SqL.of x.w,x.wW,by lia,fun v hv=>by have:=sz.w.2 v hv;lia,SqL.of x.e,x.eW,by lia,sz.e.2,fun m kvs H1 s1 hm0 hm hM=>?_⟩
  have hA1:Au K H1 zs s.W:=x.wW.mono (TK.of s1)
  have hob1:=s1 _ _ x.ob
  refine⟨_,_,_,hob1,W.cl_j1,W.n_SayHunt_ways,_,Kf ..,_,rfl,⟨_,s1.seq (SqL.of x.w)⟩,FZ_ (xs:=zs) (fun i us σ' H'=>Same H1 H'/\Au K H' us ((s.W.take i).map fun v=>(gOf s.E s.es v).take s.L)/\∃o,σ'=[o,some (.ref m),some (.ref a)]) ⟨Same.refl _,Au.nil,none,rfl⟩ (by rw[x.wW.1];lia) (fun i us σ' H' hi h'=>⟨(s1.trans h'.1).seq (SqL.of x.w),by rw[h'.2.1.1,List.length_map,List.length_take];lia⟩) (fun i y us σ' H' hx h'=>?_) (fun us σ' H' h' D hD=>?_)⟩
  ·obtain⟨s2,hus,o,rfl⟩:=h'
   obtain⟨t,w,hwi,rfl,ht⟩:=(hA1.mono (TK.of s2)).at hx
   have hwm:=List.mem_of_getElem? hwi
   have et:s.W.take (i+1)=s.W.take i++[w]:=by rw[List.take_add_one,hwi];rfl
   obtain⟨u,hu1,hu2⟩:=hM.get (Kd (n:=s.L) hwm)
   have hdg:DGet H' m (.ref t) (some (.ref u)):=by rw[<-hu1];exact DGet.t (k:=wkey w) (s2 _ _ hm) (by rw[EG];exact ht)
   walk_at "rd"
   refine⟨_,hdg,_,_,_,s2 _ _ hob1,W.cl_j1,W.n_SayHunt_letters,_,Il ..,_,rfl,W2.of (s2 _ _ hu2) fun p H4 s4 hp=>⟨s2.trans s4,?_,_,rfl⟩⟩
   rw[et,List.map_append]
   refine (hus.mono (TK.of s4)).snoc ?_
   rw[hp,Fo_ fu (Kd (n:=s.L) hwm),List.map_take]
  ·obtain⟨s2,hus,o,rfl⟩:=h'
   rw[x.wW.1,List.take_length]at hus
   refine⟨D,rfl,_,.inl ⟨SqL.of Ae,fun tm htm=>?_⟩⟩
   have sD:=(s2.newT hD (o:=.lst us)).newT htm (o:=.tup us)
   have s3:=s1.trans sD
   have hob3:=s3 _ _ x.ob
   refine⟨_,_,_,hob3,W.cl_j1,W.n_SayHunt_letters,_,Il ..,_,_,_,hob3,W.cl_j1,W.n_SayHunt_letters,_,Il ..,_,_,_,hob3,W.cl_j1,W.n_SayHunt_ways,_,Kf ..,s.L,ad.pw,m,zs,s.W,kvs,gOf s.E s.es,rfl,sz.l6,s3.seq (SqL.of x.w),x.wW.mono (TK.of s3),by lia,fun v hv=>by have:=sz.w.2 v hv;lia,sD _ _ hm,⟨hM.1,fun i w hi=>?_⟩,tb.nodup fu,cl,fun tw zs' H3 s4 htw hz=>⟨by lia,fun h hh=>?_⟩⟩
   ·obtain⟨t,e1,e2⟩:=hM.2 i w hi
    refine⟨t,e1,?_⟩
    have:=sD _ _ e2
    show _=some (HO.tup ((gOf s.E s.es w).map V.int))
    rw[<-Fo_ fu (List.mem_of_getElem? hi)]
    exact this
   ·have sh:=Same.new hh (o:=.tup [.int s.L,.ref tm,.ref tw])
    have s5:=s4.trans sh
    refine k h _ (s3.trans s5) ⟨tm,tw,us,zs',Ae,s5 _ _ Ae,hus.mono (TK.of (((Same.new hD (o:=.lst us)).newT htm (o:=.tup us)).trans s5)),sh _ _ htw,hz.mono (TK.of sh)⟩
noncomputable def HL_ (K:PySem.W.Frag)(CA CB:Addr):Sp:=fun vs H Q _=>∃(a:Addr) (ad:AD) (s:AS) (wv:V) (m ws:List (List Int)),vs=[.ref a]/\Asks K CA CB H a ad s wv/\s.gs=some (m,ws)/\WfS s.L m ws/\(∀e∈s.es,(isW s.L e.1=true/\e.1 ≠ [])/\e.1.length<=600)/\∀H',Same H H'->(Gi s.es m ws=none->Q .non H')/\∀v t,Gi s.es m ws=some v->H' t=some (.tup (v.map V.int))->Q (.ref t) H'
theorem LN   (F:Fun K "wrong_word" "SayHunt.wrong_word" BC f fd)(T:Txt mg)
  (W:Own K mg C_j7 C_j9 C_jj C_ja C_j1 C_j4)
  (Z:Exs K mg C_j8 C_j5 C_j6 C_j3 C_j2 C_j0)
   (EW:FnOk P w K mg base (CXe P w) 5 BF D7 ["house","word"] (Ja K C_j5)) (DL:Fun K "last_said" "last_said" Eg BF D7) (EX:Ap K D7 ["house","word"] []) (EY:mg "last_said"=some (.ref BF))
   (Gj:FnOk P w K mg base CX0 1 Cr Gy ["self"] (Kb K C_j7)) (Gk:Fun K "heard" "Book.heard" D3 Cr Gy) (Gm:Ap K Gy ["self"] []) (Gn:Meth K C_j7 "heard" Cr)
   (Ju:FnOk P w K mg base CX0 6 Ey LO ["heard","answer","house"] (LF K BF)) (FG:Fun K "first_unlike" "first_unlike" DH Ey LO) (Jv:Ap K LO ["heard","answer","house"] []) (Jw:mg "first_unlike"=some (.ref Ey))
  : FnOk P w K mg base CX0 7 f fd ["self"] (HL_ K C_j1 C_j7):=by
 refine F.ok Lq (fun vs H Q E h=>?_) (fun cdv A outer s H vs Q E hr h=>?_)
 ·obtain⟨a,ad,s,wv,m,ws,rfl,_⟩:=h;rfl
 ·obtain⟨a,ad,s,wv,m,ws,rfl,⟨gv,rv,zs,ys,us,x⟩,hg,wf,hb,k⟩:=h
  refine⟨_,(Ac (As (Aj Ju (hr.mono (by decide)) rfl Jw FG.kp Jv .nil Ay (Aa (Bm (AQ (pvD 0) rfl) W.cl_j7 Gn Gj (hr.mono (by decide)) Gm .nil Ay) (Aa (Lh (v:=.ref BF) rfl EY rfl) (Aa (AQ (pvD 0) rfl) Af)))))),?_⟩
  walk_at "rd"
  have hgv:=x.gv
  rw[hg]at hgv
  obtain⟨h,rfl,hh⟩:=hgv
  obtain⟨⟨dx,hob⟩,hdc,nd⟩:=id x.bk
  refine⟨_,_,_,x.ob,W.cl_j1,W.n_SayHunt_book,_,Ke ..,_,rfl,_,_,hob,He _ _ (by decide +kernel) (by decide +kernel),ad.b,ad.d,s.L,s.es,rfl,x.bk,fun l rs H1 s1 hl0 hl1 htr=>?_⟩
  refine⟨_,_,_,s1 _ _ x.ob,W.cl_j1,W.n_SayHunt_guess,_,SF ..,l,h,s.L,m,ws,rs,s.es,rfl,SqL.of hl1,htr,(hh.mono (TK.of s1)).house,wf,hb,fun H' s'=>⟨fun hno=>(k H' (s1.trans s')).1 ?_,fun i e t hno hi hw' ht=>?_⟩⟩
  ·unfold Gi
   rw[Option.map_eq_none_iff,List.find?_eq_none]
   intro e he
   have:=hno e he
   unfold Tz at this
   rw[this];simp
  ·refine (k H' (s1.trans s')).2 e.1 t ?_ ht
   ·unfold Gi
    have hil:=(List.getElem?_eq_some_iff.mp hi).1
    have e':s.es=s.es.take i++(e::s.es.drop (i+1)):=by
     have h1:=(List.take_append_drop (i+1) s.es).symm
     rw[List.take_add_one,hi,List.append_assoc]at h1
     exact h1
    rw[e',List.find?_append,List.find?_eq_none.mpr fun p hp=>?_,List.find?_cons]
    ·unfold Tz at hw'
     rw[hw'];rfl
    ·obtain⟨j,hj⟩:=List.mem_iff_getElem?.mp hp
     rw[List.getElem?_take]at hj
     split at hj
     ·rename_i hji
      have:=hno j hji p hj
      unfold Tz at this
      rw[this];simp
     ·cases hj
theorem Tb.ends0    (t:Tb L most W E es):E[0]?=some [0]:=by
 have h1:=t.l1
 have h:=congrArg (fun l=>l[0]?) t.e0
 simp only[List.getElem?_take,List.getElem?_map,List.getElem?_range h1]at h
 rw[if_pos s!""]at h
 exact h
noncomputable def Za (K:PySem.W.Frag)(CB:Addr):Sp:=fun vs H Q _=>∃(b d pw h t:Addr) (L:Nat) (es:Bk) (zs:List V) (W:List (List Int)) (m ws:List (List Int)) (v:List Int) (mk:Int) (n:Nat),vs=[.ref b,.ref pw,.ref h,.ref t,.int mk,.int n]/\BookAt CB H b d L es/\H pw=some (.lst zs)/\Au K H zs W/\U8 K H h L m ws/\WfS L m ws/\H t=some (.tup (v.map V.int))/\isW L v=true/\0<n/\n<v.length/\v.length<=600/\(∀u∈W,u.length<=50)/\(∀i,i<=v.length->∃k:Nat,Fp ws (v.take i)=(k:Int)/\W[k]?=some (NZ W ws v i))/\∀H',Same H H'->(∀c u t',Nd es W ws v mk v.length 0 n=.ask c->H' u=some (.tup (c.map V.int))->H' t'=some (.tup [.str "ask",.ref u])->Q (.ref t') H')/\(∀hi u t',Nd es W ws v mk v.length 0 n=.fin hi->H' u=some (.tup ((v.drop hi).map V.int))->H' t'=some (.tup [.str "end",.ref u])->Q (.ref t') H')
theorem Fv_   (F:Fun K "halved" "halved" J8 f fd)(T:Txt mg)
  (W:Own K mg C_j7 C_j9 C_jj C_ja C_j1 C_j4)
  (Z:Exs K mg C_j8 C_j5 C_j6 C_j3 C_j2 C_j0)
   (P9:FnOk P w K mg base (CXe P w) 3 Ka OJ ["house","word"] (Tq K C_j5)) (Lx:Fun K "trail" "trail" Lp Ka OJ) (Qa:Ap K OJ ["house","word"] []) (Qb:mg "trail"=some (.ref Ka))
   (Ek:FnOk P w K mg base CX0 1 B8 D6 ["self","word"] (Jb C_j7)) (EU:Fun K "told" "Book.told" Ef B8 D6) (El:Ap K D6 ["self","word"] []) (Em:Meth K C_j7 "told" B8)
  : FnOk P w K mg base CX0 4 f fd ["book","access","guess","word","mark","last"] (Za K C_j7):=by
 refine F.ok Gs (fun vs H Q E h=>?_) (fun cdv A outer s H vs Q E hr h=>?_)
 ·obtain⟨b,d,pw,h,t,L,es,zs,W',m,ws,v,mk,N,rfl,_⟩:=h;rfl
 ·obtain⟨b,d,pw,h,t,L,es,zs,W',m,ws,v,mk,N,rfl,bk,hpw,hW,hh,wf,ht,hv,hv0,hvN,hz,hz2,hacc,k⟩:=h
  have hl:=Ao
  refine⟨_,(Ad (AE (i:=6) Gs.nd (Aj P9 (hr.mono (by decide)) rfl Qb Lx.kp Qa .nil (PZ (P:=P) (w:=w)) (Aa (pvD 2) (Aa (pvD 3) Af))))
   (Ad (AE (i:=7) Gs.nd Ai)
   (Ad (AE (i:=8) Gs.nd (pvD 5))
   (Ad (Wq PassesOwn.never (ptT (Az (opD0 Ia_) (Bu (opD0 DV_) (pvD 8) (pvD 7)) Ai (Bh _)))
   (Ad (AE (i:=9) Gs.nd (Bu (opD PV) (Bu (opD0 FE) (pvD 7) (pvD 8)) Ai))
   (Ad (AE (i:=10) Gs.nd (Bu J7 (BG (ixLD Jn) (pvD 1) (BG (ixLD Jn) (pvD 6) (pvD 9))) (OB Ei_ (pvD 3) (SS (pvD 9)) SR)))
   (Ad (AE (i:=11) Gs.nd (DF (pvD 0) W.cl_j7 Em Ek (hr.mono (by decide)) El .nil Ay (Aa (pvD 10) Af)))
   (Ad (Cv (ptT (Az V4 (pvD 11) F3 (Bh _)))
   (Ac (As (GJ (Aa Bn (Aa (pvD 10) Af)))))
   AR)
   (Ac (Cv (ptT (Az (opE NS) (pvD 11) (pvD 4) (Bh _)))
   (Ac (AE (i:=8) Gs.nd (pvD 9)))
   (Ac (AE (i:=7) Gs.nd (pvD 9))))))))))
   (Ac (As (GJ (Aa Bn (Aa (OB Ei_ (pvD 3) (SS (pvD 8)) SR) Af))))))))),?_⟩
  obtain⟨⟨dxb,hb⟩,hd,nd⟩:=id bk
  walk_at "rd"
  obtain⟨tm,tw,h1,_,h3⟩:=id hh
  refine⟨h,t,tm,tw,L,_,ws,v,rfl,h1,h3,wf.wf,SqT.of ht,hz,fun _ p H1 s1 hpN hp=>?_,fun z=>by rw[hv]at z;cases z⟩
  obtain⟨Pv,hPv⟩:∃Pv:Nat->St->Hp->Prop,∀n σ' H',Pv n σ' H'↔(∃(lo hi:Nat) (f:Nat) (o1 o2 o3:Option V),Same H1 H'/\n=hi-lo/\hi-lo<=f+1/\lo<hi/\hi<=N/\Nd es W' ws v mk v.length 0 N=Nd es W' ws v mk f lo hi/\σ'=[some (.ref b),some (.ref pw),some (.ref h),some (.ref t),some (.int mk),some (.int N),some (.ref p),some (.int lo),some (.int hi),o1,o2,o3]):=⟨_,fun _ _ _=>Iff.rfl⟩
  refine EE_ Pv ⟨N,(hPv _ _ _).mpr ⟨0,N,v.length,none,none,none,Same.refl _,by lia,by lia,by lia,by lia,rfl,rfl⟩⟩ fun n σ' H' h'=>?_
  obtain⟨lo,hi,f,o1,o2,o3,s',hn,hf,hlo,hhi,e,rfl⟩:=(hPv _ _ _).mp h'
  walk_at "rd"
  by_cases hg:hi-lo > 1
  ·rw[if_pos s!""]
   refine⟨fun σ2 H2=>∃m',m'<n/\Pv m' σ2 H2,fun _ _ z=>z,?_⟩
   have em:((lo:Int)+(hi:Int)) / 2=(((lo+hi) / 2:Nat):Int):=by lia
   simp only[em]
   have hmid:(lo+hi) / 2<=v.length:=by lia
   obtain⟨kk,k1,k2⟩:=hacc _ hmid
   obtain⟨ta,a1,a2⟩:=(hW.mono (TK.of (s1.trans s'))).2 kk _ k2
   have ht':=(s1.trans s') _ _ ht
   refine⟨by show CDiv _ _;unfold CDiv;lia,_,SqL.of (s' _ _ hp),_,PX (Fs_ ws v hmid),zs,_,rfl,SqL.of ((s1.trans s') _ _ hpw),_,(by rw[k1];exact PX a1),_,SqT.of ht',?_,fun q hq=>?_⟩
   ·rw[HT.sIx_nat,HT.sIx_none,List.length_map];lia
   rw[Wg]
   have sq:=Same.new (o:=.tup ((v.drop ((lo+hi) / 2)).map V.int)) hq
   have hlen:=hz2 _ (List.mem_of_getElem? k2)
   refine Kt.ofS (sq _ _ a2) Ae (by rw[List.length_map,List.length_map,List.length_drop];lia) fun u H2 s2 hu=>?_
   rw[<-List.map_append]at hu
   have s3:=(s1.trans s').trans (sq.trans s2)
   have s4:=s'.trans (sq.trans s2)
   refine⟨_,_,s3 _ _ hb,He _ _ (by decide +kernel) (by decide +kernel),b,d,u,L,_,es,rfl,bk.mono s3,hu,fun hn2=>?_,fun t' hm=>?_⟩
   ·dsimp only
    rw[if_pos rfl]
    refine⟨by lia,fun x hx=>?_⟩
    obtain⟨f',rfl⟩:∃f',f=f'+1:=⟨f-1,by lia⟩
    refine (k _ (s3.newT hx)).1 _ u x ?_ (Same.new hx _ _ hu) Ae
    rw[e]
    unfold Nd
    rw[if_pos hg,SE hn2]
   ·dsimp only
    rw[if_neg (by simp)]
    obtain⟨f',rfl⟩:∃f',f=f'+1:=⟨f-1,by lia⟩
    have e2:Nd es W' ws v mk (f'+1) lo hi=if t'=mk then Nd es W' ws v mk f' lo ((lo+hi) / 2) else Nd es W' ws v mk f' ((lo+hi) / 2) hi:=by
     conv=>lhs;unfold Nd
     rw[if_pos hg,M4 nd hm]
    rw[e2]at e
    refine⟨rfl,?_⟩
    by_cases htm:t'=mk
    ·rw[if_pos (by rw[htm])]
     rw[if_pos htm]at e
     exact⟨_,by lia,(hPv _ _ _).mpr ⟨lo,(lo+hi) / 2,f',_,_,_,s4,rfl,by lia,by lia,by lia,e,rfl⟩⟩
    ·rw[if_neg (fun z=>htm (V.int.inj z))]
     rw[if_neg htm]at e
     exact⟨_,by lia,(hPv _ _ _).mpr ⟨(lo+hi) / 2,hi,f',_,_,_,s4,rfl,by lia,by lia,by lia,e,rfl⟩⟩
  ·rw[if_neg s!""]
   have ht':=(s1.trans s') _ _ ht
   refine⟨_,SqT.of ht',?_,fun q hq=>⟨by lia,fun x hx=>?_⟩⟩
   ·rw[HT.sIx_nat,HT.sIx_none,List.length_map];lia
   rw[Wg]at hx ⊢
   have sq:=Same.new (o:=.tup ((v.drop hi).map V.int)) hq
   refine (k _ (((s1.trans s').trans sq).newT hx)).2 hi q x ?_ (Same.new hx _ _ Ae) Ae
   rw[e]
   cases f with
   |zero=>rfl
   |succ f=>unfold Nd;rw[if_neg hg]
noncomputable def Zb (K:PySem.W.Frag)(CA CB:Addr):Sp:=fun vs H Q _=>∃(a:Addr) (ad:AD) (s:AS) (wv:V) (B:Nat),vs=[.ref a]/\Asks K CA CB H a ad s wv/\OkX none B s/\s.G=[]/\Bd B s/\M5 s.L s.W s.E s.es=none/\∀H' r,Asks K CA CB H' a ad (KJ s).1 wv->Frm H H' a ad->((KJ s).2=none->r=.non)->(∀x,(KJ s).2=some x->Cg K H' s.L r x)->Q r H'
theorem LP   (F:Fun K "look_at_guess" "Hunt.look_at_guess" BD f fd)(T:Txt mg)
  (W:Own K mg C_j7 C_j9 C_jj C_ja C_j1 C_j4)
  (Z:Exs K mg C_j8 C_j5 C_j6 C_j3 C_j2 C_j0)
   (Fq:FnOk P w K mg base CX0 4 Bo Hu ["self"] (HK_ K C_j1 C_j7)) (DM:Fun K "make_guess" "SayHunt.make_guess" BB Bo Hu) (Fs:Ap K Hu ["self"] []) (Ft:Meth K C_j1 "make_guess" Bo)
   (Fu:FnOk P w K mg base CX0 7 Bp Hv ["self"] (HL_ K C_j1 C_j7)) (DO:Fun K "wrong_word" "SayHunt.wrong_word" BC Bp Hv) (Fv:Ap K Hv ["self"] []) (Fw:Meth K C_j1 "wrong_word" Bp)
  : FnOk P w K mg base CX0 8 f fd ["self"] (Zb K C_j1 C_j7):=by
 refine F.ok Lr (fun vs H Q E h=>?_) (fun cdv A outer s H vs Q E hr h=>?_)
 ·obtain⟨a,ad,s,wv,B,rfl,_⟩:=h;rfl
 ·obtain⟨a,ad,s,wv,B,rfl,⟨gv,rv,zs,ys,us,x⟩,ok,hG,bd,hst,k⟩:=h
  have hl:=Ao
  have sz:=ok.sz bd
  have tb:=ok.tb
  obtain⟨np,cl⟩:=tb.none (ok.full hG) hst
  have g:GuessOk s.L s.W s.E s.es (HV s.L s.W s.E s.es) (Nb s.L s.W s.E s.es):=tb.guess (ok.full hG) cl
  have wf:=tb.wf g
  refine⟨_,(Ad (F4 (pvD 0) (Bm (pvD 0) W.cl_j1 Ft Fq (hr.mono (by decide)) Fs .nil Ay) rfl)
   (Ad (F4 (pvD 0) (Bm (pvD 0) W.cl_j1 Fw Fu (hr.mono (by decide)) Fv .nil Ay) rfl)
   (Ad (Cv (ptT (Az V4 (AQ (pvD 0) rfl) F3 (Bh _)))
   (Ac (As (GJ (Aa Bn (Aa (AQ (pvD 0) rfl) Af)))))
   AR)
   (Ac (As F3))))),?_⟩
  walk_at "rd"
  refine⟨_,_,x.ob,by kernel_rfl,a,ad,s,wv,rfl,⟨_,_,_,_,_,x⟩,sz,tb,ok.full hG,hst,fun h H1 s1 hh=>?_⟩
  have x1:=x.same s1
  refine⟨_,_,_,x1.ob,W.cl_j1,W.n_SayHunt_guess,Qg ..,?_⟩
  rw[Fr_]
  have x2:=x1.put (wv':=wv) (gv':=.ref h) (rv':=rv) (s':={s with gs:=some (HV s.L s.W s.E s.es,Nb s.L s.W s.E s.es)}) rfl rfl rfl rfl rfl rfl ⟨h,rfl,hh⟩ x1.rv
  have f2:=(Frm.of s1 a ad).seq (x1.putF (.ins C_j1 ad.dx (afl wv s.L s.most ad.b ad.pw ad.pe ad.pg (.ref h) rv)))
  refine⟨_,_,x2.ob,by kernel_rfl,a,ad,_,wv,_,_,rfl,⟨_,_,_,_,_,x2⟩,rfl,wf,fun e he=>⟨⟨(tb.bW e he).1,ok.ne e he⟩,sz.b e he⟩,fun H3 s3=>⟨fun hno=>?_,fun v t hv ht=>?_⟩⟩
  ·have el:KJ s=({s with gs:=some (HV s.L s.W s.E s.es,Nb s.L s.W s.E s.es),wr:=none},some (.shown (HV s.L s.W s.E s.es) (Nb s.L s.W s.E s.es))):=by
    unfold KJ
    rw[hst]
    dsimp only
    rw[hno]
   have x3:=x2.same s3
   refine⟨_,_,_,x3.ob,W.cl_j1,W.n_SayHunt_wrong,Qg ..,?_⟩
   rw[Tx]
   have x4:=x3.put (wv':=wv) (gv':=.ref h) (rv':=.non) (s':={s with gs:=some (HV s.L s.W s.E s.es,Nb s.L s.W s.E s.es),wr:=none}) rfl rfl rfl rfl rfl rfl x3.gv rfl
   have f4:=(f2.seq (Frm.of s3 a ad)).seq (x3.putF (.ins C_j1 ad.dx (afl wv s.L s.most ad.b ad.pw ad.pe ad.pg (.ref h) .non)))
   refine⟨_,_,_,x4.ob,W.cl_j1,W.n_SayHunt_wrong,_,M6 ..,?_⟩
   rw[if_pos rfl]
   refine⟨_,_,_,x4.ob,W.cl_j1,W.n_SayHunt_guess,_,SF ..,by lia,fun p hp=>?_⟩
   refine k _ _ ?_ (f4.seq (Frm.of (Same.new hp) a ad)) ?_ ?_
   ·rw[el];exact⟨_,_,_,_,_,x4.same (Same.new hp)⟩
   ·rw[el];exact fun z=>by cases z
   ·rw[el]
    intro y z
    cases z
    refine⟨p,h,rfl,Ae,?_⟩
    obtain⟨h',e',hh'⟩:=(x4.same (Same.new hp)).gv
    cases e'
    exact hh'
  ·have el:KJ s=({s with gs:=some (HV s.L s.W s.E s.es,Nb s.L s.W s.E s.es),wr:=some v},none):=by
    unfold KJ
    rw[hst]
    dsimp only
    rw[hv]
   have x3:=x2.same s3
   refine⟨_,_,_,x3.ob,W.cl_j1,W.n_SayHunt_wrong,Qg ..,?_⟩
   rw[Tx]
   have x4:=x3.put (wv':=wv) (gv':=.ref h) (rv':=.ref t) (s':={s with gs:=some (HV s.L s.W s.E s.es,Nb s.L s.W s.E s.es),wr:=some v}) rfl rfl rfl rfl rfl rfl x3.gv ⟨t,rfl,ht⟩
   have f4:=(f2.seq (Frm.of s3 a ad)).seq (x3.putF (.ins C_j1 ad.dx (afl wv s.L s.most ad.b ad.pw ad.pe ad.pg (.ref h) (.ref t))))
   refine⟨_,_,_,x4.ob,W.cl_j1,W.n_SayHunt_wrong,_,M6 ..,?_⟩
   rw[if_neg (by simp)]
   refine k _ _ ?_ f4 ?_ ?_
   ·rw[el];exact⟨_,_,_,_,_,x4⟩
   ·rw[el];exact fun _=>rfl
   ·rw[el];exact fun y z=>by cases z
noncomputable def N2 (K:PySem.W.Frag)(CA CB:Addr)(pre:AS->Prop)(f:AS->AS×Option Wish):Sp:=fun vs H Q _=>∃(a:Addr) (ad:AD) (s:AS) (wv:V) (B:Nat),vs=[.ref a]/\Asks K CA CB H a ad s wv/\OkX none B s/\Bd B s/\pre s/\∀ad' H' r,Asks K CA CB H' a ad' (f s).1 wv->Frm H H' a ad->AdOk H ad ad'->((f s).2=none->r=.non)->(∀x,(f s).2=some x->Cg K H' s.L r x)->Q r H'
theorem KN   (F:Fun K "look_at_words" "Asker.look_at_words" Bv f fd)(T:Txt mg)
  (W:Own K mg C_j7 C_j9 C_jj C_ja C_j1 C_j4)
  (Z:Exs K mg C_j8 C_j5 C_j6 C_j3 C_j2 C_j0)
   (AV:FnOk P w K mg base CX0 3 An A0 ["self"] (SH K C_j1 C_j7)) (Be:Fun K "look_for_gaps" "Asker.look_for_gaps" AU An A0) (AW:Ap K A0 ["self"] []) (AX:Meth K C_j1 "look_for_gaps" An)
   (Fx:FnOk P w K mg base CX0 8 Bq Hw ["self"] (Zb K C_j1 C_j7)) (DQ:Fun K "look_at_guess" "Hunt.look_at_guess" BD Bq Hw) (Fy:Ap K Hw ["self"] []) (Fz:Meth K C_j1 "look_at_guess" Bq)
   (Qj:FnOk P w K mg base CX0 4 Im TJ ["book","letters","access","ends"] (We K C_j7)) (JV:Fun K "stranger" "stranger" GY Im TJ) (Qk:Ap K TJ ["book","letters","access","ends"] []) (Ql:mg "stranger"=some (.ref Im))
  : FnOk P w K mg base CX0 9 f fd ["self"] (N2 K C_j1 C_j7 (fun s=>s.G=[]/\s.wr=none) KJ):=by
 refine F.ok GK (fun vs H Q E h=>?_) (fun cdv A outer s H vs Q E hr h=>?_)
 ·obtain⟨a,ad,s,wv,B,rfl,_⟩:=h;rfl
 ·obtain⟨a,ad,s,wv,B,rfl,⟨gv,rv,zs,ys,us,x⟩,ok,bd,⟨hG,hwr⟩,k⟩:=h
  have hl:=Ao
  have sz:=ok.sz bd
  have tb:=ok.tb
  have w1:=sz.w.1
  have e1:=sz.e.1
  refine⟨_,(Ad (AE (i:=1) GK.nd (Aj Qj (hr.mono (by decide)) rfl Ql JV.kp Qk .nil Ay (Aa (AQ (pvD 0) rfl) (Aa (AQ (pvD 0) rfl) (Aa (AQ (pvD 0) rfl) (Aa (AQ (pvD 0) rfl) Af))))))
   (Ad (Cv (ptT (Az V4 (pvD 1) F3 (Bh _)))
   (Ac (As (Bm (pvD 0) W.cl_j1 Fz Fx (hr.mono (by decide)) Fy .nil Ay)))
   AR)
   (Ad (Cv (ptT (Az (opE NS) (C4 (lenD Dm) (by rfl) T.len PySem.boot_len (Aa (AQ (pvD 0) rfl) Af)) (AQ (pvD 0) rfl) (Bh _)))
   (Ac (As (GJ (Aa Bn (Aa (pvD 1) Af)))))
   AR)
   (Ad (Ba (CV_ PySem.F.plainAttrs_list PySem.F.slot_list_append PySem.F.type_list_append Lk (AQ (pvD 0) rfl) (Aa (pvD 1) Af)))
   (Ad (Ba (Bm (pvD 0) W.cl_j1 AX AV (hr.mono (by decide)) AW .nil Ay))
   (Ac (As F3))))))),?_⟩
  walk_at "rd"
  refine⟨_,_,_,x.ob,W.cl_j1,W.n_SayHunt_book,_,Ke ..,_,_,_,x.ob,W.cl_j1,W.n_SayHunt_letters,_,Il ..,_,_,_,x.ob,W.cl_j1,W.n_SayHunt_ways,_,Kf ..,_,_,_,x.ob,W.cl_j1,W.n_SayHunt_ends,_,Qf ..,ad.b,ad.d,ad.pw,ad.pe,s.L,s.L,s.es,zs,ys,s.W,s.E,gOf s.E s.es,rfl,x.bk,sz.l6,SqL.of x.w,x.wW,by lia,fun v hv=>by have:=sz.w.2 v hv;lia,SqL.of x.e,x.eW,by lia,sz.e.2,fun v hv=>Fo_ (ok.full hG) hv,fun r t H1 hst s1 ht=>?_,fun H1 hst s1=>?_⟩
  ·dsimp only
   rw[if_neg (by simp)]
   have x1:=x.same s1
   have f1:=Frm.of s1 a ad
   have k1:=AdOk.refl H ad
   refine⟨_,_,_,x1.ob,W.cl_j1,W.n_SayHunt_ways,_,Kf ..,ad.pw,rfl,_,.inl (SqL.of x1.w),_,_,_,x1.ob,W.cl_j1,W.n_SayHunt_most,_,IM_ ..,rfl,?_⟩
   rw[x1.wW.1]
   by_cases hm:s.W.length=s.most
   ·rw[if_pos (by rw[hm])]
    have el:KJ s=(s,some (.spent r)):=by
     unfold KJ
     rw[show M5 s.L s.W s.E s.es=some r from hst]
     dsimp only
     rw[if_pos hm]
    refine⟨by lia,fun p hp=>?_⟩
    refine k ad _ _ ?_ (f1.seq (Frm.of (Same.new hp) a ad)) k1 ?_ ?_
    ·rw[el];exact⟨_,_,_,_,_,x1.same (Same.new hp)⟩
    ·rw[el];exact fun z=>by cases z
    ·rw[el]
     intro y z
     cases z
     exact⟨p,t,rfl,Ae,Same.new hp _ _ ht⟩
   ·rw[if_neg (fun z=>hm (by have:=V.int.inj z;lia))]
    have el:KJ s=({s with W:=s.W++[r],G:=ON s.L (s.W++[r]) s.E s.es},none):=by
     unfold KJ
     rw[show M5 s.L s.W s.E s.es=some r from hst]
     dsimp only
     rw[if_neg hm]
    have x2:=x1.putW (x1.wW.snoc ht)
    have f2:=f1.seq (Frm.put (a:=a) (o:=.lst (zs++[.ref t])) (.inl rfl) ⟨_,x1.w⟩)
    obtain⟨o2,kp,_⟩:=(Fp_ ok hG hwr).1 _ el
    have sz2:=o2.sz (B:=B) bd
    refine⟨_,_,_,x1.ob,W.cl_j1,W.n_SayHunt_ways,_,Kf ..,.inl ⟨rfl,_,SqL.of x1.w⟩,ad.pw,rfl,_,x1.w,by rw[x1.wW.1];lia,_,_,x2.ob,by kernel_rfl,a,ad,_,wv,rfl,⟨_,_,_,_,_,x2⟩,⟨sz2.l6,sz2.w,sz2.e,sz2.b⟩,fun ad' H3 x3 f3 k3=>?_⟩
    refine k ad' H3 _ ?_ (f2.trans k1 f3) (AdOk.trans f2 k1 k3) ?_ ?_
    ·rw[el];exact x3
    ·rw[el];exact fun _=>rfl
    ·rw[el];exact fun y z=>by cases z
  ·dsimp only
   rw[if_pos rfl]
   have x1:=x.same s1
   have f1:=Frm.of s1 a ad
   have k1:=AdOk.refl H ad
   exact⟨_,_,x1.ob,by kernel_rfl,a,ad,s,wv,B,rfl,⟨_,_,_,_,_,x1⟩,ok,hG,bd,hst,fun H3 r x3 f3=>k ad H3 r x3 (f1.seq f3) k1⟩
theorem Vb   (F:Fun K "halve" "Asker.halve" Eh f fd)(T:Txt mg)
  (W:Own K mg C_j7 C_j9 C_jj C_ja C_j1 C_j4)
  (Z:Exs K mg C_j8 C_j5 C_j6 C_j3 C_j2 C_j0)
   (W3:FnOk P w K mg base CX0 4 M7 Zc ["book","access","guess","word","mark","last"] (Za K C_j7)) (OQ:Fun K "halved" "halved" J8 M7 Zc) (W4:Ap K Zc ["book","access","guess","word","mark","last"] []) (W5:mg "halved"=some (.ref M7))
   (AV:FnOk P w K mg base CX0 3 An A0 ["self"] (SH K C_j1 C_j7)) (Be:Fun K "look_for_gaps" "Asker.look_for_gaps" AU An A0) (AW:Ap K A0 ["self"] []) (AX:Meth K C_j1 "look_for_gaps" An)
   (C9:FnOk P w K mg base CX0 6 Bi DT ["self","house","word"] (N1 K)) (Dc:Fun K "answer" "SayHunt.answer" Cc Bi DT) (Dd:Ap K DT ["self","house","word"] []) (De:Meth K C_j1 "answer" Bi)
  : FnOk P w K mg base CX0 7 f fd ["self"] (N2 K C_j1 C_j7 (fun s=>s.G=[]/\s.wr≠none) Gp):=by
 refine F.ok Hf (fun vs H Q E h=>?_) (fun cdv A outer s H vs Q E hr h=>?_)
 ·obtain⟨a,ad,s,wv,B,rfl,_⟩:=h;rfl
 ·obtain⟨a,ad,s,wv,B,rfl,⟨gv,rv,zs,ys,us,x⟩,ok,bd,⟨hG,hwr⟩,k⟩:=h
  have hl:=Ao
  have sz:=ok.sz bd
  have tb:=ok.tb
  have w1:=sz.w.1
  have e1:=sz.e.1
  obtain⟨v,hv⟩:=Option.ne_none_iff_exists'.mp hwr
  obtain⟨_,hEW,hvW,hvl,m,ws,tt,hgs,g,htt,hne⟩:=ok.wr v hv
  have en:Gp s=Tu s v m ws:=by
   unfold Gp
   rw[hG,hv,hgs]
  have wf:=tb.wf g
  have hgv:=x.gv
  rw[hgs]at hgv
  obtain⟨h,rfl,hh⟩:=hgv
  have hrv:=x.rv
  rw[hv]at hrv
  obtain⟨t,rfl,ht⟩:=hrv
  refine⟨_,(Ad (AE (i:=1) Hf.nd (DF (pvD 0) W.cl_j1 De C9 (hr.mono (by decide)) Dd .nil Ay (Aa (AQ (pvD 0) rfl) (Aa (AQ (pvD 0) rfl) Af))))
   (Ad (AE (i:=2) Hf.nd (Bu (opD0 DV_) (C4 (lenD Dm) (by rfl) T.len PySem.boot_len (Aa (AQ (pvD 0) rfl) Af)) (C4 (lenD Dm) (by rfl) T.len PySem.boot_len (Aa (BG (ixLD Jn) (AQ (pvD 0) rfl) Ai) Af))))
   (Ad (AE (i:=3) Hf.nd (Aj W3 (hr.mono (by decide)) rfl W5 OQ.kp W4 .nil Ay (Aa (AQ (pvD 0) rfl) (Aa (AQ (pvD 0) rfl) (Aa (AQ (pvD 0) rfl) (Aa (AQ (pvD 0) rfl) (Aa (pvD 1) (Aa (pvD 2) Af))))))))
   (Ad (Cv (ptT (Az (opE NS) (BG (ixTD CZ) (pvD 3) Ai) Bn (Bh _)))
   (Ac (As (pvD 3)))
   AR)
   (Ad (F4 (pvD 0) F3 rfl)
   (Ad (Ba (CV_ PySem.F.plainAttrs_list PySem.F.slot_list_append PySem.F.type_list_append Lk (AQ (pvD 0) rfl) (Aa (BG (ixTD CZ) (pvD 3) Ai) Af)))
   (Ad (Ba (Bm (pvD 0) W.cl_j1 AX AV (hr.mono (by decide)) AW .nil Ay))
   (Ac (As F3))))))))),?_⟩
  walk_at "rd"
  obtain⟨hvn,_,_,hv1⟩:=Y7 ok g hvW htt hne
  have hvl2:v.length<=600:=by
   have:=ok.lens
   unfold Bd at bd
   lia
  refine⟨_,_,x.ob,by kernel_rfl,_,_,_,x.ob,W.cl_j1,W.n_SayHunt_guess,_,SF ..,_,_,_,x.ob,W.cl_j1,W.n_SayHunt_wrong,_,M6 ..,a,h,t,s.L,m,ws,v,rfl,hh.house,wf,SqT.of ht,hvl2,hvW,hvn,fun H1 s1=>?_⟩
  have x1:=x.same s1
  have f1:=Frm.of s1 a ad
  have k1:=AdOk.refl H ad
  obtain⟨t0,q1,q2⟩:=x1.eW.2 0 [0] tb.ends0
  have ht1:=s1 _ _ ht
  refine⟨_,_,_,x1.ob,W.cl_j1,W.n_SayHunt_wrong,_,M6 ..,t,rfl,_,.inr (SqT.of ht1),_,_,_,x1.ob,W.cl_j1,W.n_SayHunt_ends,_,Qf ..,ad.pe,rfl,_,SqL.of x1.e,_,PX (j:=0) q1,t0,rfl,_,.inr (SqT.of q2),_,_,_,x1.ob,W.cl_j1,W.n_SayHunt_book,_,Ke ..,_,_,_,x1.ob,W.cl_j1,W.n_SayHunt_ways,_,Kf ..,_,_,_,x1.ob,W.cl_j1,W.n_SayHunt_guess,_,SF ..,_,_,_,x1.ob,W.cl_j1,W.n_SayHunt_wrong,_,M6 ..,ad.b,ad.d,ad.pw,h,t,s.L,s.es,zs,s.W,m,ws,v,lsay m ws v,v.length-1,by simp;lia,x1.bk,x1.w,x1.wW,(hh.mono (TK.of s1)).house,wf,ht1,hvW,hv1,by lia,hvl2,sz.w.2,fun i _=>Tw tb g hvW i,fun H2 s2=>⟨fun c u t' hc hu ht'=>?_,fun hi u t' hc hu ht'=>?_⟩⟩
  ·have el:Gp s=(s,some (.ask c)):=by
    rw[en]
    unfold Tu
    rw[hc]
   refine⟨t',rfl,_,SqT.of ht',_,rfl,rfl,?_⟩
   rw[if_pos rfl]
   refine k ad H2 _ ?_ (f1.seq (Frm.of s2 a ad)) k1 ?_ ?_
   ·rw[el];exact⟨_,_,_,_,_,x1.same s2⟩
   ·rw[el];exact fun z=>by cases z
   ·rw[el]
    intro y z
    cases z
    exact⟨t',u,rfl,ht',hu⟩
  ·have el:Gp s=({s with wr:=none,E:=s.E++[v.drop hi],G:=ON s.L s.W (s.E++[v.drop hi]) s.es},none):=by
    rw[en]
    unfold Tu
    rw[hc]
   have x2:=x1.same s2
   have f2:=f1.seq (Frm.of s2 a ad)
   refine⟨t',rfl,_,SqT.of ht',_,rfl,rfl,?_⟩
   rw[if_neg (fun z=>absurd (V.str.inj z) (by decide +kernel))]
   refine⟨_,_,_,x2.ob,W.cl_j1,W.n_SayHunt_wrong,Qg ..,?_⟩
   rw[Tx]
   have x3:=x2.put (wv':=wv) (gv':=.ref h) (rv':=.non) (s':={s with wr:=none}) rfl rfl rfl rfl rfl rfl x2.gv rfl
   have f3:=f2.seq (x2.putF (.ins C_j1 ad.dx (afl wv s.L s.most ad.b ad.pw ad.pe ad.pg (.ref h) .non)))
   have tk3:=x2.tkob (.ins C_j1 ad.dx (afl wv s.L s.most ad.b ad.pw ad.pe ad.pg (.ref h) .non))
   have ht3:=tk3 _ _ ht'
   have hu3:=tk3 _ _ hu
   have x4:=x3.putE (x3.eW.snoc hu3)
   have f4:=f3.seq (Frm.put (a:=a) (o:=.lst (ys++[.ref u])) (.inr (.inl rfl)) ⟨_,x3.e⟩)
   obtain⟨o2,kp,_⟩:=(WY ok).1 _ el
   have sz2:=o2.sz (B:=B) bd
   refine⟨_,_,_,x3.ob,W.cl_j1,W.n_SayHunt_ends,_,Qf ..,.inl ⟨rfl,_,SqL.of x3.e⟩,t',rfl,_,SqT.of ht3,_,rfl,ad.pe,rfl,_,x3.e,by rw[x3.eW.1];show s.E.length<_;lia,_,_,x4.ob,by kernel_rfl,a,ad,_,wv,rfl,⟨_,_,_,_,_,x4⟩,⟨sz2.l6,sz2.w,sz2.e,sz2.b⟩,fun ad' H3 x5 f5 k5=>?_⟩
   refine k ad' H3 _ ?_ (f4.trans k1 f5) (AdOk.trans f4 k1 k5) ?_ ?_
   ·rw[el];exact x5
   ·rw[el];exact fun _=>rfl
   ·rw[el];exact fun y z=>by cases z
theorem Qm   (F:Fun K "next_wish" "Hunt.next_wish" Cu f fd)(T:Txt mg)
  (W:Own K mg C_j7 C_j9 C_jj C_ja C_j1 C_j4)
  (Z:Exs K mg C_j8 C_j5 C_j6 C_j3 C_j2 C_j0)
   (Kg:FnOk P w K mg base CX0 7 Dr NB ["self"] (N2 K C_j1 C_j7 (fun s=>s.G=[]/\s.wr≠none) Gp)) (Ib:Fun K "halve" "Asker.halve" Eh Dr NB) (Kh:Ap K NB ["self"] []) (Ki:Meth K C_j1 "halve" Dr)
   (E2:FnOk P w K mg base CX0 9 Bf GO ["self"] (N2 K C_j1 C_j7 (fun s=>s.G=[]/\s.wr=none) KJ)) (Ds:Fun K "look_at_words" "Asker.look_at_words" Bv Bf GO) (E3:Ap K GO ["self"] []) (E4:Meth K C_j1 "look_at_words" Bf)
  : FnOk P w K mg base CX0 10 f fd ["self"] (N2 K C_j1 C_j7 (fun _=>True) Gp):=by
 refine F.ok P6 (fun vs H Q E h=>?_) (fun cdv A outer s H vs Q E hr h=>?_)
 ·obtain⟨a,ad,s,wv,B,rfl,_⟩:=h;rfl
 ·obtain⟨a,ad,s,wv,B,rfl,⟨gv,rv,zs,ys,us,x⟩,ok,bd,_,k⟩:=h
  have hl:=Ao
  refine⟨_,(Ad (Cv (ptT (Az (opD0 Ia_) (C4 (lenD Dm) (by rfl) T.len PySem.boot_len (Aa (AQ (pvD 0) rfl) Af)) Ai (Bh _)))
   (Ac (As (GJ (Aa Bn (Aa (CV_ PySem.F.plainAttrs_list PySem.F.slot_list_pop PySem.F.type_list_pop FR_ (AQ (pvD 0) rfl) (Aa Ai Af)) Af)))))
   AR)
   (Ad (Cv (ptT (Az Ib_ (AQ (pvD 0) rfl) F3 (Bh _)))
   (Ac (As (Bm (pvD 0) W.cl_j1 Ki Kg (hr.mono (by decide)) Kh .nil Ay)))
   AR)
   (Ac (As (Bm (pvD 0) W.cl_j1 E4 E2 (hr.mono (by decide)) E3 .nil Ay))))),?_⟩
  walk_at "rd"
  refine⟨_,_,_,x.ob,W.cl_j1,W.n_SayHunt_gaps,_,Fq_ ..,ad.pg,rfl,_,.inl (SqL.of x.g),?_⟩
  cases hG:s.G with
  |cons c r=>
   have hgl:us.length=r.length+1:=by rw[x.gW.1,hG];rfl
   have hgW:=x.gW
   rw[hG]at hgW
   obtain⟨tc,g1,g2⟩:=hgW.2 0 c rfl
   rw[if_pos s!""]
   have el:Gp s=({s with G:=r},some (.ask c)):=by
    unfold Gp
    rw[hG]
   have x2:=x.putG (Au.tail39 hgW)
   have f2:Frm H (upd H ad.pg (.lst (us.eraseIdx 0))) a ad:=Frm.put (.inr (.inr (.inl rfl))) ⟨_,x.g⟩
   have tk2:=TK.lst x.g (o:=.lst (us.eraseIdx 0))
   refine⟨_,_,_,x.ob,W.cl_j1,W.n_SayHunt_gaps,_,Fq_ ..,.inl ⟨rfl,_,SqL.of x.g⟩,ad.pg,rfl,_,x.g,by decide,by decide,0,Kr_ (i:=0) s!"",_,g1,by lia,fun p hp=>?_⟩
   refine k ad _ _ ?_ (f2.seq (Frm.of (Same.new hp) a ad)) (AdOk.refl H ad) ?_ ?_
   ·rw[el];exact⟨_,_,_,_,_,x2.same (Same.new hp)⟩
   ·rw[el];exact fun z=>by cases z
   ·rw[el]
    intro y z
    cases z
    exact⟨p,tc,rfl,Ae,Same.new hp _ _ (tk2 _ _ g2)⟩
  |nil=>
   rw[if_neg (by rw[x.gW.1,hG];simp)]
   refine⟨_,_,_,x.ob,W.cl_j1,W.n_SayHunt_wrong,_,M6 ..,?_⟩
   cases hwr:s.wr with
   |none=>
    have hrv:=x.rv
    rw[hwr]at hrv
    have hrv:rv=.non:=hrv
    subst hrv
    have en:Gp s=KJ s:=by
     unfold Gp
     rw[hG,hwr]
    rw[en]at k
    rw[if_neg (by simp)]
    exact⟨_,_,x.ob,by kernel_rfl,a,ad,s,wv,B,rfl,⟨_,_,_,_,_,x⟩,ok,bd,⟨hG,hwr⟩,k⟩
   |some v=>
    have hrv:=x.rv
    rw[hwr]at hrv
    obtain⟨t,rfl,ht⟩:=hrv
    rw[if_pos (by simp)]
    exact⟨_,_,x.ob,by kernel_rfl,a,ad,s,wv,B,rfl,⟨_,_,_,_,_,x⟩,ok,bd,⟨hG,by rw[hwr];simp⟩,k⟩
noncomputable def W6 (K:PySem.W.Frag)(CA CB:Addr):Sp:=fun vs H Q _=>∃(a:Addr) (ad:AD) (s:AS) (wv:V) (B:Nat),vs=[.ref a]/\Asks K CA CB H a ad s wv/\OkX none B s/\Bd B s/\∀ad' H' s' x wv',Goes s s' x->Asks K CA CB H' a ad' s' wv'->Cg K H' s.L wv' x->Frm H H' a ad->AdOk H ad ad'->Q .non H'
theorem Vc   (F:Fun K "go_on" "Turns.go_on" Cw f fd)(T:Txt mg)
  (W:Own K mg C_j7 C_j9 C_jj C_ja C_j1 C_j4)
  (Z:Exs K mg C_j8 C_j5 C_j6 C_j3 C_j2 C_j0)
   (FK:FnOk P w K mg base CX0 10 Ce JW ["self"] (N2 K C_j1 C_j7 (fun _=>True) Gp)) (FL:Fun K "next_wish" "Hunt.next_wish" Cu Ce JW) (FN:Ap K JW ["self"] []) (FO:Meth K C_j1 "next_wish" Ce)
  : FnOk P w K mg base CX0 11 f fd ["self"] (W6 K C_j1 C_j7):=by
 refine F.ok U5 (fun vs H Q E h=>?_) (fun cdv A outer s H vs Q E hr h=>?_)
 ·obtain⟨a,ad,s,wv,B,rfl,_⟩:=h;rfl
 ·obtain⟨a,ad,s,wv,B,rfl,⟨gv,rv,zs,ys,us,x⟩,ok,bd,k⟩:=h
  have hl:=Ao
  refine⟨_,(Ad (F4 (pvD 0) (Bm (pvD 0) W.cl_j1 FO FK (hr.mono (by decide)) FN .nil Ay) rfl)
   (Ac (Wq PassesOwn.never (ptT (Az V4 (AQ (pvD 0) rfl) F3 (Bh _)))
   (Ac (F4 (pvD 0) (Bm (pvD 0) W.cl_j1 FO FK (hr.mono (by decide)) FN .nil Ay) rfl))))),?_⟩
  walk_at "rd"
  obtain⟨Pv,hPv⟩:∃Pv:Nat->St->Hp->Prop,∀n σ' H',Pv n σ' H'↔(∃(ad1:AD) (s1:AS) (wv1:V),Asks K C_j1 C_j7 H' a ad1 s1 wv1/\Frm H H' a ad/\AdOk H ad ad1/\σ'=[some (.ref a)]/\((wv1=.non/\OkX none B s1/\Kept s s1/\(∀s' y,Goes s1 s' y->Goes s s' y)/\n=mu s1+1) \/ ∃y,Cg K H' s.L wv1 y/\Goes s s1 y/\n=0)):=⟨_,fun _ _ _=>Iff.rfl⟩
  have step:∀(s1:AS) (ad1:AD) (wv1:V) (H1:Hp) (M:Nat),Asks K C_j1 C_j7 H1 a ad1 s1 wv1->Frm H H1 a ad->AdOk H ad ad1->OkX none B s1->Kept s s1->(∀s' y,Goes s1 s' y->Goes s s' y)->mu s1<=M->∃x x_1,H1 a=some (HO.ins C_j1 x x_1)/\List.lookup ("next_wish" : Str) x_1=none/\N2 K C_j1 C_j7 (fun x=>True) Gp [V.ref a] H1 (fun y H1=>∃x x_2 x_3,H1 a=some (HO.ins x x_2 x_3)/\Cls K x/\Fo K x ("wish" : Str)/\x_3.length<1000/\∃m',m'<M+1/\Pv m' [some (V.ref a)] (upd H1 a (HO.ins x x_2 (putF ("wish" : Str) y x_3)))) E0:=by
   rintro s1 ad1 wv1 H1 M ⟨gv,rv,zs,ys,us,x1⟩ f1 k1 ok1 kp1 go1 hM
   refine⟨_,_,x1.ob,by kernel_rfl,a,ad1,s1,wv1,B,rfl,⟨_,_,_,_,_,x1⟩,ok1,by unfold Bd at bd ⊢;rw[kp1.m,kp1.l];exact bd,trivial,fun ad2 H2 r x2 f2 k2 hN hS=>?_⟩
   obtain⟨gv2,rv2,zs2,ys2,us2,x2⟩:=x2
   refine⟨_,_,_,x2.ob,W.cl_j1,W.n_SayHunt_wish,Qg ..,?_⟩
   rw[Cw_]
   have x3:=x2.put (wv':=r) (gv':=gv2) (rv':=rv2) (s':=(Gp s1).1) rfl rfl rfl rfl rfl rfl x2.gv x2.rv
   have f3:=(f1.trans k1 f2).trans (AdOk.trans f1 k1 k2) (x2.putF (.ins C_j1 ad2.dx (afl r (Gp s1).1.L (Gp s1).1.most ad2.b ad2.pw ad2.pe ad2.pg gv2 rv2)))
   have tk:=x2.tkob (.ins C_j1 ad2.dx (afl r (Gp s1).1.L (Gp s1).1.most ad2.b ad2.pw ad2.pe ad2.pg gv2 rv2))
   have k3:=AdOk.trans f1 k1 k2
   cases hn:(Gp s1).2 with
   |none=>
    have e1:Gp s1=((Gp s1).1,none):=by rw[<-hn]
    obtain⟨ok2,kp2,hmu⟩:=(WY ok1).1 _ e1
    refine⟨mu (Gp s1).1+1,by lia,(hPv _ _ _).mpr ⟨ad2,_,r,⟨_,_,_,_,_,x3⟩,f3,k3,rfl,.inl ⟨hN hn,ok2,⟨kp2.l.trans kp1.l,kp2.m.trans kp1.m,kp2.e.trans kp1.e⟩,fun s' y hy=>go1 s' y (.more e1 hy),rfl⟩⟩⟩
   |some y=>
    have e1:Gp s1=((Gp s1).1,some y):=by rw[<-hn]
    have hw:=(hS y hn).mono tk
    rw[kp1.l]at hw
    exact⟨0,by lia,(hPv _ _ _).mpr ⟨ad2,_,r,⟨_,_,_,_,_,x3⟩,f3,k3,rfl,.inr ⟨y,hw,go1 _ _ (.stop e1),rfl⟩⟩⟩
  obtain⟨c1,c2,c3,c4,c5⟩:=step s ad wv H (mu s+1) ⟨_,_,_,_,_,x⟩ (Frm.of (Same.refl _) a ad) (AdOk.refl H ad) ok ⟨rfl,rfl,rfl⟩ (fun _ _ z=>z) s!""
  refine⟨c1,c2,c3,c4,?_⟩
  obtain⟨a',ad',s',wv',B',e1,e2,e3,e4,e5,e6⟩:=c5
  refine⟨a',ad',s',wv',B',e1,e2,e3,e4,e5,fun ad2 H2 r x2 f2 k2 hN hS=>?_⟩
  obtain⟨d1,d2,d3,d4,d5,d6,d7,m',_,d8⟩:=e6 ad2 H2 r x2 f2 k2 hN hS
  refine⟨d1,d2,d3,d4,d5,d6,d7,EE_ Pv ⟨m',d8⟩ fun n σ' H' h'=>?_⟩
  obtain⟨ad1,s1,wv1,⟨gv,rv,zs,ys,us,x1⟩,f1,k1,rfl,hh⟩:=(hPv _ _ _).mp h'
  walk_at "rd"
  refine⟨_,_,_,x1.ob,W.cl_j1,W.n_SayHunt_wish,_,N0 ..,?_⟩
  rcases hh with ⟨rfl,ok1,kp1,go1,hn⟩|⟨y,hw,go1,hn⟩
  ·rw[if_pos rfl]
   refine⟨fun σ2 H2=>∃m',m'<n/\Pv m' σ2 H2,fun _ _ z=>z,?_⟩
   subst hn
   exact step s1 ad1 _ H' (mu s1) ⟨_,_,_,_,_,x1⟩ f1 k1 ok1 kp1 go1 s!""
  ·obtain⟨t,u,e,_⟩:=id hw
   rw[if_neg (by rw[e];simp)]
   exact k ad1 _ s1 y wv1 go1 ⟨_,_,_,_,_,x1⟩ hw f1 k1
noncomputable def HM_ (K:PySem.W.Frag)(CA CB:Addr)(H:Hp)(a:Addr)(ad:AD)(s:AS)(Q:VK):Prop:=∀ad' H' s' x' wv',Goes s s' x'->Asks K CA CB H' a ad' s' wv'->Cg K H' s.L wv' x'->Frm H H' a ad->AdOk H ad ad'->Q .non H'
noncomputable def W7 (K:PySem.W.Frag)(CA CB OT BM:Addr):Sp:=fun vs H Q E=>∃(a:Addr) (ad:AD) (s:AS) (wv:V) (x:Wish) (B:Nat) (m:Int),vs=[.ref a,.int m]/\Asks K CA CB H a ad s wv/\Cg K H s.L wv x/\WOk B s x/\Bd B s/\s.es.length<=100000/\(x.tag ≠ "ask" -> E (.ref OT) none H)/\∀c,x=.ask c->(¬ (0<=m/\m<=1000000000)->∀H',Same H H'->E (.ref BM) none H')/\(0<=m->m<=1000000000->HM_ K CA CB H a ad {s with es:=s.es++[(c,m)]} Q)
theorem N3   (F:Fun K "keep_answer" "Hunt.keep_answer" B6 f fd)(T:Txt mg)
  (W:Own K mg C_j7 C_j9 C_jj C_ja C_j1 C_j4)
  (Z:Exs K mg C_j8 C_j5 C_j6 C_j3 C_j2 C_j0)
   (Io:FnOk P w K mg base (CXe P w) 4 DU IJ ["self","word","mark"] (LD C_j7 C_j5 C_j6 C_j0)) (Ip:Fun K "put" "Book.put" F7 DU IJ) (Iq:Ap K IJ ["self","word","mark"] []) (Ir:Meth K C_j7 "put" DU)
   (AF:FnOk P w K mg base (CXe P w) 1 Am AI ["self","deed"] (LJ K C_j1 C_j7 C_j3)) (AZ:Fun K "check_wants" "Turns.check_wants" AY Am AI) (AG:Ap K AI ["self","deed"] []) (AH:Meth K C_j1 "check_wants" Am)
   (Cy:FnOk P w K mg base CX0 11 Bt CK ["self"] (W6 K C_j1 C_j7)) (Du:Fun K "go_on" "Turns.go_on" Cw Bt CK) (Cz:Ap K CK ["self"] []) (CC:Meth K C_j1 "go_on" Bt)
  : FnOk P w K mg base (CXe P w) 12 f fd ["self","number"] (W7 K C_j1 C_j7 C_j3 C_j6):=by
 refine F.okE NW (fun vs H Q E h=>?_) (fun cdv A outer s H vs Q E hr h=>?_)
 ·obtain⟨a,ad,s,wv,x,B,m,rfl,_⟩:=h;rfl
 ·obtain⟨a,ad,s,wv,y,B,m,rfl,⟨gv,rv,zs,ys,us,x⟩,hw,ok,bd,hz,kE,k⟩:=h
  have hl:=Ao
  refine⟨_,(Ad (Ba (DF (pvD 0) W.cl_j1 AH AF (hr.mono (by decide)) AG .nil (JH fun _ _ _ h=>h) (Aa Bn Af)))
   (Ad (Ba (DF (AQ (pvD 0) rfl) W.cl_j7 Ir Io (hr.mono (by decide)) Iq .nil (JH fun _ _ _ h=>h) (Aa (BG (ixTD CZ) (AQ (pvD 0) rfl) Ai) (Aa (pvD 1) Af))))
   (Ac (Ba (Bm (pvD 0) W.cl_j1 CC Cy (hr.mono (by decide)) Cz .nil Ay))))),?_⟩
  walk_at "rd"
  refine⟨_,_,x.ob,by kernel_rfl,a,ad,s,wv,y,"ask",rfl,⟨_,_,_,_,_,x⟩,hw,fun htag=>?_,kE⟩
  cases y with
  |shown mm ws=>exact absurd htag (show ¬ ("show" : Str) = "ask" by decide +kernel)
  |done mm ws=>exact absurd htag (show ¬ ("done" : Str) = "ask" by decide +kernel)
  |spent c=>exact absurd htag (show ¬ ("spent" : Str) = "ask" by decide +kernel)
  |ask c=>
   obtain⟨t,u,rfl,ht,hu⟩:=hw
   obtain⟨kM,kk⟩:=k c rfl
   obtain⟨okc,hn,hc,hlen,hg⟩:=ok
   have hcw:=hc.1
   obtain⟨dxb,hb⟩:=x.bk.ob
   have hnk:c∉s.es.map (·.1):=fun z=>by
    obtain⟨n,hn'⟩:=Bg_.mp z
    rw[hn]at hn';cases hn'
   have hcl:c.length<=900:=by
    have h1:=okc.lens
    unfold Bd at bd
    split at hlen<;>lia
   refine⟨_,_,_,x.ob,W.cl_j1,W.n_SayHunt_book,_,Ke ..,ad.b,rfl,_,_,hb,He _ _ (by decide +kernel) (by decide +kernel),_,_,_,x.ob,W.cl_j1,W.n_SayHunt_wish,_,N0 ..,t,rfl,_,SqT.of ht,_,rfl,ad.b,ad.d,u,s.L,m,c,s.es,rfl,x.bk,hu,hcl,hz,fun z=>(by rw[hcw]at z;cases z),fun _ hm H' s'=>kM hm H' s',fun _ _ _ n hin _ _ _=>absurd (List.mem_map.mpr ⟨_,hin,rfl⟩) hnk,fun _ h0 h9 _ H' hb' hf=>?_⟩
   unfold putE at hb'
   rw[if_neg hnk]at hb'
   obtain⟨x2,f2,tk2⟩:=x.putB hb' hf
   exact⟨_,_,x2.ob,by kernel_rfl,a,ad,_,_,B,rfl,⟨_,_,_,_,_,x2⟩,okc.told (fun b hb=>(Option.some.inj hb).symm) hnk hc h0 h9 hlen hg,bd,fun ad' H3 s' y' wv' go x3 hw3 f3 k3=>kk h0 h9 ad' H3 s' y' wv' go x3 hw3 (f2.trans (AdOk.refl H ad) f3) (AdOk.trans f2 (AdOk.refl H ad) k3)⟩
noncomputable def CD_ (K:PySem.W.Frag)(CA CB OT:Addr):Sp:=fun vs H Q E=>∃(a:Addr) (ad:AD) (s:AS) (wv:V) (x:Wish),vs=[.ref a]/\Asks K CA CB H a ad s wv/\Cg K H s.L wv x/\(x.tag ≠ "show" -> E (.ref OT) none H)/\∀mm ws,x=.shown mm ws->∀H' wv',Asks K CA CB H' a ad s wv'->Cg K H' s.L wv' (.done mm ws)->Frm H H' a ad->Q .non H'
theorem W8   (F:Fun K "agree" "Hunt.agree" EK f fd)(T:Txt mg)
  (W:Own K mg C_j7 C_j9 C_jj C_ja C_j1 C_j4)
  (Z:Exs K mg C_j8 C_j5 C_j6 C_j3 C_j2 C_j0)
   (AF:FnOk P w K mg base (CXe P w) 1 Am AI ["self","deed"] (LJ K C_j1 C_j7 C_j3)) (AZ:Fun K "check_wants" "Turns.check_wants" AY Am AI) (AG:Ap K AI ["self","deed"] []) (AH:Meth K C_j1 "check_wants" Am)
  : FnOk P w K mg base (CXe P w) 2 f fd ["self"] (CD_ K C_j1 C_j7 C_j3):=by
 refine F.okE WL (fun vs H Q E h=>?_) (fun cdv A outer s H vs Q E hr h=>?_)
 ·obtain⟨a,ad,s,wv,x,rfl,_⟩:=h;rfl
 ·obtain⟨a,ad,s,wv,y,rfl,⟨gv,rv,zs,ys,us,x⟩,hw,kE,k⟩:=h
  have hl:=Ao
  refine⟨_,(Ad (Ba (DF (pvD 0) W.cl_j1 AH AF (hr.mono (by decide)) AG .nil (JH fun _ _ _ h=>h) (Aa Bn Af)))
   (Ac (F4 (pvD 0) (GJ (Aa Bn (Aa (BG (ixTD CZ) (AQ (pvD 0) rfl) Ai) Af))) rfl))),?_⟩
  walk_at "rd"
  refine⟨_,_,x.ob,by kernel_rfl,a,ad,s,wv,y,"show",rfl,⟨_,_,_,_,_,x⟩,hw,fun htag=>?_,kE⟩
  cases y with
  |ask c=>exact absurd htag (show ¬ ("ask" : Str) = "show" by decide +kernel)
  |done mm ws=>exact absurd htag (show ¬ ("done" : Str) = "show" by decide +kernel)
  |spent c=>exact absurd htag (show ¬ ("spent" : Str) = "show" by decide +kernel)
  |shown mm ws=>
   obtain⟨t,u,rfl,ht,hu⟩:=hw
   refine⟨_,_,_,x.ob,W.cl_j1,W.n_SayHunt_wish,_,N0 ..,t,rfl,_,SqT.of ht,_,rfl,by lia,fun p hp=>?_⟩
   have x1:=x.same (Same.new hp (o:=.tup [.str "done",.ref u]))
   refine⟨_,_,_,x1.ob,W.cl_j1,W.n_SayHunt_wish,Qg ..,?_⟩
   rw[Cw_]
   have x2:=x1.put (wv':=.ref p) (gv':=gv) (rv':=rv) (s':=s) rfl rfl rfl rfl rfl rfl x1.gv x1.rv
   have tk:=x1.tkob (.ins C_j1 ad.dx (afl (.ref p) s.L s.most ad.b ad.pw ad.pe ad.pg gv rv))
   exact k mm ws rfl _ _ ⟨_,_,_,_,_,x2⟩ ⟨p,u,rfl,tk _ _ Ae,HouT.mono hu (TK.trans (TK.new hp) tk)⟩ ((Frm.of (Same.new hp) a ad).seq (x1.putF _))
noncomputable def CE_ (K:PySem.W.Frag)(CA CB OT BW BM ND CO:Addr):Sp:=fun vs H Q E=>∃(a t:Addr) (ad:AD) (s:AS) (wv:V) (x:Wish) (B:Nat) (w:List Int) (m:Int),vs=[.ref a,.ref t,.int m]/\Asks K CA CB H a ad s wv/\Cg K H s.L wv x/\WOk B s x/\Bd B s/\s.es.length<=100000/\H t=some (.tup (w.map V.int))/\w ≠ []/\w.length<=600/\(x.tag ≠ "show" -> E (.ref OT) none H)/\∀mm ws,x=.shown mm ws->(isW s.L w=false->∀H',Same H H'->E (.ref BW) none H')/\(isW s.L w=true->¬ (0<=m/\m<=1000000000)->∀H',Same H H'->E (.ref BM) none H')/\(isW s.L w=true->0<=m->m<=1000000000->(lsay mm ws w=m->∀H',Same H H'->E (.ref ND) none H')/\(lsay mm ws w≠m->w∈s.es.map (·.1)->∀H',Same H H'->E (.ref CO) none H')/\(lsay mm ws w≠m->w∉s.es.map (·.1)->w.length<=B+(s.most+1)*s.E.length/\HM_ K CA CB H a ad {s with es:=s.es++[(w,m)]} Q))
theorem KO   (F:Fun K "keep_objection" "Hunt.keep_objection" Bw f fd)(T:Txt mg)
  (W:Own K mg C_j7 C_j9 C_jj C_ja C_j1 C_j4)
  (Z:Exs K mg C_j8 C_j5 C_j6 C_j3 C_j2 C_j0)
   (Ge:FnOk P w K mg base (CXe P w) 3 Cq Gw ["self","word","mark"] (Jq C_j7 C_j5 C_j6)) (Gf:Fun K "check" "Book.check" D2 Cq Gw) (Gg:Ap K Gw ["self","word","mark"] []) (Gh:Meth K C_j7 "check" Cq)
   (Io:FnOk P w K mg base (CXe P w) 4 DU IJ ["self","word","mark"] (LD C_j7 C_j5 C_j6 C_j0)) (Ip:Fun K "put" "Book.put" F7 DU IJ) (Iq:Ap K IJ ["self","word","mark"] []) (Ir:Meth K C_j7 "put" DU)
   (AF:FnOk P w K mg base (CXe P w) 1 Am AI ["self","deed"] (LJ K C_j1 C_j7 C_j3)) (AZ:Fun K "check_wants" "Turns.check_wants" AY Am AI) (AG:Ap K AI ["self","deed"] []) (AH:Meth K C_j1 "check_wants" Am)
   (C9:FnOk P w K mg base CX0 6 Bi DT ["self","house","word"] (N1 K)) (Dc:Fun K "answer" "SayHunt.answer" Cc Bi DT) (Dd:Ap K DT ["self","house","word"] []) (De:Meth K C_j1 "answer" Bi)
   (Cy:FnOk P w K mg base CX0 11 Bt CK ["self"] (W6 K C_j1 C_j7)) (Du:Fun K "go_on" "Turns.go_on" Cw Bt CK) (Cz:Ap K CK ["self"] []) (CC:Meth K C_j1 "go_on" Bt)
  : FnOk P w K mg base (CXe P w) 12 f fd ["self","word","number"] (CE_ K C_j1 C_j7 C_j3 C_j5 C_j6 C_j2 C_j0):=by
 refine F.okE KI (fun vs H Q E h=>?_) (fun cdv A outer s H vs Q E hr h=>?_)
 ·obtain⟨a,t,ad,s,wv,x,B,wd,m,rfl,_⟩:=h;rfl
 ·obtain⟨a,t,ad,s,wv,y,B,wd,m,rfl,⟨gv,rv,zs,ys,us,x⟩,hw,ok,bd,hz,ht,hwn,hz2,kE,k⟩:=h
  have hl:=Ao
  refine⟨_,(Ad (Ba (DF (pvD 0) W.cl_j1 AH AF (hr.mono (by decide)) AG .nil (JH fun _ _ _ h=>h) (Aa Bn Af)))
   (Ad (Ba (DF (AQ (pvD 0) rfl) W.cl_j7 Gh Ge (hr.mono (by decide)) Gg .nil (JH fun _ _ _ h=>h) (Aa (pvD 1) (Aa (pvD 2) Af))))
   (Ad (Cv (ptT (Az (opE NS) (DF (pvD 0) W.cl_j1 De C9 (hr.mono (by decide)) Dd .nil Ay (Aa (BG (ixTD CZ) (AQ (pvD 0) rfl) Ai) (Aa (pvD 1) Af))) (pvD 2) (Bh _)))
   (Ac (M0 Z.m_j2 Z.x_j2 rfl rfl (Aa Bn Af)))
   AR)
   (Ad (Ba (DF (AQ (pvD 0) rfl) W.cl_j7 Ir Io (hr.mono (by decide)) Iq .nil (JH fun _ _ _ h=>h) (Aa (pvD 1) (Aa (pvD 2) Af))))
   (Ac (Ba (Bm (pvD 0) W.cl_j1 CC Cy (hr.mono (by decide)) Cz .nil Ay))))))),?_⟩
  walk_at "rd"
  refine⟨_,_,x.ob,by kernel_rfl,a,ad,s,wv,y,"show",rfl,⟨_,_,_,_,_,x⟩,hw,fun htag=>?_,kE⟩
  cases y with
  |ask c=>exact absurd htag (show ¬ ("ask" : Str) = "show" by decide +kernel)
  |done mm ws=>exact absurd htag (show ¬ ("done" : Str) = "show" by decide +kernel)
  |spent c=>exact absurd htag (show ¬ ("spent" : Str) = "show" by decide +kernel)
  |shown mm ws=>
   obtain⟨tw,u,rfl,htw,hu⟩:=hw
   obtain⟨kW,kM,kk⟩:=k mm ws rfl
   obtain⟨ok0,hG,hwr,hgs,g,hall⟩:=ok
   obtain⟨dxb,hb⟩:=x.bk.ob
   have wf:=ok0.tb.wf g
   refine⟨_,_,_,x.ob,W.cl_j1,W.n_SayHunt_book,_,Ke ..,ad.b,rfl,_,_,hb,He _ _ (by decide +kernel) (by decide +kernel),ad.b,ad.d,t,s.L,m,wd,s.es,rfl,x.bk,ht,by lia,kW,kM,fun hc h0 h9 H1 s1=>?_⟩
   obtain⟨kN,kC,kG⟩:=kk hc h0 h9
   have x1:=x.same s1
   have ht1:=s1 _ _ ht
   refine⟨_,_,x1.ob,by kernel_rfl,_,_,_,x1.ob,W.cl_j1,W.n_SayHunt_wish,_,N0 ..,tw,rfl,_,SqT.of (s1 _ _ htw),_,rfl,a,u,t,s.L,mm,ws,wd,rfl,HouT.house (HouT.mono hu (TK.of s1)),wf,SqT.of ht1,hz2,hc,hwn,fun H2 s2=>⟨rfl,?_⟩⟩
   by_cases he:lsay mm ws wd=m
   ·rw[if_pos (by rw[he])]
    exact⟨by lia,kN he _ (s1.trans s2)⟩
   ·rw[if_neg (fun z=>he (V.int.inj z))]
    have x2:=x1.same s2
    have s12:=s1.trans s2
    refine⟨_,_,_,x2.ob,W.cl_j1,W.n_SayHunt_book,_,Ke ..,ad.b,rfl,_,_,s12 _ _ hb,He _ _ (by decide +kernel) (by decide +kernel),ad.b,ad.d,t,s.L,m,wd,s.es,rfl,x2.bk,s12 _ _ ht,by lia,hz,fun z=>(by rw[hc]at z;cases z),fun _ z=>absurd ⟨h0,h9⟩ z,fun _ _ _ n hin _ H3 s3=>kC he (List.mem_map.mpr ⟨_,hin,rfl⟩) H3 (s12.trans s3),fun _ _ _ hsame H3 hb' hf=>?_⟩
    have hnk:wd∉s.es.map (·.1):=fun z=>by
     obtain⟨p,hp,rfl⟩:=List.mem_map.mp z
     have h1:=hsame p.2 hp
     exact he ((hall p hp).trans h1)
    unfold putE at hb'
    rw[if_neg hnk]at hb'
    obtain⟨hlen,kT⟩:=kG he hnk
    obtain⟨x3,f3,tk3⟩:=x2.putB hb' hf
    have f3':=(Frm.of s12 a ad).seq f3
    exact⟨_,_,x3.ob,by kernel_rfl,a,ad,_,_,B,rfl,⟨_,_,_,_,_,x3⟩,ok0.told (fun b hb=>(by cases hb)) hnk ⟨hc,hwn⟩ h0 h9 s!"" (by rw[hG];simp),bd,fun ad' H4 s' y' wv' go x4 hw4 f4 k4=>kT ad' H4 s' y' wv' go x4 hw4 (f3'.trans (AdOk.refl H ad) f4) (AdOk.trans f3' (AdOk.refl H ad) k4)⟩
theorem W9   (F:Fun K "hear" "Asker.hear" EJ f fd)(T:Txt mg)
  (W:Own K mg C_j7 C_j9 C_jj C_ja C_j1 C_j4)
  (Z:Exs K mg C_j8 C_j5 C_j6 C_j3 C_j2 C_j0)
   (Gz:FnOk P w K mg base (CXe P w) 12 BH IK ["self","number"] (W7 K C_j1 C_j7 C_j3 C_j6)) (ED:Fun K "keep_answer" "Hunt.keep_answer" B6 BH IK) (GA:Ap K IK ["self","number"] []) (GC:Meth K C_j1 "keep_answer" BH)
  : FnOk P w K mg base (CXe P w) 13 f fd ["self","mark"] (W7 K C_j1 C_j7 C_j3 C_j6):=by
 refine F.okE WK (fun vs H Q E h=>?_) (fun cdv A outer s H vs Q E hr h=>?_)
 ·obtain⟨a,ad,s,wv,x,B,m,rfl,_⟩:=h;rfl
 ·obtain⟨a,ad,s,wv,y,B,m,rfl,⟨gv,rv,zs,ys,us,x⟩,hw,ok,bd,hz,kE,k⟩:=h
  have hl:=Ao
  refine⟨_,(Ac (Ba (DF (pvD 0) W.cl_j1 GC Gz (hr.mono (by decide)) GA .nil (JH fun _ _ _ h=>h) (Aa (pvD 1) Af)))),?_⟩
  walk_at "rd"
  exact⟨_,_,x.ob,by kernel_rfl,a,ad,s,wv,y,B,m,rfl,⟨_,_,_,_,_,x⟩,hw,ok,bd,hz,kE,k⟩
theorem TL   (F:Fun K "differ" "Asker.differ" DI f fd)(T:Txt mg)
  (W:Own K mg C_j7 C_j9 C_jj C_ja C_j1 C_j4)
  (Z:Exs K mg C_j8 C_j5 C_j6 C_j3 C_j2 C_j0)
   (E5:FnOk P w K mg base (CXe P w) 12 Bg GP ["self","word","number"] (CE_ K C_j1 C_j7 C_j3 C_j5 C_j6 C_j2 C_j0)) (Dv:Fun K "keep_objection" "Hunt.keep_objection" Bw Bg GP) (E6:Ap K GP ["self","word","number"] []) (E7:Meth K C_j1 "keep_objection" Bg)
  : FnOk P w K mg base (CXe P w) 13 f fd ["self","word","mark"] (CE_ K C_j1 C_j7 C_j3 C_j5 C_j6 C_j2 C_j0):=by
 refine F.okE S9 (fun vs H Q E h=>?_) (fun cdv A outer s H vs Q E hr h=>?_)
 ·obtain⟨a,t,ad,s,wv,x,B,wd,m,rfl,_⟩:=h;rfl
 ·obtain⟨a,t,ad,s,wv,y,B,wd,m,rfl,⟨gv,rv,zs,ys,us,x⟩,hw,ok,bd,hz,ht,hwn,hz2,kE,k⟩:=h
  have hl:=Ao
  refine⟨_,(Ac (Ba (DF (pvD 0) W.cl_j1 E7 E5 (hr.mono (by decide)) E6 .nil (JH fun _ _ _ h=>h) (Aa (pvD 1) (Aa (pvD 2) Af))))),?_⟩
  walk_at "rd"
  exact⟨_,_,x.ob,by kernel_rfl,a,t,ad,s,wv,y,B,wd,m,rfl,⟨_,_,_,_,_,x⟩,hw,ok,bd,hz,ht,hwn,hz2,kE,k⟩
noncomputable def CF_ (K:PySem.W.Frag)(CA CB:Addr):Sp:=fun vs H Q _=>∃(a dx:Addr) (L most:Nat),vs=[.ref a,.int L,.int most]/\H a=some (.ins CA dx [])/\1<=L/\L<=6/\1<=most/\most<=12/\∀ad H' s x wv,Goes (s039 L most) s x->Asks K CA CB H' a ad s wv->Cg K H' L wv x->(∀y o,H y=some o->y≠a->H' y=some o)->(∀y,H' y=none->H y=none)->(H ad.d=none/\H ad.pw=none/\H ad.pe=none/\H ad.pg=none)->Q .non H'
theorem Xa   (F:Fun K "__init__" "Asker.__init__" EM f fd)(T:Txt mg)
  (W:Own K mg C_j7 C_j9 C_jj C_ja C_j1 C_j4)
  (Z:Exs K mg C_j8 C_j5 C_j6 C_j3 C_j2 C_j0)
   (AV:FnOk P w K mg base CX0 3 An A0 ["self"] (SH K C_j1 C_j7)) (Be:Fun K "look_for_gaps" "Asker.look_for_gaps" AU An A0) (AW:Ap K A0 ["self"] []) (AX:Meth K C_j1 "look_for_gaps" An)
   (Cy:FnOk P w K mg base CX0 11 Bt CK ["self"] (W6 K C_j1 C_j7)) (Du:Fun K "go_on" "Turns.go_on" Cw Bt CK) (Cz:Ap K CK ["self"] []) (CC:Meth K C_j1 "go_on" Bt)
   (N4:FnOk P w K mg base CX0 1 E8 Rv ["self","letters"] (Ru C_j7)) (Kj:Fun K "__init__" "Book.__init__" FQ E8 Rv) (N5:Ap K Rv ["self","letters"] []) (N6:Mk K C_j7 E8)
   (N7:FnOk P w K mg base CX0 3 FW Rw ["self","letters","most","book","ways","ends"] (Cz_ C_j1)) (Kk:Fun K "__init__" "Hunt.__init__" FT FW Rw) (N8:Ap K Rw ["self","letters","most","book","ways","ends"] []) (N9:CMeth K C_jj "__init__" FW)
   (FA:FnOk P w K mg base CX0 1 Br Hx ["self","letters"] (CC_ K)) (DR:Fun K "first_ends" "SayHunt.first_ends" BE Br Hx) (FC:Ap K Hx ["self","letters"] []) (FD:Meth K C_j1 "first_ends" Br)
  : FnOk P w K mg base CX0 12 f fd ["self","letters","most"] (CF_ K C_j1 C_j7):=by
 refine F.ok WN (fun vs H Q E h=>?_) (fun cdv A outer s H vs Q E hr h=>?_)
 ·obtain⟨a,dx,L,most,rfl,_⟩:=h;rfl
 ·obtain⟨a,dx,L,most,rfl,ha,l1,l6,m1,m12,k⟩:=h
  have hl:=Ao
  refine⟨_,(Ad (Ba (Kf_ rfl W.m_jj N9 N7 (hr.mono (by decide)) N8 .nil Ay (Aa (pvD 0) (Aa (pvD 1) (Aa (pvD 2) (Aa (AJ_ N6 N4 (hr.mono (by decide)) rfl W.m_j7 N5 .nil Ay (Aa (pvD 1) Af)) (Aa (Rm (Aa (GJ Af) Af)) (Aa (DF (pvD 0) W.cl_j1 FD FA (hr.mono (by decide)) FC .nil Ay (Aa (pvD 1) Af)) Af))))))))
   (Ad (Ba (Bm (pvD 0) W.cl_j1 AX AV (hr.mono (by decide)) AW .nil Ay))
   (Ac (Ba (Bm (pvD 0) W.cl_j1 CC Cy (hr.mono (by decide)) Cz .nil Ay))))),?_⟩
  walk_at "rd"
  intro b dxb hbN hdN hne
  have hab:a≠b:=fun z=>by rw[<-z,ha]at hbN;cases hbN
  refine⟨b,dxb,L,rfl,Ae,fun d H2 hd bk hf=>⟨rfl,by lia,fun p hp=>⟨by lia,fun pw hpw=>?_⟩⟩⟩
  have s2:Same H H2:=fun y o hy=>by
   have y1:y≠b:=fun z=>by rw[z,hbN]at hy;cases hy
   have y2:y≠dxb:=fun z=>by rw[z,hdN]at hy;cases hy
   exact hf y o (by rw[Ah y1,Ah y2];exact hy) y1
  have hdH:H d=none:=by
   cases h:H d with
   |none=>rfl
   |some o=>
    have y1:d≠b:=fun z=>by rw[z,hbN]at h;cases h
    have y2:d≠dxb:=fun z=>by rw[z,hdN]at h;cases h
    rw[Ah y1,Ah y2,h]at hd;cases hd
  have sp:=Same.new (o:=.tup []) hp
  have s3:=sp.trans (Same.new (o:=.lst [.ref p]) hpw)
  have hp3:=(Same.new (o:=.lst [.ref p]) hpw) _ _ (show upd H2 p (.tup []) p=some (.tup []) from Ae)
  have hw3:upd (upd H2 p (.tup [])) pw (.lst [.ref p]) pw=some (.lst [.ref p]):=Ae
  generalize upd (upd H2 p (.tup [])) pw (.lst [.ref p])=H3 at s3 hp3 hw3 ⊢
  have hpwH:H pw=none:=s2.none (sp.none hpw)
  refine⟨_,_,s3 _ _ (s2 _ _ ha),by kernel_rfl,a,L,rfl,l6,fun pe ts H4 s4 hpe hpe4 hts=>?_⟩
  refine⟨a,dx,b,pw,pe,L,most,rfl,s4 _ _ (s3 _ _ (s2 _ _ ha)),fun pg H5 hpg hob hpg5 hf5 hn5=>?_⟩
  have s34:=s3.trans s4
  have s04:=s2.trans s34
  have bk4:=bk.mono s34
  have ne:∀y,H y=none->y≠a:=fun y hy z=>by rw[z,ha]at hy;cases hy
  have hpeH:H pe=none:=s2.none (s3.none hpe)
  have hpgH:H pg=none:=s04.none hpg
  have hp4:=s4 _ _ hp3
  have hpH:H p=none:=s2.none hp
  have hts5:Au K H5 ts (fE57 L):=hts.mono fun y o hy=>hf5 _ _ hy fun z=>by
   have:=s04 _ _ ha
   rw[z,this]at hy;cases hy
  have x5:AskAt K C_j1 C_j7 H5 a ⟨dx,b,d,pw,pe,pg⟩ {s039 L most with G:=[]} .non .non .non [.ref p] ts []:=
   ⟨hob,BookAt.tk bk4 (fun o h=>hf5 _ _ h (Ne.symm hab)) (fun o h=>hf5 _ _ h (ne _ hdH)),hf5 _ _ (s4 _ _ hw3) (ne _ hpwH),Au.nil.snoc (w:=[]) (hf5 _ _ hp4 (ne _ hpH)),hf5 _ _ hpe4 (ne _ hpeH),hts5,hpg5,Au.nil,fun z=>(by rw[show pe=pw from z.symm,hw3]at hpe;cases hpe),fun z=>(by rw[show pg=pw from z.symm,s4 _ _ hw3]at hpg;cases hpg),fun z=>(by rw[show pg=pe from z.symm,hpe4]at hpg;cases hpg),rfl,rfl⟩
  have hmm:(most+1)*(most+L)<=13*18:=Nat.mul_le_mul s!"" s!""
  have bd:Bd 1 (s039 L most):=by
   show 1+(most+1)*(most+L)+most<=500
   lia
  have ok:=Ft_ 1 s!"" l1 l6 m1 m12
  have sz:=ok.sz bd
  refine⟨_,_,x5.ob,by kernel_rfl,a,_,_,.non,rfl,⟨_,_,_,_,_,x5⟩,⟨sz.l6,sz.w,sz.e,sz.b⟩,fun ad6 H6 x6 f6 k6=>?_⟩
  obtain⟨gv6,rv6,zs6,ys6,us6,x6⟩:=x6
  refine⟨_,_,x6.ob,by kernel_rfl,a,ad6,s039 L most,.non,1,rfl,⟨_,_,_,_,_,x6⟩,ok,bd,fun ad7 H7 s' y wv' go x7 hw7 f7 k7=>?_⟩
  have f57:=f6.trans k6 f7
  obtain⟨q1,q2,q3,q4,q5,q6⟩:=AdOk.trans f6 k6 k7
  have hn:∀y,H7 y=none->H y=none:=fun y hy=>s04.none (hn5 y (f57.2 y hy))
  refine k ad7 H7 s' y wv' go x7 hw7 (fun z o hz hza=>?_) hn ⟨by rw[q3];exact hdH,by rw[q4];exact hpwH,by rw[q5];exact hpeH,?_⟩
  ·exact f57.1 z o (hf5 _ _ (s04 _ _ hz) hza) hza (fun e=>by rw[e]at hz;rw[show H d=none from hdH]at hz;cases hz) (fun e=>by rw[e]at hz;rw[show H pw=none from hpwH]at hz;cases hz) (fun e=>by rw[e]at hz;rw[show H pe=none from hpeH]at hz;cases hz) (fun e=>by rw[e]at hz;rw[show H pg=none from hpgH]at hz;cases hz)
  ·rcases q6 with q6|q6
   ·rw[q6];exact hpgH
   ·exact s04.none (hn5 _ q6)
noncomputable def sfl (L:Int)(a:Addr):List (Str×V):=[("letters",.int L),("hunt",.ref a)]
theorem LQ (L:Int)(a:Addr):(sfl L a).lookup ("hunt" : Str)=some (.ref a):=by kernel_rfl
theorem AskAt.keep {K:PySem.W.Frag}    {ad:AD}  {wv gv rv:V}  (x:AskAt K CA CB H a ad s wv gv rv zs ys us)(k:∀y o,H y=some o->(y=a\/y=ad.b\/y=ad.d\/y=ad.pw\/y=ad.pe\/y=ad.pg)->H' y=some o)(tk:TK H H'):AskAt K CA CB H' a ad s wv gv rv zs ys us:=
 ⟨k _ _ x.ob (.inl rfl),BookAt.tk x.bk (fun o h=>k _ _ h (.inr (.inl rfl))) (fun o h=>k _ _ h (.inr (.inr (.inl rfl)))),k _ _ x.w (.inr (.inr (.inr (.inl rfl)))),x.wW.mono tk,k _ _ x.e (.inr (.inr (.inr (.inr (.inl rfl))))),x.eW.mono tk,k _ _ x.g (.inr (.inr (.inr (.inr (.inr rfl))))),x.gW.mono tk,x.we,x.wg,x.eg,x.gv.mono tk,x.rv.mono tk⟩
noncomputable def SAt (K:PySem.W.Frag)(CS CA CB:Addr)(H:Hp)(p a:Addr)(ad:AD)(s:AS)(wv:V):Prop:=(∃dx L,H p=some (.ins CS dx (sfl L a)))/\Asks K CA CB H a ad s wv
theorem SAt.same {K:PySem.W.Frag}    {ad:AD}  {wv:V}(x:SAt K CS CA CB H p a ad s wv)(e:Same H H'):SAt K CS CA CB H' p a ad s wv:=by
 obtain⟨⟨dx,L,h⟩,gv,rv,zs,ys,us,x⟩:=x
 exact⟨⟨dx,L,e _ _ h⟩,_,_,_,_,_,x.same e⟩
theorem SAt.np {K:PySem.W.Frag}    {ad:AD}  {wv:V}(x:SAt K CS CA CB H p a ad s wv):p≠a/\p≠ad.d/\p≠ad.pw/\p≠ad.pe/\p≠ad.pg:=by
 obtain⟨⟨dx,L,h⟩,gv,rv,zs,ys,us,x⟩:=x
 refine⟨fun z=>?_,fun z=>?_,fun z=>?_,fun z=>?_,fun z=>?_⟩
 ·rw[z,x.ob]at h
  injection h with h
  injection h with _ _ h
  have:=congrArg List.length h
  simp[afl,sfl]at this
 ·rw[z,x.bk.dc]at h;cases h
 ·rw[z,x.w]at h;cases h
 ·rw[z,x.e]at h;cases h
 ·rw[z,x.g]at h;cases h
theorem SAt.frm {K:PySem.W.Frag}    {ad ad':AD}  {wv wv':V}(x:SAt K CS CA CB H p a ad s wv)(f:Frm H H' a ad)(y:Asks K CA CB H' a ad' s' wv'):SAt K CS CA CB H' p a ad' s' wv':=by
 obtain⟨n1,n2,n3,n4,n5⟩:=x.np
 obtain⟨⟨dx,L,h⟩,_⟩:=x
 exact⟨⟨dx,L,f.1 _ _ h n1 n2 n3 n4 n5⟩,y⟩
noncomputable def LR (K:PySem.W.Frag)(CS CA CB:Addr):Sp:=fun vs H Q _=>∃(p a:Addr) (ad:AD) (s:AS) (wv:V),vs=[.ref p]/\SAt K CS CA CB H p a ad s wv/\Q wv H
theorem Qn   (F:Fun K "wants" "SayAsker.wants" By f fd)(T:Txt mg)
  (W:Own K mg C_j7 C_j9 C_jj C_ja C_j1 C_j4)
  (Z:Exs K mg C_j8 C_j5 C_j6 C_j3 C_j2 C_j0)
   (Kl:FnOk P w K mg base CX0 1 Dx NC ["self"] (CA_ K C_j1 C_j7)) (Ic:Fun K "wants" "Turns.wants" Ee Dx NC) (Km:Ap K NC ["self"] []) (Kn:Meth K C_j1 "wants" Dx)
  : FnOk P w K mg base CX0 2 f fd ["self"] (LR K C_j4 C_j1 C_j7):=by
 refine F.ok P4 (fun vs H Q E h=>?_) (fun cdv A outer s H vs Q E hr h=>?_)
 ·obtain⟨p,a,ad,s,wv,rfl,_⟩:=h;rfl
 ·obtain⟨p,a,ad,s,wv,rfl,⟨⟨dx,L,hp⟩,gv,rv,zs,ys,us,x⟩,k⟩:=h
  refine⟨_,(Ac (As (Bm (AQ (pvD 0) rfl) W.cl_j1 Kn Kl (hr.mono (by decide)) Km .nil Ay))),?_⟩
  walk_at "rd"
  exact⟨_,_,_,hp,W.cl_j4,W.n_SayAsker_hunt,_,LQ ..,a,rfl,_,_,x.ob,by kernel_rfl,a,ad,s,wv,rfl,⟨_,_,_,_,_,x⟩,k⟩
noncomputable def SI (K:PySem.W.Frag)(CS CA CB:Addr)(f:AS->List (List Int)):Sp:=fun vs H Q _=>∃(p a:Addr) (ad:AD) (s:AS) (wv:V),vs=[.ref p]/\SAt K CS CA CB H p a ad s wv/\∀l ts H',Same H H'->H l=none->H' l=some (.lst ts)->Au K H' ts (f s)->Q (.ref l) H'
theorem OR   (F:Fun K "access" "SayAsker.access" Ck f fd)(T:Txt mg)
  (W:Own K mg C_j7 C_j9 C_jj C_ja C_j1 C_j4)
  (Z:Exs K mg C_j8 C_j5 C_j6 C_j3 C_j2 C_j0)
   (Ko:FnOk P w K mg base CX0 1 Dy NF ["self"] (OP K C_j1 C_j7 AS.W)) (Ie:Fun K "access" "Hunt.access" Ej Dy NF) (Kp:Ap K NF ["self"] []) (Kq:Meth K C_j1 "access" Dy)
  : FnOk P w K mg base CX0 2 f fd ["self"] (SI K C_j4 C_j1 C_j7 AS.W):=by
 refine F.ok OH (fun vs H Q E h=>?_) (fun cdv A outer s H vs Q E hr h=>?_)
 ·obtain⟨p,a,ad,s,wv,rfl,_⟩:=h;rfl
 ·obtain⟨p,a,ad,s,wv,rfl,⟨⟨dx,L,hp⟩,gv,rv,zs,ys,us,x⟩,k⟩:=h
  refine⟨_,(Ac (As (Bm (AQ (pvD 0) rfl) W.cl_j1 Kq Ko (hr.mono (by decide)) Kp .nil Ay))),?_⟩
  walk_at "rd"
  exact⟨_,_,_,hp,W.cl_j4,W.n_SayAsker_hunt,_,LQ ..,a,rfl,_,_,x.ob,by kernel_rfl,a,ad,s,wv,rfl,⟨_,_,_,_,_,x⟩,k⟩
theorem Oa   (F:Fun K "tellers" "SayAsker.tellers" B7 f fd)(T:Txt mg)
  (W:Own K mg C_j7 C_j9 C_jj C_ja C_j1 C_j4)
  (Z:Exs K mg C_j8 C_j5 C_j6 C_j3 C_j2 C_j0)
   (Jx:FnOk P w K mg base CX0 1 CL LS ["self"] (OP K C_j1 C_j7 AS.E)) (Hj:Fun K "tellers" "Hunt.tellers" DJ CL LS) (Jy:Ap K LS ["self"] []) (Jz:Meth K C_j1 "tellers" CL)
  : FnOk P w K mg base CX0 2 f fd ["self"] (SI K C_j4 C_j1 C_j7 AS.E):=by
 refine F.ok NX (fun vs H Q E h=>?_) (fun cdv A outer s H vs Q E hr h=>?_)
 ·obtain⟨p,a,ad,s,wv,rfl,_⟩:=h;rfl
 ·obtain⟨p,a,ad,s,wv,rfl,⟨⟨dx,L,hp⟩,gv,rv,zs,ys,us,x⟩,k⟩:=h
  refine⟨_,(Ac (As (Bm (AQ (pvD 0) rfl) W.cl_j1 Jz Jx (hr.mono (by decide)) Jy .nil Ay))),?_⟩
  walk_at "rd"
  exact⟨_,_,_,hp,W.cl_j4,W.n_SayAsker_hunt,_,LQ ..,a,rfl,_,_,x.ob,by kernel_rfl,a,ad,s,wv,rfl,⟨_,_,_,_,_,x⟩,k⟩
noncomputable def OS (K:PySem.W.Frag)(CS CA CB:Addr):Sp:=fun vs H Q _=>∃(p a:Addr) (ad:AD) (s:AS) (wv:V),vs=[.ref p]/\SAt K CS CA CB H p a ad s wv/\∀l rs H',Same H H'->H l=none->H' l=some (.lst rs)->G0 H' rs s.es->Q (.ref l) H'
theorem Qo   (F:Fun K "heard" "SayAsker.heard" BK f fd)(T:Txt mg)
  (W:Own K mg C_j7 C_j9 C_jj C_ja C_j1 C_j4)
  (Z:Exs K mg C_j8 C_j5 C_j6 C_j3 C_j2 C_j0)
   (LU:FnOk P w K mg base CX0 2 D8 OU ["self"] (Wi K C_j1 C_j7)) (Je:Fun K "heard" "Hunt.heard" EO D8 OU) (LV:Ap K OU ["self"] []) (LW:Meth K C_j1 "heard" D8)
  : FnOk P w K mg base CX0 3 f fd ["self"] (OS K C_j4 C_j1 C_j7):=by
 refine F.ok P8 (fun vs H Q E h=>?_) (fun cdv A outer s H vs Q E hr h=>?_)
 ·obtain⟨p,a,ad,s,wv,rfl,_⟩:=h;rfl
 ·obtain⟨p,a,ad,s,wv,rfl,⟨⟨dx,L,hp⟩,gv,rv,zs,ys,us,x⟩,k⟩:=h
  refine⟨_,(Ac (As (Bm (AQ (pvD 0) rfl) W.cl_j1 LW LU (hr.mono (by decide)) LV .nil Ay))),?_⟩
  walk_at "rd"
  exact⟨_,_,_,hp,W.cl_j4,W.n_SayAsker_hunt,_,LQ ..,a,rfl,_,_,x.ob,by kernel_rfl,a,ad,s,wv,rfl,⟨_,_,_,_,_,x⟩,k⟩
noncomputable def Ks_ (K:PySem.W.Frag)(CS CA CB:Addr)(H:Hp)(p a:Addr)(ad:AD)(s:AS)(Q:VK):Prop:=∀ad' H' s' x' wv',Goes s s' x'->SAt K CS CA CB H' p a ad' s' wv'->Cg K H' s.L wv' x'->Frm H H' a ad->AdOk H ad ad'->Q .non H'
noncomputable def Xb (K:PySem.W.Frag)(CS CA CB OT BM:Addr):Sp:=fun vs H Q E=>∃(p a:Addr) (ad:AD) (s:AS) (wv:V) (x:Wish) (B:Nat) (m:Int),vs=[.ref p,.int m]/\SAt K CS CA CB H p a ad s wv/\Cg K H s.L wv x/\WOk B s x/\Bd B s/\s.es.length<=100000/\(x.tag ≠ "ask" -> E (.ref OT) none H)/\∀c,x=.ask c->(¬ (0<=m/\m<=1000000000)->∀H',Same H H'->E (.ref BM) none H')/\(0<=m->m<=1000000000->Ks_ K CS CA CB H p a ad {s with es:=s.es++[(c,m)]} Q)
theorem RP   (F:Fun K "hear" "SayAsker.hear" Cp f fd)(T:Txt mg)
  (W:Own K mg C_j7 C_j9 C_jj C_ja C_j1 C_j4)
  (Z:Exs K mg C_j8 C_j5 C_j6 C_j3 C_j2 C_j0)
   (LX:FnOk P w K mg base (CXe P w) 13 D9 OV ["self","mark"] (W7 K C_j1 C_j7 C_j3 C_j6)) (Jf:Fun K "hear" "Asker.hear" EJ D9 OV) (LY:Ap K OV ["self","mark"] []) (LZ:Meth K C_j1 "hear" D9)
  : FnOk P w K mg base (CXe P w) 14 f fd ["self","mark"] (Xb K C_j4 C_j1 C_j7 C_j3 C_j6):=by
 refine F.okE RJ (fun vs H Q E h=>?_) (fun cdv A outer s H vs Q E hr h=>?_)
 ·obtain⟨p,a,ad,s,wv,x,B,m,rfl,_⟩:=h;rfl
 ·obtain⟨p,a,ad,s,wv,y,B,m,rfl,S,hw,ok,bd,hz,kE,k⟩:=h
  obtain⟨⟨dx,L,hp⟩,gv,rv,zs,ys,us,x⟩:=id S
  have hl:=Ao
  refine⟨_,(Ac (Ba (DF (AQ (pvD 0) rfl) W.cl_j1 LZ LX (hr.mono (by decide)) LY .nil (JH fun _ _ _ h=>h) (Aa (pvD 1) Af)))),?_⟩
  walk_at "rd"
  exact⟨_,_,_,hp,W.cl_j4,W.n_SayAsker_hunt,_,LQ ..,a,rfl,_,_,x.ob,by kernel_rfl,a,ad,s,wv,y,B,m,rfl,⟨_,_,_,_,_,x⟩,hw,ok,bd,hz,kE,fun c hc=>⟨(k c hc).1,fun h0 h9 ad' H' s' x' wv' go x3 hw3 f3 k3=>(k c hc).2 h0 h9 ad' H' s' x' wv' go (S.frm f3 x3) hw3 f3 k3⟩⟩
noncomputable def TM (K:PySem.W.Frag)(CS CA CB OT:Addr):Sp:=fun vs H Q E=>∃(p a:Addr) (ad:AD) (s:AS) (wv:V) (x:Wish),vs=[.ref p]/\SAt K CS CA CB H p a ad s wv/\Cg K H s.L wv x/\(x.tag ≠ "show" -> E (.ref OT) none H)/\∀mm ws,x=.shown mm ws->∀H' wv',SAt K CS CA CB H' p a ad s wv'->Cg K H' s.L wv' (.done mm ws)->Frm H H' a ad->Q .non H'
theorem Qp   (F:Fun K "agree" "SayAsker.agree" Cd f fd)(T:Txt mg)
  (W:Own K mg C_j7 C_j9 C_jj C_ja C_j1 C_j4)
  (Z:Exs K mg C_j8 C_j5 C_j6 C_j3 C_j2 C_j0)
   (L3:FnOk P w K mg base (CXe P w) 2 Ea OW ["self"] (CD_ K C_j1 C_j7 C_j3)) (Jg:Fun K "agree" "Hunt.agree" EK Ea OW) (L4:Ap K OW ["self"] []) (L5:Meth K C_j1 "agree" Ea)
  : FnOk P w K mg base (CXe P w) 3 f fd ["self"] (TM K C_j4 C_j1 C_j7 C_j3):=by
 refine F.okE P7 (fun vs H Q E h=>?_) (fun cdv A outer s H vs Q E hr h=>?_)
 ·obtain⟨p,a,ad,s,wv,x,rfl,_⟩:=h;rfl
 ·obtain⟨p,a,ad,s,wv,y,rfl,S,hw,kE,k⟩:=h
  obtain⟨⟨dx,L,hp⟩,gv,rv,zs,ys,us,x⟩:=id S
  have hl:=Ao
  refine⟨_,(Ac (Ba (Bm (AQ (pvD 0) rfl) W.cl_j1 L5 L3 (hr.mono (by decide)) L4 .nil (JH fun _ _ _ h=>h)))),?_⟩
  walk_at "rd"
  exact⟨_,_,_,hp,W.cl_j4,W.n_SayAsker_hunt,_,LQ ..,a,rfl,_,_,x.ob,by kernel_rfl,a,ad,s,wv,y,rfl,⟨_,_,_,_,_,x⟩,hw,kE,fun mm ws hy H' wv' x3 hw3 f3=>k mm ws hy H' wv' (S.frm f3 x3) hw3 f3⟩
noncomputable def Xc (K:PySem.W.Frag)(CS CA CB OT BW BM ND CO:Addr):Sp:=fun vs H Q E=>∃(p a t:Addr) (ad:AD) (s:AS) (wv:V) (x:Wish) (B:Nat) (w:List Int) (m:Int),vs=[.ref p,.ref t,.int m]/\SAt K CS CA CB H p a ad s wv/\Cg K H s.L wv x/\WOk B s x/\Bd B s/\s.es.length<=100000/\H t=some (.tup (w.map V.int))/\w.length<=600/\(x.tag ≠ "show" -> E (.ref OT) none H)/\∀mm ws,x=.shown mm ws->(w=[]\/isW s.L w=false->∀H',Same H H'->E (.ref BW) none H')/\(w ≠ []->isW s.L w=true->¬ (0<=m/\m<=1000000000)->∀H',Same H H'->E (.ref BM) none H')/\(w ≠ []->isW s.L w=true->0<=m->m<=1000000000->(lsay mm ws w=m->∀H',Same H H'->E (.ref ND) none H')/\(lsay mm ws w≠m->w∈s.es.map (·.1)->∀H',Same H H'->E (.ref CO) none H')/\(lsay mm ws w≠m->w∉s.es.map (·.1)->w.length<=B+(s.most+1)*s.E.length/\Ks_ K CS CA CB H p a ad {s with es:=s.es++[(w,m)]} Q))
theorem OX   (F:Fun K "differ" "SayAsker.differ" BX f fd)(T:Txt mg)
  (W:Own K mg C_j7 C_j9 C_jj C_ja C_j1 C_j4)
  (Z:Exs K mg C_j8 C_j5 C_j6 C_j3 C_j2 C_j0)
   (AF:FnOk P w K mg base (CXe P w) 1 Am AI ["self","deed"] (LJ K C_j1 C_j7 C_j3)) (AZ:Fun K "check_wants" "Turns.check_wants" AY Am AI) (AG:Ap K AI ["self","deed"] []) (AH:Meth K C_j1 "check_wants" Am)
   (CP:FnOk P w K mg base (CXe P w) 1 BA Dq ["word"] (Lz K C_j5)) (BY:Fun K "check_not_empty" "check_not_empty" BU BA Dq) (CQ:Ap K Dq ["word"] []) (CT:mg "check_not_empty"=some (.ref BA))
   (JA:FnOk P w K mg base (CXe P w) 13 CM L6 ["self","word","mark"] (CE_ K C_j1 C_j7 C_j3 C_j5 C_j6 C_j2 C_j0)) (Hk:Fun K "differ" "Asker.differ" DI CM L6) (JC:Ap K L6 ["self","word","mark"] []) (JD:Meth K C_j1 "differ" CM)
  : FnOk P w K mg base (CXe P w) 14 f fd ["self","word","mark"] (Xc K C_j4 C_j1 C_j7 C_j3 C_j5 C_j6 C_j2 C_j0):=by
 refine F.okE OG (fun vs H Q E h=>?_) (fun cdv A outer s H vs Q E hr h=>?_)
 ·obtain⟨p,a,t,ad,s,wv,x,B,wd,m,rfl,_⟩:=h;rfl
 ·obtain⟨p,a,t,ad,s,wv,y,B,wd,m,rfl,S,hw,ok,bd,hz,ht,hz2,kE,k⟩:=h
  obtain⟨⟨dx,L,hp⟩,gv,rv,zs,ys,us,x⟩:=id S
  have hl:=Ao
  refine⟨_,(Ad (Ba (DF (AQ (pvD 0) rfl) W.cl_j1 AH AF (hr.mono (by decide)) AG .nil (JH fun _ _ _ h=>h) (Aa Bn Af)))
   (Ad (Ba (Aj CP (hr.mono (by decide)) rfl CT BY.kp CQ .nil (JH fun _ _ _ h=>h) (Aa (pvD 1) Af)))
   (Ac (Ba (DF (AQ (pvD 0) rfl) W.cl_j1 JD JA (hr.mono (by decide)) JC .nil (JH fun _ _ _ h=>h) (Aa (pvD 1) (Aa (pvD 2) Af))))))),?_⟩
  walk_at "rd"
  refine⟨_,_,_,hp,W.cl_j4,W.n_SayAsker_hunt,_,LQ ..,a,rfl,_,_,x.ob,by kernel_rfl,a,ad,s,wv,y,"show",rfl,⟨_,_,_,_,_,x⟩,hw,fun htag=>?_,kE⟩
  cases y with
  |ask c=>exact absurd htag (show ¬ ("ask" : Str) = "show" by decide +kernel)
  |done mm ws=>exact absurd htag (show ¬ ("done" : Str) = "show" by decide +kernel)
  |spent c=>exact absurd htag (show ¬ ("spent" : Str) = "show" by decide +kernel)
  |shown mm ws=>
   obtain⟨kW,kM,kk⟩:=k mm ws rfl
   refine⟨t,wd,rfl,SqT.of ht,fun hne=>?_,fun z=>kW (.inl z) H (Same.refl _)⟩
   refine⟨_,_,_,hp,W.cl_j4,W.n_SayAsker_hunt,_,LQ ..,a,rfl,_,_,x.ob,by kernel_rfl,a,t,ad,s,wv,_,B,wd,m,rfl,⟨_,_,_,_,_,x⟩,hw,ok,bd,hz,ht,hne,hz2,kE,fun mm' ws' e=>?_⟩
   cases e
   refine⟨fun z=>kW (.inr z),kM hne,fun hc h0 h9=>?_⟩
   obtain⟨kN,kC,kG⟩:=kk hne hc h0 h9
   exact⟨kN,kC,fun h1 h2=>⟨(kG h1 h2).1,fun ad' H' s' x' wv' go x3 hw3 f3 k3=>(kG h1 h2).2 ad' H' s' x' wv' go (S.frm f3 x3) hw3 f3 k3⟩⟩
noncomputable def CG_ (K:PySem.W.Frag)(CS CA CB:Addr):Sp:=fun vs H Q _=>∃(p dx:Addr) (L most:Nat),vs=[.ref p,.int L,.int most]/\H p=some (.ins CS dx [])/\1<=L/\L<=6/\1<=most/\most<=12/\∀a ad H' s x wv,Goes (s039 L most) s x->SAt K CS CA CB H' p a ad s wv->Cg K H' L wv x->(∀y o,H y=some o->y≠p->H' y=some o)->(∀y,H' y=none->H y=none)->(H a=none/\H ad.d=none/\H ad.pw=none/\H ad.pe=none/\H ad.pg=none)->Q .non H'
theorem RQ   (F:Fun K "__init__" "SayAsker.__init__" C1 f fd)(T:Txt mg)
  (W:Own K mg C_j7 C_j9 C_jj C_ja C_j1 C_j4)
  (Z:Exs K mg C_j8 C_j5 C_j6 C_j3 C_j2 C_j0)
   (L7:FnOk P w K mg base CX0 12 Eb OY ["self","letters","most"] (CF_ K C_j1 C_j7)) (Jh:Fun K "__init__" "Asker.__init__" EM Eb OY) (L8:Ap K OY ["self","letters","most"] []) (L9:Mk K C_j1 Eb)
  : FnOk P w K mg base CX0 14 f fd ["self","letters","most"] (CG_ K C_j4 C_j1 C_j7):=by
 refine F.ok RK (fun vs H Q E h=>?_) (fun cdv A outer s H vs Q E hr h=>?_)
 ·obtain⟨p,dx,L,most,rfl,_⟩:=h;rfl
 ·obtain⟨p,dx,L,most,rfl,hp,l1,l6,m1,m12,k⟩:=h
  have hl:=Ao
  refine⟨_,(Ad (F4 (pvD 0) (pvD 1) rfl)
   (Ac (F4 (pvD 0) (AJ_ L9 L7 (hr.mono (by decide)) rfl W.m_j1 L8 .nil Ay (Aa (pvD 1) (Aa (pvD 2) Af))) rfl))),?_⟩
  walk_at "rd"
  refine⟨_,_,_,hp,W.cl_j4,W.n_SayAsker_letters,by decide,fun a dxa haN hdN hne=>?_⟩
  have hpa:p≠a:=fun z=>by rw[<-z,Ae]at haN;cases haN
  have hpd:p≠dxa:=fun z=>by rw[<-z,Ae]at hdN;cases hdN
  rw[Ah hpa.symm]at haN
  rw[Ah hpd.symm]at hdN
  refine⟨a,dxa,L,most,rfl,Ae,l1,l6,m1,m12,fun ad H' s x wv go xA hw hf hn hfr=>⟨rfl,?_⟩⟩
  have hp2:H' p=some (.ins C_j4 dx [("letters",.int L)]):=hf _ _ (by rw[Ah hpa,Ah hpd,Ae];rfl) hpa
  obtain⟨gv,rv,zs,ys,us,xA⟩:=xA
  refine⟨_,_,_,hp2,W.cl_j4,W.n_SayAsker_hunt,(by show 1<1000;decide),?_⟩
  have tk:TK H' (upd H' p (.ins C_j4 dx (putF ("hunt" : Str) (.ref a) [("letters",.int L)]))):=fun t ts h=>by rw[Ah (fun z=>by rw[z,hp2]at h;cases h)];exact h
  have nz:∀y,upd (upd (upd H p (HO.ins C_j4 dx (putF ("letters" : Str) (V.int L) []))) dxa (HO.own a)) a (HO.ins C_j1 dxa []) y=none->H y=none:=fun y hy=>by
   by_cases z1:y=a
   ·rw[z1,Ae]at hy;cases hy
   ·by_cases z2:y=dxa
    ·rw[z2,Ah (by rw[<-z2];exact z1),Ae]at hy;cases hy
    ·by_cases z3:y=p
     ·rw[z3,Ah hpa,Ah hpd,Ae]at hy;cases hy
     ·rw[Ah z1,Ah z2,Ah z3]at hy;exact hy
  refine k a ad _ s x wv go ⟨⟨dx,L,Ae⟩,_,_,_,_,_,xA.keep (fun y o hy hc=>?_) tk⟩ (hw.mono tk) (fun y o hy hyp=>?_) (fun y hy=>?_) ⟨haN,nz _ hfr.1,nz _ hfr.2.1,nz _ hfr.2.2.1,nz _ hfr.2.2.2⟩
  ·rw[Ah (fun z=>?_)]
   ·exact hy
   ·obtain⟨dxb,hb⟩:=xA.bk.ob
    rcases hc with hc|hc|hc|hc|hc|hc
    ·exact hpa (z.symm.trans hc)
    ·rw[<-hc,z,hp2]at hb;cases hb
    ·have:=xA.bk.dc
     rw[<-hc,z,hp2]at this;cases this
    ·have:=xA.w
     rw[<-hc,z,hp2]at this;cases this
    ·have:=xA.e
     rw[<-hc,z,hp2]at this;cases this
    ·have:=xA.g
     rw[<-hc,z,hp2]at this;cases this
  ·rw[Ah hyp]
   have y1:y≠a:=fun z=>by rw[z,haN]at hy;cases hy
   have y2:y≠dxa:=fun z=>by rw[z,hdN]at hy;cases hy
   exact hf _ _ (by rw[Ah y1,Ah y2,Ah hyp];exact hy) y1
  ·by_cases z:y=p
   ·rw[z,Ae]at hy;cases hy
   ·rw[Ah z]at hy
    exact nz y (hn y hy)
noncomputable def cell (ns:List Int)(k:Nat):Int:=ns.getD k 0
noncomputable def Ma (K:PySem.W.Frag):Sp:=fun vs H Q _=>∃(a:Addr) (ns:List Int) (k:Nat),vs=[.ref a,.int k]/\SqL K H a (ns.map V.int)/\Q (.int (cell ns k)) H
theorem Zd   (F:Fun K "_law_cell" "_law_cell" Cj f fd)(T:Txt mg)
  (W:Own K mg C_j7 C_j9 C_jj C_ja C_j1 C_j4)
  (Z:Exs K mg C_j8 C_j5 C_j6 C_j3 C_j2 C_j0)
  : FnOk P w K mg base CX0 1 f fd ["script","k"] (Ma K):=by
 refine F.ok YU (fun vs H Q E h=>?_) (fun cdv A outer s H vs Q E hr h=>?_)
 ·obtain⟨a,ns,k,rfl,_⟩:=h;rfl
 ·obtain⟨a,ns,k,rfl,hs,q⟩:=h
  refine⟨_,(Ad (Cv (ptT (Az (opD0 HY_) (pvD 1) (C4 (lenD Dm) (by rfl) T.len PySem.boot_len (Aa (pvD 0) Af)) (Bh _)))
   (Ac (As (BG (ixLD Jn) (pvD 0) (pvD 1))))
   AR)
   (Ac (As Ai))),?_⟩
  walk_at "rd"
  refine⟨_,.inl hs,?_⟩
  rw[List.length_map]
  refine ite2 (fun hk=>?_) (fun hk=>?_)
  ·have hk':k<ns.length:=by simpa using hk
   refine⟨_,hs,V.int (cell ns k),?_,q⟩
   refine PX ?_
   rw[List.getElem?_map]
   unfold cell
   rw[List.getD_eq_getElem?_getD]
   simp[hk']
  ·have hk':¬ k<ns.length:=by simpa using hk
   have:cell ns k=0:=by
    unfold cell
    rw[List.getD_eq_getElem?_getD,List.getElem?_eq_none s!""];rfl
   rw[<-this]
   exact q
theorem Ze {α:Type}[DecidableEq α]{l k:List α}(h:l.Nodup)(hs:∀x∈l,x∈k):l.length<=k.length:=by
 induction l generalizing k with
 |nil=>exact Nat.zero_le _
 |cons a l ih=>
  obtain⟨h1,h2⟩:=List.nodup_cons.mp h
  have h3:=ih (k:=k.erase a) h2 fun x hx=>(List.mem_erase_of_ne (fun z=>h1 (by rw[<-z];exact hx))).mpr (hs x (List.mem_cons_of_mem _ hx))
  have h4:=hs a List.mem_cons_self
  rw[List.length_erase_of_mem h4]at h3
  have:=List.length_pos_of_mem h4
  rw[List.length_cons]
  lia
theorem Fw_ {v:List Int}{ks:List (List Int)}{n:Nat}(h:∀j,j<n->v++List.replicate j 0∈ks):n<=ks.length:=by
 have:=Ze (l:=(List.range n).map fun j=>v++List.replicate j 0) (k:=ks) (by
  rw[List.nodup_iff_pairwise_ne,List.pairwise_map]
  refine (List.nodup_iff_pairwise_ne.mp List.nodup_range).imp fun hab z=>hab ?_
  have:=congrArg List.length z
  simpa using this) (fun x hx=>by
  obtain⟨j,hj,rfl⟩:=List.mem_map.mp hx
  exact h j (List.mem_range.mp hj))
 rwa [List.length_map,List.length_range]at this
noncomputable def bigF (ns:List Int)(k:Int):Int:=if k<ns.length then ns.getD k.toNat 0 else (cell ns (k%if (ns.length:Int) > 1 then (ns.length:Int) else 1).toNat%2147483647*48271+k*k*31+7*k)%2147483647
noncomputable def CH_ (K:PySem.W.Frag):Sp:=fun vs H Q _=>∃(a:Addr) (ns:List Int) (k:Int),vs=[.ref a,.int k]/\SqL K H a (ns.map V.int)/\ns.length<=63/\0<=k/\k<=100000/\Q (.int (bigF ns k)) H
theorem Bn_   (F:Fun K "_law_big" "_law_big" GZ f fd)(T:Txt mg)
  (W:Own K mg C_j7 C_j9 C_jj C_ja C_j1 C_j4)
  (Z:Exs K mg C_j8 C_j5 C_j6 C_j3 C_j2 C_j0)
   (Av:FnOk P w K mg base CX0 1 AJ AL ["script","k"] (Ma K)) (Aq:Fun K "_law_cell" "_law_cell" Cj AJ AL) (Aw:Ap K AL ["script","k"] []) (Ax:mg "_law_cell"=some (.ref AJ))
  : FnOk P w K mg base CX0 2 f fd ["script","k"] (CH_ K):=by
 refine F.ok Ta (fun vs H Q E h=>?_) (fun cdv A outer s H vs Q E hr h=>?_)
 ·obtain⟨a,ns,k,rfl,_⟩:=h;rfl
 ·obtain⟨a,ns,k,rfl,hs,hz,k0,k1,q⟩:=h
  refine⟨_,(Ad (Cv (ptT (Az (opD0 HY_) (pvD 1) (C4 (lenD Dm) (by rfl) T.len PySem.boot_len (Aa (pvD 0) Af)) (Bh _)))
   (Ac (As (BG (ixLD Jn) (pvD 0) (pvD 1))))
   AR)
   (Ad (AE (i:=2) Ta.nd (C4 (Eb_ rfl) rfl T.max PyProof.Rows.boot_max (Aa Ai (Aa (C4 (lenD Dm) (by rfl) T.len PySem.boot_len (Aa (pvD 0) Af)) Af))))
   (Ac (As (Bu (opD Fm) (Bu (opD0 FE) (Bu (opD0 FE) (Bu (opD YE) (Bu (opD Fm) (Aj Av (hr.mono (by decide)) rfl Ax Aq.kp Aw .nil Ay (Aa (pvD 0) (Aa (Bu (opD Fm) (pvD 1) (pvD 2)) Af))) Ai) Ai) (Bu (opD YE) (Bu (opD YE) (pvD 1) (pvD 1)) Ai)) (Bu (opD YE) Ai (pvD 1))) Ai))))),?_⟩
  walk_at "rd"
  refine⟨_,.inl hs,?_⟩
  rw[List.length_map]
  unfold bigF at q
  refine ite2 (fun hk=>?_) (fun hk=>?_)
  ·have hk2:k<(ns.length:Int):=by simpa using hk
   have hk':k.toNat<ns.length:=by lia
   rw[if_pos hk2]at q
   refine⟨_,hs,_,S1 k0 (v:=ns[k.toNat]) (by simp[hk']),?_⟩
   rw[List.getD_eq_getElem?_getD,List.getElem?_eq_getElem hk']at q
   exact q
  ·have hk2:¬ k<(ns.length:Int):=by simpa using hk
   rw[if_neg hk2]at q
   have e0:((ns.map V.int).length:Int)=(ns.length:Int):=by rw[List.length_map]
   have hm:(0:Int)<if (ns.length:Int) > 1 then (ns.length:Int) else 1:=by split<;>lia
   have r0:=Int.emod_nonneg k (show (if (ns.length:Int) > 1 then (ns.length:Int) else 1)≠0 by lia)
   refine⟨_,.inl hs,?_⟩
   rw[List.length_map]
   exact⟨hm,a,ns,(k%if (ns.length:Int) > 1 then (ns.length:Int) else 1).toNat,by rw[Int.toNat_of_nonneg r0],hs,_,rfl,by decide,.inr ⟨by decide,by decide⟩,.inl ⟨by lia,by lia⟩,.inr ⟨by decide,by decide⟩,.inl ⟨by decide,by decide⟩,by decide,q⟩
noncomputable def Bo_ (c:Int):Int:=if c%8=3 then 1000000000 else if c%4=0 then c / 4%1000000001 else c / 4%2
theorem CI_ (c:Int):0<=Bo_ c/\Bo_ c<=1000000000:=by
 unfold Bo_
 split
 ·lia
 ·split<;>lia
noncomputable def Zf:Sp:=fun vs H Q _=>∃c:Int,vs=[.int c]/\Q (.int (Bo_ c)) H
theorem Zg   (F:Fun K "_law_mark" "_law_mark" FU f fd)(T:Txt mg)
  (W:Own K mg C_j7 C_j9 C_jj C_ja C_j1 C_j4)
  (Z:Exs K mg C_j8 C_j5 C_j6 C_j3 C_j2 C_j0)
  : FnOk P w K mg base CX0 1 f fd ["cell"] (Zf):=by
 refine F.ok YZ (fun vs H Q E h=>?_) (fun cdv A outer s H vs Q E hr h=>?_)
 ·obtain⟨c,rfl,_⟩:=h;rfl
 ·obtain⟨c,rfl,k⟩:=h
  refine⟨_,(Ad (Cv (ptT (Az (opE NS) (Bu (opD Fm) (pvD 0) Ai) Ai (Bh _)))
   (Ac (As Ai))
   AR)
   (Ad (Cv (ptT (Az (opE NS) (Bu (opD Fm) (pvD 0) Ai) Ai (Bh _)))
   (Ac (As (Bu (opD Fm) (Bu (opD PV) (pvD 0) Ai) Ai)))
   AR)
   (Ac (As (Bu (opD Fm) (Bu (opD PV) (pvD 0) Ai) Ai))))),?_⟩
  walk_at "rd"
  unfold Bo_ at k
  refine⟨by decide,ite2 (fun e=>?_) (fun e=>⟨by decide,ite2 (fun e2=>⟨⟨by decide,by decide⟩,by decide,?_⟩) (fun e2=>⟨⟨by decide,by decide⟩,by decide,?_⟩)⟩)⟩
  ·rw[if_pos (by simpa using e)]at k;exact k
  ·rw[if_neg (by simpa using e),if_pos (by simpa using e2)]at k;exact k
  ·rw[if_neg (by simpa using e),if_neg (by simpa using e2)]at k;exact k
noncomputable def Qq (ns:List Int)(at_ L n:Nat):List Int:=(List.range n).map fun k:Nat=>(cell ns (at_+k) / 2+(k:Int))%(L:Int)
theorem OZ (ns:List Int)(at_ L n:Nat):(Qq ns at_ L n).length=n:=by unfold Qq;rw[List.length_map,List.length_range]
theorem Zh (ns:List Int)(at_ n:Nat){L:Nat}(l1:1<=L):isW (L:Int) (Qq ns at_ L n)=true:=by
 refine Ci.mpr fun x hx=>?_
 unfold Qq at hx
 obtain⟨k,_,rfl⟩:=List.mem_map.mp hx
 exact⟨Int.emod_nonneg _ s!"",Int.emod_lt_of_pos _ s!""⟩
noncomputable def TN (K:PySem.W.Frag):Sp:=fun vs H Q _=>∃(a:Addr) (ns:List Int) (at_ L n:Nat),vs=[.ref a,.int at_,.int L,.int n]/\SqL K H a (ns.map V.int)/\1<=L/\n<=100/\∀t H',Same H H'->H' t=some (.tup ((Qq ns at_ L n).map V.int))->Q (.ref t) H'
theorem Zi   (F:Fun K "_law_word" "_law_word" ES f fd)(T:Txt mg)
  (W:Own K mg C_j7 C_j9 C_jj C_ja C_j1 C_j4)
  (Z:Exs K mg C_j8 C_j5 C_j6 C_j3 C_j2 C_j0)
   (Av:FnOk P w K mg base CX0 1 AJ AL ["script","k"] (Ma K)) (Aq:Fun K "_law_cell" "_law_cell" Cj AJ AL) (Aw:Ap K AL ["script","k"] []) (Ax:mg "_law_cell"=some (.ref AJ))
  : FnOk P w K mg base CX0 2 f fd ["script","at","letters","many"] (TN K):=by
 refine F.ok Y0 (fun vs H Q E h=>?_) (fun cdv A outer s H vs Q E hr h=>?_)
 ·obtain⟨a,ns,at_,L,n,rfl,_⟩:=h;rfl
 ·obtain⟨a,ns,at_,L,n,rfl,hs,l1,hn,k⟩:=h
  have hl:=Ao
  refine⟨_,(Ac (As (EF Hn rfl T.tuple PyProof.Rows.boot_tuple (Aa (Ln rfl (OD rfl) (cp:=OI) ⟨⟨rfl,rfl⟩,⟨⟨rfl,rfl⟩,⟨⟨rfl,rfl⟩,True.intro⟩⟩⟩ (Li rfl T.range (Aa (pvD 3) Af)) (fun _ _ _ _=>(B4 (i:=0) RL rfl (Or.inl rfl))) (fun _ _ _ _=>OC) (fun _ _ _ _=>(Bu (opD Fm) (Bu (opD0 FE) (Bu (opD PV) (Aj Av (hr.mono (by decide)) rfl Ax Aq.kp Aw .nil Ay (Aa (pvD 2) (Aa (Bu (opD0 FE) (pvD 3) (pvD 0)) Af))) Ai) (pvD 0)) (pvD 1)))) Af)))),?_⟩
  walk_at "rd"
  refine⟨by lia,by lia,?_⟩
  rw[Int.toNat_natCast]
  obtain⟨Pc,hPc⟩:∃Pc:Nat->List V->St->Hp->Prop,∀j us σ4 H4,Pc j us σ4 H4↔(H4=H/\us=(Qq ns at_ L j).map V.int/\∃o,σ4=[o,some (.int L),some (.ref a),some (.int at_)]):=⟨_,fun _ _ _ _=>Iff.rfl⟩
  refine Io_ Pc ((hPc _ _ _ _).mpr ⟨rfl,rfl,none,rfl⟩) s!"" (fun j us σ4 H4 _ h4=>?_) (fun j us σ4 H4 hj h4=>?_) (fun us σ4 H4 h4 D hD=>?_)
  ·obtain⟨_,rfl,_⟩:=(hPc _ _ _ _).mp h4
   rw[List.length_map,OZ];lia
  ·obtain⟨rfl,rfl,o4,rfl⟩:=(hPc _ _ _ _).mp h4
   rw[Int.zero_add]
   walk_at "rd"
   refine⟨a,ns,at_+j,by push_cast;rfl,hs,_,rfl,by show CDiv _ _;unfold CDiv;lia,by lia,(hPc _ _ _ _).mpr ⟨rfl,?_,_,rfl⟩⟩
   unfold Qq
   rw[List.range_succ,List.map_append,List.map_append]
   rfl
  ·obtain⟨rfl,rfl,o4,rfl⟩:=(hPc _ _ _ _).mp h4
   exact⟨D,rfl,_,.inl ⟨SqL.of Ae,fun t ht=>k t _ ((Same.new hD).newT ht) Ae⟩⟩
noncomputable def Wj (K:PySem.W.Frag):Sp:=fun vs H Q _=>∃(a l:Addr) (ns:List Int) (at_ L:Nat) (rs:List V) (es:Bk),vs=[.ref a,.int at_,.int L,.ref l]/\SqL K H a (ns.map V.int)/\1<=L/\H l=some (.lst rs)/\G0 H rs es/\es.length<=200/\∀t n H',Same H H'->(∀j,j<n->Qq ns at_ L (1+cell ns at_%5).toNat++List.replicate j 0∈es.map (·.1))->Qq ns at_ L (1+cell ns at_%5).toNat++List.replicate n 0∉es.map (·.1)->n<=es.length->H' t=some (.tup ((Qq ns at_ L (1+cell ns at_%5).toNat++List.replicate n 0).map V.int))->Q (.ref t) H'
theorem RS   (F:Fun K "_law_new_word" "_law_new_word" C2 f fd)(T:Txt mg)
  (W:Own K mg C_j7 C_j9 C_jj C_ja C_j1 C_j4)
  (Z:Exs K mg C_j8 C_j5 C_j6 C_j3 C_j2 C_j0)
   (Av:FnOk P w K mg base CX0 1 AJ AL ["script","k"] (Ma K)) (Aq:Fun K "_law_cell" "_law_cell" Cj AJ AL) (Aw:Ap K AL ["script","k"] []) (Ax:mg "_law_cell"=some (.ref AJ))
   (G1:FnOk P w K mg base CX0 2 Eo Hy ["script","at","letters","many"] (TN K)) (E9:Fun K "_law_word" "_law_word" ES Eo Hy) (G2:Ap K Hy ["script","at","letters","many"] []) (G3:mg "_law_word"=some (.ref Eo))
  : FnOk P w K mg base CX0 3 f fd ["script","at","letters","heard"] (Wj K):=by
 refine F.ok HS (fun vs H Q E h=>?_) (fun cdv A outer s H vs Q E hr h=>?_)
 ·obtain⟨a,l,ns,at_,L,rs,es,rfl,_⟩:=h;rfl
 ·obtain⟨a,l,ns,at_,L,rs,es,rfl,hs,l1,hl1,ht,he,k⟩:=h
  have hl:=Ao
  refine⟨_,(Ad (AE (i:=4) HS.nd (Aj G1 (hr.mono (by decide)) rfl G3 E9.kp G2 .nil Ay (Aa (pvD 0) (Aa (pvD 1) (Aa (pvD 2) (Aa (Bu (opD0 FE) Ai (Bu (opD Fm) (Aj Av (hr.mono (by decide)) rfl Ax Aq.kp Aw .nil Ay (Aa (pvD 0) (Aa (pvD 1) Af))) Ai)) Af))))))
   (Ad (Wq PassesOwn.never (ptT (Az (JY_ (hu9 hr)) (pvD 4) (Ln rfl (OD rfl) (cp:=JL) True.intro (Gq (pvD 3)) (fun _ _ _ _=>(B4 (i:=0) Na rfl (Or.inl rfl))) (fun _ _ _ _=>OC) (fun _ _ _ _=>(BG (ixTD (WA (K:=K) rfl)) (pvD 0) Ai))) rfl))
   (Ac (AE (i:=4) HS.nd (Bu J7 (pvD 4) (GJ (Aa Ai Af))))))
   (Ac (As (pvD 4))))),?_⟩
  walk_at "rd"
  have c0:=Int.emod_nonneg (cell ns at_) (show (5:Int)≠0 by decide)
  have c1:=Int.emod_lt_of_pos (cell ns at_) (show (0:Int)<5 by decide)
  obtain⟨n0,hn0⟩:∃n0:Nat,1+cell ns at_%5=(n0:Int):=⟨(1+cell ns at_%5).toNat,by lia⟩
  rw[hn0,Int.toNat_natCast]at k
  have hn5:n0<=5:=by lia
  refine⟨a,ns,at_,rfl,hs,_,rfl,by decide,a,ns,at_,L,n0,by rw[hn0],hs,l1,by lia,fun t H1 s1 ht1=>?_⟩
  have hwl:=OZ ns at_ L n0
  generalize Qq ns at_ L n0=v at k ht1 hwl
  obtain⟨Pv,hPv⟩:∃Pv:Nat->St->Hp->Prop,∀m σ' H',Pv m σ' H'↔(∃(n:Nat) (t:Addr),Same H H'/\m=es.length+1-n/\n<=es.length/\(∀j,j<n->v++List.replicate j 0∈es.map (·.1))/\H' t=some (.tup ((v++List.replicate n 0).map V.int))/\σ'=[some (.ref a),some (.int at_),some (.int L),some (.ref l),some (.ref t)]):=⟨_,fun _ _ _=>Iff.rfl⟩
  refine EE_ Pv ⟨_,(hPv _ _ _).mpr ⟨0,t,s1,rfl,by lia,fun j hj=>absurd hj (Nat.not_lt_zero _),by simpa using ht1,rfl⟩⟩ fun m σ' H' h'=>?_
  obtain⟨n,t2,s2,hm,hn,hall,ht2,rfl⟩:=(hPv _ _ _).mp h'
  walk_at "rd"
  have ht':=ht.mono (TK.of s2)
  refine⟨⟨_,SqL.of (s2 _ _ hl1)⟩,FZ_ (xs:=rs) (fun i us σ4 H4=>H4=H'/\Au K H' us ((es.take i).map (·.1))/\∃o,σ4=[o]) ⟨rfl,Au.nil,none,rfl⟩ (by rw[ht.1];lia) (fun i us σ4 H4 hi h4=>⟨by rw[h4.1];exact SqL.of (s2 _ _ hl1),by rw[h4.2.1.1,List.length_map,List.length_take];lia⟩) (fun i x us σ4 H4 hx h4=>?_) (fun us σ4 H4 h4 D hD=>?_)⟩
  ·obtain⟨rfl,hus,o,rfl⟩:=h4
   have hi:i<es.length:=by rw[<-ht.1];exact (List.getElem?_eq_some_iff.mp hx).1
   have hei:es[i]?=some es[i]:=by simp[hi]
   obtain⟨q,wt,e1,e2,e3⟩:=ht'.2 i _ hei
   rw[hx]at e1
   cases e1
   have et:es.take (i+1)=es.take i++[es[i]]:=by rw[List.take_add_one,hei];rfl
   walk_at "rd"
   refine⟨_,SqT.of e2,_,rfl,?_,_,rfl⟩
   rw[et,List.map_append]
   exact hus.snoc e3
  ·obtain⟨rfl,hus,o,rfl⟩:=h4
   rw[ht.1,List.take_length]at hus
   have sD:=Same.new hD (o:=.lst us)
   refine⟨D,rfl,_,SqL.of Ae,_,_,hus.mono (TK.of sD),SqT.of (sD _ _ ht2),ite2 (fun hin=>?_) (fun hni=>?_)⟩
   ·refine⟨fun σ2 H2=>∃m',m'<m/\Pv m' σ2 H2,fun _ _ z=>z,by lia,fun q hq=>?_⟩
    have sq:=Same.new hq (o:=.tup [V.int 0])
    refine Kt.ofS ((sD.trans sq) _ _ ht2) Ae (by simp;lia) fun t3 H3 s3 ht3=>?_
    have hall':∀j,j<n+1->v++List.replicate j 0∈es.map (·.1):=fun j hj=>by
     by_cases z:j<n
     ·exact hall j z
     ·rw[show j=n by lia];exact hin
    have hle:=Fw_ hall'
    rw[List.length_map]at hle
    refine⟨es.length+1-(n+1),by lia,(hPv _ _ _).mpr ⟨n+1,t3,s2.trans ((sD.trans sq).trans s3),rfl,hle,hall',?_,rfl⟩⟩
    rw[ht3,List.replicate_succ',<-List.append_assoc]
    simp only[List.map_append,List.map_cons,List.map_nil]
   ·exact k t2 n _ (s2.trans sD) hall hni hn (sD _ _ ht2)
noncomputable def addS (b:Bool)(x acc:Str):Str:=if b=true then acc++x else acc
theorem TQ    (h:acc.length+x.length<=N):if b=true then acc.length+x.length<=N/\acc++x=addS b x acc else acc=addS b x acc:=by
 unfold addS;cases b<;>simp[h]
noncomputable def O0 (K:PySem.W.Frag)(OT BW BM ND CO:Addr):Sp:=fun vs H Q _=>(vs=[.non]/\Q .non H) \/ ∃(ea C:Addr),vs=[.ref ea]/\H ea=some (excO ea C)/\((C=OT/\Q (.str "turn value") H)\/(C=BW/\Q (.str "word value") H)\/(C=BM/\Q (.str "mark value") H)\/(C=ND/\Q (.str "alike value") H)\/(C=CO/\Q (.str "twice value") H))
theorem Qr   (F:Fun K "_law_told_kind" "_law_told_kind" BJ f fd)(T:Txt mg)
  (W:Own K mg C_j7 C_j9 C_jj C_ja C_j1 C_j4)
  (Z:Exs K mg C_j8 C_j5 C_j6 C_j3 C_j2 C_j0)
  : FnOk P w K mg base CX0 1 f fd ["e"] (O0 K C_j3 C_j5 C_j6 C_j2 C_j0):=by
 refine F.ok BV (fun vs H Q E h=>?_) (fun cdv A outer s H vs Q E hr h=>?_)
 ·rcases h with ⟨rfl,_⟩|⟨ea,C,rfl,_⟩<;>rfl
 ·have hl:=Ao
  refine⟨_,(Ad (Cv (ptT (Az V4 (pvD 0) F3 (Bh _)))
   (Ac (As F3))
   AR)
   (Ad (AE (i:=1) BV.nd Bn)
   (Iw (Cv (ptB (Nz (C4 F6 rfl T.isinstance PyProof.Rows.boot_isinstance (Aa (pvD 0) (Aa (Lh (v:=.ref C_j3) rfl Z.m_j3 rfl) Af)))))
   (Ac (AE (i:=1) BV.nd (Bu Ij (pvD 1) Bn)))
   AR)
   (Iw (Cv (ptB (Nz (C4 F6 rfl T.isinstance PyProof.Rows.boot_isinstance (Aa (pvD 0) (Aa (Lh (v:=.ref C_j5) rfl Z.m_j5 rfl) Af)))))
   (Ac (AE (i:=1) BV.nd (Bu Ij (pvD 1) Bn)))
   AR)
   (Iw (Cv (ptB (Nz (C4 F6 rfl T.isinstance PyProof.Rows.boot_isinstance (Aa (pvD 0) (Aa (Lh (v:=.ref C_j6) rfl Z.m_j6 rfl) Af)))))
   (Ac (AE (i:=1) BV.nd (Bu Ij (pvD 1) Bn)))
   AR)
   (Iw (Cv (ptB (Nz (C4 F6 rfl T.isinstance PyProof.Rows.boot_isinstance (Aa (pvD 0) (Aa (Lh (v:=.ref C_j2) rfl Z.m_j2 rfl) Af)))))
   (Ac (AE (i:=1) BV.nd (Bu Ij (pvD 1) Bn)))
   AR)
   (Iw (Cv (ptB (Nz (C4 F6 rfl T.isinstance PyProof.Rows.boot_isinstance (Aa (pvD 0) (Aa (Lh (v:=.ref C_j0) rfl Z.m_j0 rfl) Af)))))
   (Ac (AE (i:=1) BV.nd (Bu Ij (pvD 1) Bn)))
   AR)
   (Iw (Cv (ptB (Nz (C4 F6 rfl T.isinstance PyProof.Rows.boot_isinstance (Aa (pvD 0) (Aa (HV_ (v:=.ty "ValueError") rfl T.ValueError L2.boot_ValueError rfl) Af)))))
   (Ac (AE (i:=1) BV.nd (Bu Ij (pvD 1) Bn)))
   AR)
   (Ac (As (pvD 1))))))))))),?_⟩
  rcases h with ⟨rfl,k⟩|⟨ea,C,rfl,he,k⟩
  ·walk_at "rd"
   exact k
  ·have hk:∃(b0 b1 b2 b3 b4:Bool),ExcCls K C/\PySem.W.kitOne K (.ref C) (.ref C_j3)=some b0/\PySem.W.kitOne K (.ref C) (.ref C_j5)=some b1/\PySem.W.kitOne K (.ref C) (.ref C_j6)=some b2/\PySem.W.kitOne K (.ref C) (.ref C_j2)=some b3/\PySem.W.kitOne K (.ref C) (.ref C_j0)=some b4/\PySem.W.kitOne K (.ref C) (.type "ValueError")=some true/\(addS b0 "turn " "").length<=6/\(addS b1 "word " (addS b0 "turn " "")).length<=6/\(addS b2 "mark " (addS b1 "word " (addS b0 "turn " ""))).length<=6/\(addS b3 "alike " (addS b2 "mark " (addS b1 "word " (addS b0 "turn " "")))).length<=6/\(addS b4 "twice " (addS b3 "alike " (addS b2 "mark " (addS b1 "word " (addS b0 "turn " ""))))).length<=6/\Q (.str (addS b4 "twice " (addS b3 "alike " (addS b2 "mark " (addS b1 "word " (addS b0 "turn " ""))))++("value" : Str))) H:=by
    rcases k with ⟨rfl,k⟩|⟨rfl,k⟩|⟨rfl,k⟩|⟨rfl,k⟩|⟨rfl,k⟩
    ·exact⟨_,_,_,_,_,Z.c_j3,Z.k_j3_j3,Z.k_j3_j5,Z.k_j3_j6,Z.k_j3_j2,Z.k_j3_j0,Z.v_j3,by decide +kernel,by decide +kernel,by decide +kernel,by decide +kernel,by decide +kernel,k⟩
    ·exact⟨_,_,_,_,_,Z.c_j5,Z.k_j5_j3,Z.k_j5_j5,Z.k_j5_j6,Z.k_j5_j2,Z.k_j5_j0,Z.v_j5,by decide +kernel,by decide +kernel,by decide +kernel,by decide +kernel,by decide +kernel,k⟩
    ·exact⟨_,_,_,_,_,Z.c_j6,Z.k_j6_j3,Z.k_j6_j5,Z.k_j6_j6,Z.k_j6_j2,Z.k_j6_j0,Z.v_j6,by decide +kernel,by decide +kernel,by decide +kernel,by decide +kernel,by decide +kernel,k⟩
    ·exact⟨_,_,_,_,_,Z.c_j2,Z.k_j2_j3,Z.k_j2_j5,Z.k_j2_j6,Z.k_j2_j2,Z.k_j2_j0,Z.v_j2,by decide +kernel,by decide +kernel,by decide +kernel,by decide +kernel,by decide +kernel,k⟩
    ·exact⟨_,_,_,_,_,Z.c_j0,Z.k_j0_j3,Z.k_j0_j5,Z.k_j0_j6,Z.k_j0_j2,Z.k_j0_j0,Z.v_j0,by decide +kernel,by decide +kernel,by decide +kernel,by decide +kernel,by decide +kernel,k⟩
   obtain⟨b0,b1,b2,b3,b4,hc,k0,k1,k2,k3,k4,kv,l0,l1,l2,l3,l4,q⟩:=hk
   walk_at "rd"
   have q0:(("" : Str)).length<=6:=by decide +kernel
   have w0:("turn " : Str).length<=6:=by decide +kernel
   have w1:("word " : Str).length<=6:=by decide +kernel
   have w2:("mark " : Str).length<=6:=by decide +kernel
   have w3:("alike " : Str).length<=6:=by decide +kernel
   have w4:("twice " : Str).length<=6:=by decide +kernel
   have w5:("value" : Str).length<=6:=by decide +kernel
   refine⟨fun σ' H'=>σ'=[some (.ref ea),some (.str (addS b0 "turn " ("" : Str)))]/\H'=H,?_,fun σ' H' hh=>?_⟩
   ·walk_at "rd"
    exact⟨_,_,.exc he hc,PY,b0,k0,TQ s!""⟩
   obtain⟨rfl,hH⟩:=hh
   have hH:=hH.symm
   subst hH
   refine⟨fun σ' H'=>σ'=[some (.ref ea),some (.str (addS b1 "word " (addS b0 "turn " ("" : Str))))]/\H'=H,?_,fun σ' H' hh=>?_⟩
   ·walk_at "rd"
    exact⟨_,_,.exc he hc,PY,b1,k1,TQ s!""⟩
   obtain⟨rfl,hH⟩:=hh
   have hH:=hH.symm
   subst hH
   refine⟨fun σ' H'=>σ'=[some (.ref ea),some (.str (addS b2 "mark " (addS b1 "word " (addS b0 "turn " ("" : Str)))))]/\H'=H,?_,fun σ' H' hh=>?_⟩
   ·walk_at "rd"
    exact⟨_,_,.exc he hc,PY,b2,k2,TQ s!""⟩
   obtain⟨rfl,hH⟩:=hh
   have hH:=hH.symm
   subst hH
   refine⟨fun σ' H'=>σ'=[some (.ref ea),some (.str (addS b3 "alike " (addS b2 "mark " (addS b1 "word " (addS b0 "turn " ("" : Str))))))]/\H'=H,?_,fun σ' H' hh=>?_⟩
   ·walk_at "rd"
    exact⟨_,_,.exc he hc,PY,b3,k3,TQ s!""⟩
   obtain⟨rfl,hH⟩:=hh
   have hH:=hH.symm
   subst hH
   refine⟨fun σ' H'=>σ'=[some (.ref ea),some (.str (addS b4 "twice " (addS b3 "alike " (addS b2 "mark " (addS b1 "word " (addS b0 "turn " ("" : Str)))))))]/\H'=H,?_,fun σ' H' hh=>?_⟩
   ·walk_at "rd"
    exact⟨_,_,.exc he hc,PY,b4,k4,TQ s!""⟩
   obtain⟨rfl,hH⟩:=hh
   have hH:=hH.symm
   subst hH
   refine⟨fun σ' H''=>σ'=[some (.ref ea),some (.str ((addS b4 "twice " (addS b3 "alike " (addS b2 "mark " (addS b1 "word " (addS b0 "turn " ("" : Str))))))++("value" : Str)))]/\H''=H,?_,fun σ' H'' hh=>?_⟩
   ·walk_at "rd"
    refine⟨_,_,.exc he hc,JQ_,true,kv,?_⟩
    rw[if_pos rfl]
    lia
   obtain⟨rfl,hH⟩:=hh
   have hH:=hH.symm
   subst hH
   walk_at "rd"
   exact q
noncomputable def QS (H:Hp)(Q:VK)(x:Str):Prop:=∀H',Same H H'->Q (.str x) H'
noncomputable def Zj (OT BW BM ND CO:Addr)(H:Hp)(Q:VK)(C:Addr):Prop:=(C=OT/\QS H Q "turn value")\/(C=BW/\QS H Q "word value")\/(C=BM/\QS H Q "mark value")\/(C=ND/\QS H Q "alike value")\/(C=CO/\QS H Q "twice value")
theorem Zj.told    (k:Zj OT BW BM ND CO H Q C)(s:Same H H'):(C=OT/\Q (.str "turn value") H')\/(C=BW/\Q (.str "word value") H')\/(C=BM/\Q (.str "mark value") H')\/(C=ND/\Q (.str "alike value") H')\/(C=CO/\Q (.str "twice value") H'):=by
 rcases k with ⟨e,k⟩|⟨e,k⟩|⟨e,k⟩|⟨e,k⟩|⟨e,k⟩
 ·exact .inl ⟨e,k _ s⟩
 ·exact .inr (.inl ⟨e,k _ s⟩)
 ·exact .inr (.inr (.inl ⟨e,k _ s⟩))
 ·exact .inr (.inr (.inr (.inl ⟨e,k _ s⟩)))
 ·exact .inr (.inr (.inr (.inr ⟨e,k _ s⟩)))
noncomputable def JX (K:PySem.W.Frag)(CS CA CB:Addr):Sp:=fun vs H Q _=>∃(p a:Addr) (ad:AD) (s:AS) (wv:V) (x:Wish) (B:Nat) (m:Int),vs=[.ref p,.int m]/\SAt K CS CA CB H p a ad s wv/\Cg K H s.L wv x/\WOk B s x/\Bd B s/\s.es.length<=100000/\(x.tag ≠ "ask" -> QS H Q "turn value")/\∀c,x=.ask c->¬ (0<=m/\m<=1000000000)/\QS H Q "mark value"
theorem Xd   (F:Fun K "_law_hears" "_law_hears" D4 f fd)(T:Txt mg)
  (W:Own K mg C_j7 C_j9 C_jj C_ja C_j1 C_j4)
  (Z:Exs K mg C_j8 C_j5 C_j6 C_j3 C_j2 C_j0)
   (DV:FnOk P w K mg base (CXe P w) 14 Bx Et ["self","mark"] (Xb K C_j4 C_j1 C_j7 C_j3 C_j6)) (DW:Fun K "hear" "SayAsker.hear" Cp Bx Et) (DX:Ap K Et ["self","mark"] []) (DY:Meth K C_j4 "hear" Bx)
   (BL:FnOk P w K mg base CX0 1 A4 BZ ["e"] (O0 K C_j3 C_j5 C_j6 C_j2 C_j0)) (Bj:Fun K "_law_told_kind" "_law_told_kind" BJ A4 BZ) (BN:Ap K BZ ["e"] []) (BO:mg "_law_told_kind"=some (.ref A4))
  : FnOk P w K mg base CX0 15 f fd ["asker","mark"] (JX K C_j4 C_j1 C_j7):=by
 refine F.ok Ia (fun vs H Q E h=>?_) (fun cdv A outer s H vs Q E hr h=>?_)
 ·obtain⟨p,a,ad,s,wv,x,B,m,rfl,_⟩:=h;rfl
 ·obtain⟨p,a,ad,s,wv,x,B,m,rfl,S,hw,ok,bd,hz,kT,kM⟩:=h
  obtain⟨⟨dx,L',hp⟩,_⟩:=id S
  have hl:=Ao
  refine⟨_,(Ad (AE (i:=2) Ia.nd F3)
   (Iw (ED_ (i:=3) (E:=(fun σ cls d H1=>σ=[some (.ref p),some (.int m),some .non,none]/\d=none/\Same H H1/\∃C,cls=.ref C/\Zj C_j3 C_j5 C_j6 C_j2 C_j0 H Q C)) Ia.nd rfl rfl rfl Z.m_j8 rfl rfl rfl (fun xe pn hx=>(Ac (Ba (Cs_ (pvD 0) W.cl_j4 DY DV (hr.mono (by decide)) DX .nil hx (Aa (pvD 1) Af)))))
   (fun ea pn=>(Ac (AE (i:=2) Ia.nd (pvD 3)))))
   (Ac (As (Aj BL (hr.mono (by decide)) rfl BO Bj.kp BN .nil Ay (Aa (pvD 2) Af)))))),?_⟩
  walk_at "rd"
  refine⟨fun σ' H'=>∃(ea C:Addr),σ'=[some (.ref p),some (.int m),some (.ref ea),none]/\H' ea=some (excO ea C)/\Same H H'/\Zj C_j3 C_j5 C_j6 C_j2 C_j0 H Q C,?_,fun σ1 H1 h1=>?_⟩
  ·walk_at "rd"
   refine⟨⟨_,_,hp,by kernel_rfl,p,a,ad,s,wv,x,B,m,rfl,S,hw,ok,bd,hz,fun hx=>⟨rfl,Same.refl _,_,rfl,.inl ⟨rfl,kT hx⟩⟩,fun c hc=>⟨fun _ H1 s1=>⟨rfl,s1,_,rfl,.inr (.inr (.inl ⟨rfl,(kM c hc).2⟩))⟩,fun h0 h9=>absurd ⟨h0,h9⟩ (kM c hc).1⟩⟩,fun σ1 cls H1 h1=>?_⟩
   ·obtain⟨rfl,s1,C,rfl,hk⟩:=h1
    have hx:PySem.W.exmOne K (.ref C) (.ref C_j8)=some true:=by
     rcases id hk with ⟨rfl,_⟩|⟨rfl,_⟩|⟨rfl,_⟩|⟨rfl,_⟩|⟨rfl,_⟩
     ·exact Z.e_j3
     ·exact Z.e_j5
     ·exact Z.e_j6
     ·exact Z.e_j2
     ·exact Z.e_j0
    refine⟨C,rfl,hx,fun ea hea=>?_⟩
    walk_at "rd"
    exact⟨C,Ae,s1.newT hea,hk⟩
  ·obtain⟨ea,C,rfl,hea,s1,hk⟩:=h1
   walk_at "rd"
   exact .inr ⟨ea,C,rfl,hea,hk.told s1⟩
noncomputable def Ob (K:PySem.W.Frag)(CS CA CB:Addr):Sp:=fun vs H Q _=>∃(p a:Addr) (ad:AD) (s:AS) (wv:V) (x:Wish),vs=[.ref p]/\SAt K CS CA CB H p a ad s wv/\Cg K H s.L wv x/\x.tag ≠ "show" /\ QS H Q "turn value"
theorem Vd   (F:Fun K "_law_agrees" "_law_agrees" Ei f fd)(T:Txt mg)
  (W:Own K mg C_j7 C_j9 C_jj C_ja C_j1 C_j4)
  (Z:Exs K mg C_j8 C_j5 C_j6 C_j3 C_j2 C_j0)
   (BL:FnOk P w K mg base CX0 1 A4 BZ ["e"] (O0 K C_j3 C_j5 C_j6 C_j2 C_j0)) (Bj:Fun K "_law_told_kind" "_law_told_kind" BJ A4 BZ) (BN:Ap K BZ ["e"] []) (BO:mg "_law_told_kind"=some (.ref A4))
   (Df:FnOk P w K mg base (CXe P w) 3 Bl DZ ["self"] (TM K C_j4 C_j1 C_j7 C_j3)) (Dh:Fun K "agree" "SayAsker.agree" Cd Bl DZ) (Di:Ap K DZ ["self"] []) (Dj:Meth K C_j4 "agree" Bl)
  : FnOk P w K mg base CX0 4 f fd ["asker"] (Ob K C_j4 C_j1 C_j7):=by
 refine F.ok Hg (fun vs H Q E h=>?_) (fun cdv A outer s H vs Q E hr h=>?_)
 ·obtain⟨p,a,ad,s,wv,x,rfl,_⟩:=h;rfl
 ·obtain⟨p,a,ad,s,wv,x,rfl,S,hw,htg,kT⟩:=h
  obtain⟨⟨dx,L',hp⟩,_⟩:=id S
  have hl:=Ao
  refine⟨_,(Ad (AE (i:=1) Hg.nd F3)
   (Iw (ED_ (i:=2) (E:=(fun σ cls d H1=>σ=[some (.ref p),some .non,none]/\d=none/\Same H H1/\∃C,cls=.ref C/\Zj C_j3 C_j5 C_j6 C_j2 C_j0 H Q C)) Hg.nd rfl rfl rfl Z.m_j8 rfl rfl rfl (fun xe pn hx=>(Ac (Ba (Fa_ (pvD 0) W.cl_j4 Dj Df (hr.mono (by decide)) Di .nil hx))))
   (fun ea pn=>(Ac (AE (i:=1) Hg.nd (pvD 2)))))
   (Ac (As (Aj BL (hr.mono (by decide)) rfl BO Bj.kp BN .nil Ay (Aa (pvD 1) Af)))))),?_⟩
  walk_at "rd"
  refine⟨fun σ' H'=>∃(ea C:Addr),σ'=[some (.ref p),some (.ref ea),none]/\H' ea=some (excO ea C)/\Same H H'/\Zj C_j3 C_j5 C_j6 C_j2 C_j0 H Q C,?_,fun σ1 H1 h1=>?_⟩
  ·walk_at "rd"
   refine⟨⟨_,_,hp,by kernel_rfl,p,a,ad,s,wv,x,rfl,S,hw,fun hx=>⟨rfl,Same.refl _,_,rfl,.inl ⟨rfl,kT⟩⟩,fun mm ws hx=>absurd (by rw[hx];rfl) htg⟩,fun σ1 cls H1 h1=>?_⟩
   ·obtain⟨rfl,s1,C,rfl,hk⟩:=h1
    have hx:PySem.W.exmOne K (.ref C) (.ref C_j8)=some true:=by
     rcases id hk with ⟨rfl,_⟩|⟨rfl,_⟩|⟨rfl,_⟩|⟨rfl,_⟩|⟨rfl,_⟩
     ·exact Z.e_j3
     ·exact Z.e_j5
     ·exact Z.e_j6
     ·exact Z.e_j2
     ·exact Z.e_j0
    refine⟨C,rfl,hx,fun ea hea=>?_⟩
    walk_at "rd"
    exact⟨C,Ae,s1.newT hea,hk⟩
  ·obtain⟨ea,C,rfl,hea,s1,hk⟩:=h1
   walk_at "rd"
   exact .inr ⟨ea,C,rfl,hea,hk.told s1⟩
noncomputable def Hz (K:PySem.W.Frag)(CS CA CB:Addr):Sp:=fun vs H Q _=>∃(p a t:Addr) (ad:AD) (s:AS) (wv:V) (x:Wish) (B:Nat) (w:List Int) (m:Int),vs=[.ref p,.ref t,.int m]/\SAt K CS CA CB H p a ad s wv/\Cg K H s.L wv x/\WOk B s x/\Bd B s/\s.es.length<=100000/\H t=some (.tup (w.map V.int))/\w.length<=600/\(x.tag ≠ "show" -> QS H Q "turn value")/\∀mm ws,x=.shown mm ws->(w=[]\/isW s.L w=false->QS H Q "word value")/\(w ≠ []->isW s.L w=true->¬ (0<=m/\m<=1000000000)->QS H Q "mark value")/\(w ≠ []->isW s.L w=true->0<=m->m<=1000000000->(lsay mm ws w=m->QS H Q "alike value")/\(lsay mm ws w≠m->w∈s.es.map (·.1)/\QS H Q "twice value"))
theorem TR   (F:Fun K "_law_differs" "_law_differs" CH f fd)(T:Txt mg)
  (W:Own K mg C_j7 C_j9 C_jj C_ja C_j1 C_j4)
  (Z:Exs K mg C_j8 C_j5 C_j6 C_j3 C_j2 C_j0)
   (BL:FnOk P w K mg base CX0 1 A4 BZ ["e"] (O0 K C_j3 C_j5 C_j6 C_j2 C_j0)) (Bj:Fun K "_law_told_kind" "_law_told_kind" BJ A4 BZ) (BN:Ap K BZ ["e"] []) (BO:mg "_law_told_kind"=some (.ref A4))
   (CU:FnOk P w K mg base (CXe P w) 14 Bb Dz ["self","word","mark"] (Xc K C_j4 C_j1 C_j7 C_j3 C_j5 C_j6 C_j2 C_j0)) (CV:Fun K "differ" "SayAsker.differ" BX Bb Dz) (CW:Ap K Dz ["self","word","mark"] []) (CY:Meth K C_j4 "differ" Bb)
  : FnOk P w K mg base CX0 15 f fd ["asker","word","mark"] (Hz K C_j4 C_j1 C_j7):=by
 refine F.ok Gu (fun vs H Q E h=>?_) (fun cdv A outer s H vs Q E hr h=>?_)
 ·obtain⟨p,a,t,ad,s,wv,x,B,w,m,rfl,_⟩:=h;rfl
 ·obtain⟨p,a,t,ad,s,wv,x,B,w,m,rfl,S,hw,ok,bd,hz,ht,hz2,kT,kD⟩:=h
  obtain⟨⟨dx,L',hp⟩,_⟩:=id S
  have hl:=Ao
  refine⟨_,(Ad (AE (i:=3) Gu.nd F3)
   (Iw (ED_ (i:=4) (E:=(fun σ cls d H1=>σ=[some (.ref p),some (.ref t),some (.int m),some .non,none]/\d=none/\Same H H1/\∃C,cls=.ref C/\Zj C_j3 C_j5 C_j6 C_j2 C_j0 H Q C)) Gu.nd rfl rfl rfl Z.m_j8 rfl rfl rfl (fun xe pn hx=>(Ac (Ba (Cs_ (pvD 0) W.cl_j4 CY CU (hr.mono (by decide)) CW .nil hx (Aa (pvD 1) (Aa (pvD 2) Af))))))
   (fun ea pn=>(Ac (AE (i:=3) Gu.nd (pvD 4)))))
   (Ac (As (Aj BL (hr.mono (by decide)) rfl BO Bj.kp BN .nil Ay (Aa (pvD 3) Af)))))),?_⟩
  walk_at "rd"
  refine⟨fun σ' H'=>∃(ea C:Addr),σ'=[some (.ref p),some (.ref t),some (.int m),some (.ref ea),none]/\H' ea=some (excO ea C)/\Same H H'/\Zj C_j3 C_j5 C_j6 C_j2 C_j0 H Q C,?_,fun σ1 H1 h1=>?_⟩
  ·walk_at "rd"
   refine⟨⟨_,_,hp,by kernel_rfl,p,a,t,ad,s,wv,x,B,w,m,rfl,S,hw,ok,bd,hz,ht,hz2,fun hx=>⟨rfl,Same.refl _,_,rfl,.inl ⟨rfl,kT hx⟩⟩,fun mm ws hx=>⟨fun hb H1 s1=>⟨rfl,s1,_,rfl,.inr (.inl ⟨rfl,(kD mm ws hx).1 hb⟩)⟩,fun hne hv hm H1 s1=>⟨rfl,s1,_,rfl,.inr (.inr (.inl ⟨rfl,(kD mm ws hx).2.1 hne hv hm⟩))⟩,fun hne hv h0 h9=>⟨fun he H1 s1=>⟨rfl,s1,_,rfl,.inr (.inr (.inr (.inl ⟨rfl,((kD mm ws hx).2.2 hne hv h0 h9).1 he⟩)))⟩,fun he hin H1 s1=>⟨rfl,s1,_,rfl,.inr (.inr (.inr (.inr ⟨rfl,(((kD mm ws hx).2.2 hne hv h0 h9).2 he).2⟩)))⟩,fun he hin=>absurd (((kD mm ws hx).2.2 hne hv h0 h9).2 he).1 hin⟩⟩⟩,fun σ1 cls H1 h1=>?_⟩
   ·obtain⟨rfl,s1,C,rfl,hk⟩:=h1
    have hx:PySem.W.exmOne K (.ref C) (.ref C_j8)=some true:=by
     rcases id hk with ⟨rfl,_⟩|⟨rfl,_⟩|⟨rfl,_⟩|⟨rfl,_⟩|⟨rfl,_⟩
     ·exact Z.e_j3
     ·exact Z.e_j5
     ·exact Z.e_j6
     ·exact Z.e_j2
     ·exact Z.e_j0
    refine⟨C,rfl,hx,fun ea hea=>?_⟩
    walk_at "rd"
    exact⟨C,Ae,s1.newT hea,hk⟩
  ·obtain⟨ea,C,rfl,hea,s1,hk⟩:=h1
   walk_at "rd"
   exact .inr ⟨ea,C,rfl,hea,hk.told s1⟩
theorem Goes.det   (g:Goes s a x)(h:Goes s b y):a=b/\x=y:=by
 induction g with
 |stop e=>
  cases h with
  |stop e'=>rw[e]at e';cases e';exact⟨rfl,rfl⟩
  |more e' _=>rw[e]at e';cases e'
 |more e _ ih=>
  cases h with
  |stop e'=>rw[e]at e';cases e'
  |more e' h'=>rw[e]at e';cases e';exact ih h'
noncomputable def O1 (ns:List Int)(L turn:Nat):List Int:=Qq ns (3+turn) L (1+cell ns (3+turn)%5).toNat
noncomputable def NG (ns:List Int)(turn:Nat)(s:AS)(x:Wish)(s':AS)(x':Wish):Prop:=match x with
 |.ask c=>Goes {s with es:=s.es++[(c,Bo_ (bigF ns (3+turn)))]} s' x'
 |.shown mm ws=>(cell ns (4+turn)%9=4/\s'=s/\x'=.done mm ws)\/(cell ns (4+turn)%9≠4/\∃n,(∀j,j<n->O1 ns s.L turn++List.replicate j 0∈s.es.map (·.1))/\O1 ns s.L turn++List.replicate n 0∉s.es.map (·.1)/\Goes {s with es:=s.es++[(O1 ns s.L turn++List.replicate n 0,(lsay mm ws (O1 ns s.L turn++List.replicate n 0)+1)%1000000001)]} s' x')
 |_=>s'=s/\x'=x
theorem Fx_ {v:List Int}{ks:List (List Int)}{n m:Nat}(h1:∀j,j<n->v++List.replicate j 0∈ks)(h2:v++List.replicate n 0∉ks)(g1:∀j,j<m->v++List.replicate j 0∈ks)(g2:v++List.replicate m 0∉ks):n=m:=by
 rcases Nat.lt_trichotomy n m with h|h|h
 ·exact absurd (g1 n h) h2
 ·exact h
 ·exact absurd (h1 m h) g2
theorem NG.det     (g:NG ns turn s x a y)(h:NG ns turn s x b z):a=b/\y=z:=by
 cases x with
 |ask c=>exact Goes.det g h
 |shown mm ws=>
  rcases g with ⟨_,rfl,rfl⟩|⟨hc,n,g1,g2,g⟩
  ·rcases h with ⟨_,rfl,rfl⟩|⟨hc',_⟩
   ·exact⟨rfl,rfl⟩
   ·contradiction
  ·rcases h with ⟨hc',_⟩|⟨_,m,h1,h2,h⟩
   ·contradiction
   ·have e:=Fx_ g1 g2 h1 h2
    subst e
    exact Goes.det g h
 |done mm ws=>obtain⟨rfl,rfl⟩:=g;obtain⟨rfl,rfl⟩:=h;exact⟨rfl,rfl⟩
 |spent c=>obtain⟨rfl,rfl⟩:=g;obtain⟨rfl,rfl⟩:=h;exact⟨rfl,rfl⟩
inductive DRun (ns:List Int)(L most:Nat):Nat->AS->Wish->Prop where
 | zero {s:AS} {x:Wish}:Goes (s039 L most) s x->DRun ns L most 0 s x
 | succ {n:Nat} {s s':AS} {x x':Wish}:DRun ns L most n s x->NG ns n s x s' x'->DRun ns L most (n+1) s' x'
theorem DRun.det     (g:DRun ns L most n s x)(h:DRun ns L most n s' x'):s=s'/\x=x':=by
 induction n generalizing s s' x x' with
 |zero=>
  cases g with
  |zero g=>cases h with
   |zero h=>exact Goes.det g h
 |succ n ih=>
  cases g with
  |succ g st=>cases h with
   |succ h st' =>
    obtain⟨rfl,rfl⟩:=ih g h
    exact NG.det st st'
structure R57 (L most n:Nat)(s:AS)(x:Wish):Prop where
 ok:WOk 100 s x
 l:s.L=L
 m:s.most=most
 e:s.es.length<=n
theorem Zk {B:Nat}  (o:OkX none B s)  (g:GuessOk s.L s.W s.E s.es m ws)  (hv:isW s.L v=true)(hne:v ≠ []):0<=lsay m ws v/\lsay m ws v<=1000000000:=by
 have tb:=o.tb
 have hv0:0<v.length:=List.length_pos_iff.mpr hne
 obtain⟨k,k1,k2⟩:=Tw tb g hv (v.length-1)
 have hlt:v.length-1<v.length:=by lia
 have hx:=Ci.mp hv _ (List.getElem_mem hlt)
 obtain⟨x,hxe⟩:∃x:Nat,v[v.length-1]=(x:Int):=⟨(v[v.length-1]).toNat,by lia⟩
 obtain⟨row,y,y1,y2,y3⟩:=g.m k _ x k2 s!""
 have e:lsay m ws v=KG m (Fp ws (v.take (v.length-1))) (v.getD (v.length-1) 0):=by
  unfold lsay sayW
  rw[List.getD_eq_getElem?_getD,List.getElem?_map,List.getElem?_range hlt];rfl
 have e2:lsay m ws v=y:=by
  rw[e,k1,List.getD_eq_getElem?_getD,List.getElem?_eq_getElem hlt]
  show KG m (k:Int) v[v.length-1]=y
  rw[hxe,Sx (by rw[show ((k:Int)).toNat=k by lia];exact y1) (by rw[show ((x:Int)).toNat=x by lia];exact y2)]
 rw[e2]
 exact (tb.bW _ (Bf_ y3)).2
theorem CJ_ (ns:List Int)(turn n:Nat){L:Nat}(l1:1<=L):isW (L:Int) (O1 ns L turn++List.replicate n 0)=true/\O1 ns L turn++List.replicate n 0 ≠ []/\(O1 ns L turn++List.replicate n 0).length<=5+n:=by
 have c0:=Int.emod_nonneg (cell ns (3+turn)) (show (5:Int)≠0 by decide)
 have c1:=Int.emod_lt_of_pos (cell ns (3+turn)) (show (0:Int)<5 by decide)
 have hb:(O1 ns L turn).length=(1+cell ns (3+turn)%5).toNat:=OZ ..
 refine⟨Ci.mpr fun x hx=>?_,fun z=>?_,?_⟩
 ·rcases List.mem_append.mp hx with h|h
  ·exact Ci.mp (Zh ns _ _ l1) x h
  ·rw[(List.mem_replicate.mp h).2];lia
 ·have:=congrArg List.length z
  rw[List.length_append,hb]at this
  simp at this
  lia
 ·rw[List.length_append,hb,List.length_replicate];lia
theorem Fy_     (l1:1<=L)(hn:n<=90)(r:R57 L most n s x)(st:NG ns turn s x s' x'):R57 L most (n+1) s' x':=by
 have hn':=r.e
 cases x with
 |ask c=>
  obtain⟨okc,hno,hc,hlen,hg⟩:=id r.ok
  have hnk:c∉s.es.map (·.1):=fun z=>by
   obtain⟨n,hn'⟩:=Bg_.mp z
   rw[hno]at hn';cases hn'
  obtain⟨m0,m9⟩:=CI_ (bigF ns (3+turn))
  have ok1:=okc.told (m:=Bo_ (bigF ns (3+turn))) (fun b hb=>(Option.some.inj hb).symm) hnk hc m0 m9 hlen hg
  obtain⟨ok2,kp⟩:=Goes.ok st ok1
  exact⟨ok2,kp.l.trans r.l,kp.m.trans r.m,by rw[kp.e];simp;lia⟩
 |shown mm ws=>
  rcases st with ⟨_,rfl,rfl⟩|⟨_,k,h1,h2,st⟩
  ·exact⟨r.ok,r.l,r.m,by lia⟩
  ·obtain⟨ok0,hG,hwr,hgs,gu,hall⟩:=id r.ok
   obtain⟨b1,b2,b3⟩:=CJ_ ns turn k (L:=s.L) (by rw[r.l];exact l1)
   have hk:=Fw_ h1
   rw[List.length_map]at hk
   have ok1:=ok0.told (m:=(lsay mm ws (O1 ns s.L turn++List.replicate k 0)+1)%1000000001) (fun b hb=>(by cases hb)) h2 ⟨b1,b2⟩ (Int.emod_nonneg _ (by decide)) (by have:=Int.emod_lt_of_pos (lsay mm ws (O1 ns s.L turn++List.replicate k 0)+1) (show (0:Int)<1000000001 by decide);lia) s!"" (by rw[hG];simp)
   obtain⟨ok2,kp⟩:=Goes.ok st ok1
   exact⟨ok2,kp.l.trans r.l,kp.m.trans r.m,by rw[kp.e];simp;lia⟩
 |done mm ws=>obtain⟨rfl,rfl⟩:=st;exact⟨r.ok,r.l,r.m,by lia⟩
 |spent c=>obtain⟨rfl,rfl⟩:=st;exact⟨r.ok,r.l,r.m,by lia⟩
theorem DRun.ok     (l1:1<=L)(l6:L<=6)(m1:1<=most)(m12:most<=12)(hn:n<=90)(g:DRun ns L most n s x):R57 L most n s x:=by
 induction g with
 |zero e=>
  obtain⟨ok,kp⟩:=e.ok (Ft_ 100 s!"" l1 l6 m1 m12)
  exact⟨ok,kp.l,kp.m,by rw[kp.e];exact Nat.zero_le _⟩
 |succ _ st ih=>exact Fy_ l1 s!"" (ih s!"") st
noncomputable def Bp_ (K:PySem.W.Frag):Sp:=fun vs H Q _=>∃(h a:Addr) (L:Int) (says ways:List (List Int)) (ws:List Int),vs=[.ref h,.ref a]/\U8 K H h L says ways/\WfS L says ways/\SqT K H a (ws.map V.int)/\ws.length<=600/\isW L ws=true/\∀p H',Same H H'->H' p=some (.lst ((sayW says ways ws).map V.int))->Q (.ref p) H'
theorem Zl   (F:Fun K "_law_talk" "_law_talk" ER f fd)(T:Txt mg)
  (W:Own K mg C_j7 C_j9 C_jj C_ja C_j1 C_j4)
  (Z:Exs K mg C_j8 C_j5 C_j6 C_j3 C_j2 C_j0)
  : FnOk P w K mg base CX0 1 f fd ["house","word"] (Bp_ K):=by
 refine F.ok Hq (fun vs H Q E h=>?_) (fun cdv A outer s H vs Q E hr h=>?_)
 ·obtain⟨h,a,L,says,ways,ws,rfl,_⟩:=h;rfl
 ·obtain⟨h,a,L,says,ways,ws,rfl,hh,wf,hw,hz,hv,k⟩:=h
  have hl:=Ao
  refine⟨_,(Ad (AE (i:=2) Hq.nd Ai)
   (Ad (AE (i:=3) Hq.nd (Rm Af))
   (Ad (Hl PassesOwn.never rfl (DR_ (pvD 1)) (B4 (i:=4) Hq.nd rfl (Or.inl rfl))
   (Ad (Ba (CV_ PySem.F.plainAttrs_list PySem.F.slot_list_append PySem.F.type_list_append Lk (pvD 3) (Aa (BG (ixTD CZ) (BG (ixTD CZ) (BG (ixTD CZ) (pvD 0) Ai) (pvD 2)) (pvD 4)) Af)))
   (Ac (AE (i:=2) Hq.nd (BG (ixTD CZ) (BG (ixTD CZ) (BG (ixTD CZ) (pvD 0) Ai) (pvD 2)) (pvD 4))))))
   (Ac (As (pvD 3)))))),?_⟩
  walk_at "rd"
  refine⟨by lia,fun p hp=>?_⟩
  have s0:=Same.new hp (o:=.lst [])
  obtain⟨Pv,hPv⟩:∃Pv:Nat->St->Hp->Prop,∀i σ2 H2,Pv i σ2 H2↔(Same H H2/\H2 p=some (.lst (((List.range i).map fun j=>KG says (Fp ways (ws.take j)) (ws.getD j 0)).map V.int))/\∃o,σ2=[some (.ref h),some (.ref a),some (.int (Fp ways (ws.take i))),some (.ref p),o]):=⟨_,fun _ _ _=>Iff.rfl⟩
  refine⟨⟨_,s0.seqT hw⟩,forT (xs:=ws.map V.int) Pv ((hPv _ _ _).mpr ⟨s0,by rw[Ae];rfl,none,rfl⟩) (fun i σ2 H2 _ h=>((hPv _ _ _).mp h).1.seqT hw) (fun i x σ2 H2 hx h=>?_) (fun σ2 H2 h=>?_)⟩
  ·obtain⟨s3,hp3,o,rfl⟩:=(hPv _ _ _).mp h
   obtain⟨n,hn,rfl⟩:=Sv hx
   have hi:=(List.getElem?_eq_some_iff.mp hn).1
   have hx:=Ci.mp hv n (List.mem_of_getElem? hn)
   have hwk:=wf.walk hv i
   obtain⟨row,g,r1,r2,r3,r4,r5⟩:=wf.wf.step hwk.1 (by rw[List.length_replicate];exact hwk.2) hx.1 hx.2
   obtain⟨srow,s1,s2⟩:=wf.at hwk.1 hwk.2 hx.1 hx.2
   obtain⟨m,wv,h1,h2,h3⟩:=hh.mono s3
   obtain⟨xs,t,q1,q2,q3⟩:=h2.atZ hwk.1 s1
   walk_at "rd"
   refine⟨.inl ⟨rfl,_,SqL.of hp3⟩,_,h1,_,rfl,?_⟩
   walk_at "rd"
   refine⟨_,q1,_,q2,?_⟩
   walk_at "rd"
   refine⟨_,q3,_,S1 hx.1 s2,_,hp3,by simp;lia,?_⟩
   have s4:Same H (upd H2 p (.lst ((((List.range i).map fun j=>KG says (Fp ways (ws.take j)) (ws.getD j 0)).map V.int)++[V.int (KG says (Fp ways (ws.take i)) n)]))):=s3.over hp
   obtain⟨m,wv,h1,h2,h3⟩:=hh.mono s4
   obtain⟨xs,t,q1,q2,q3⟩:=h3.atZ hwk.1 r1
   refine⟨_,h1,_,rfl,?_⟩
   walk_at "rd"
   refine⟨_,q1,_,q2,?_⟩
   walk_at "rd"
   refine⟨_,q3,_,S1 hx.1 r2,(hPv _ _ _).mpr ⟨s4,?_,some (.int n),?_⟩⟩
   ·rw[Ae,List.range_succ,List.map_append,List.map_append,List.map_singleton,List.map_singleton,show ws.getD i 0=n from by rw[List.getD_eq_getElem?_getD,hn];rfl]
   ·rw[<-r3,<-M3 hn]
  ·obtain⟨s3,hp3,o,rfl⟩:=(hPv _ _ _).mp h
   walk_at "rd"
   rw[List.length_map]at hp3
   exact k p H2 s3 hp3
noncomputable def KP (P:Hp->Prop)(H:Hp)(a:Addr)(ad:AD):Prop:=∀H',Frm H H' a ad->P H'
theorem KP.now {P:Hp->Prop}{H:Hp}{a:Addr}{ad:AD}(k:KP P H a ad):P H:=k H (Frm.of (Same.refl _) a ad)
theorem HN_   (h:v ≠ []):atI ((sayW mm ws v).map V.int) (-1)=some (V.int (lsay mm ws v)):=by
 have hv0:0<v.length:=List.length_pos_iff.mpr h
 have hl:((sayW mm ws v).map V.int).length=v.length:=by rw[List.length_map,IF]
 have hlt:v.length-1<(sayW mm ws v).length:=by rw[IF];lia
 unfold lsay
 rw[List.getD_eq_getElem?_getD,List.getElem?_eq_getElem hlt]
 refine AQ_ ?_
 rw[List.length_map,IF,List.getElem?_map,List.getElem?_eq_getElem hlt];rfl
noncomputable def TU (K:PySem.W.Frag)(CS CA CB:Addr):Sp:=fun vs H Q _=>∃(p a q:Addr) (ns:List Int) (L most n turn:Nat) (ad:AD) (s:AS) (wv:V) (x:Wish),vs=[.ref p,.ref q,.int L,.int turn]/\SAt K CS CA CB H p a ad s wv/\Cg K H s.L wv x/\R57 L most n s x/\Bd 100 s/\n<=90/\turn<=90/\1<=L/\KP (fun H'=>SqL K H' q (ns.map V.int)) H a ad/\ns.length<=63/\∀ad' H' s' x' wv',NG ns turn s x s' x'->SAt K CS CA CB H' p a ad' s' wv'->Cg K H' s.L wv' x'->Frm H H' a ad->AdOk H ad ad'->Q .non H'
theorem Zm   (F:Fun K "_law_deed" "_law_deed" ET f fd)(T:Txt mg)
  (W:Own K mg C_j7 C_j9 C_jj C_ja C_j1 C_j4)
  (Z:Exs K mg C_j8 C_j5 C_j6 C_j3 C_j2 C_j0)
   (A7:FnOk P w K mg base CX0 2 Ar Bc ["self"] (LR K C_j4 C_j1 C_j7)) (Bz:Fun K "wants" "SayAsker.wants" By Ar Bc) (A8:Ap K Bc ["self"] []) (A9:Meth K C_j4 "wants" Ar)
   (Av:FnOk P w K mg base CX0 1 AJ AL ["script","k"] (Ma K)) (Aq:Fun K "_law_cell" "_law_cell" Cj AJ AL) (Aw:Ap K AL ["script","k"] []) (Ax:mg "_law_cell"=some (.ref AJ))
   (DV:FnOk P w K mg base (CXe P w) 14 Bx Et ["self","mark"] (Xb K C_j4 C_j1 C_j7 C_j3 C_j6)) (DW:Fun K "hear" "SayAsker.hear" Cp Bx Et) (DX:Ap K Et ["self","mark"] []) (DY:Meth K C_j4 "hear" Bx)
   (Df:FnOk P w K mg base (CXe P w) 3 Bl DZ ["self"] (TM K C_j4 C_j1 C_j7 C_j3)) (Dh:Fun K "agree" "SayAsker.agree" Cd Bl DZ) (Di:Ap K DZ ["self"] []) (Dj:Meth K C_j4 "agree" Bl)
   (CU:FnOk P w K mg base (CXe P w) 14 Bb Dz ["self","word","mark"] (Xc K C_j4 C_j1 C_j7 C_j3 C_j5 C_j6 C_j2 C_j0)) (CV:Fun K "differ" "SayAsker.differ" BX Bb Dz) (CW:Ap K Dz ["self","word","mark"] []) (CY:Meth K C_j4 "differ" Bb)
   (BP:FnOk P w K mg base CX0 3 AK B0 ["self"] (OS K C_j4 C_j1 C_j7)) (Cf:Fun K "heard" "SayAsker.heard" BK AK B0) (BQ:Ap K B0 ["self"] []) (BR:Meth K C_j4 "heard" AK)
   (Qs:FnOk P w K mg base CX0 2 Iu TV ["script","k"] (CH_ K)) (JY:Fun K "_law_big" "_law_big" GZ Iu TV) (Qt:Ap K TV ["script","k"] []) (Qu:mg "_law_big"=some (.ref Iu))
   (Oc:FnOk P w K mg base CX0 1 G4 Rx ["cell"] (Zf)) (IL:Fun K "_law_mark" "_law_mark" FU G4 Rx) (Od:Ap K Rx ["cell"] []) (Oe:mg "_law_mark"=some (.ref G4))
   (G8:FnOk P w K mg base CX0 1 Ep HD ["house","word"] (Bp_ K)) (Fb:Fun K "_law_talk" "_law_talk" ER Ep HD) (G9:Ap K HD ["house","word"] []) (Ha:mg "_law_talk"=some (.ref Ep))
   (IM:FnOk P w K mg base CX0 3 D0 Kx ["script","at","letters","heard"] (Wj K)) (Fc:Fun K "_law_new_word" "_law_new_word" C2 D0 Kx) (IP:Ap K Kx ["script","at","letters","heard"] []) (IQ:mg "_law_new_word"=some (.ref D0))
  : FnOk P w K mg base CX0 15 f fd ["asker","script","letters","turn"] (TU K C_j4 C_j1 C_j7):=by
 refine F.ok Lu (fun vs H Q E h=>?_) (fun cdv A outer s H vs Q E hr h=>?_)
 ·obtain⟨p,a,q,ns,L,most,n,turn,ad,s,wv,x,rfl,_⟩:=h;rfl
 ·obtain⟨p,a,q,ns,L,most,n,turn,ad,s,wv,y,rfl,S,hw,r,bd,hn,ht,l1,hq,hz,k⟩:=h
  obtain⟨⟨dx,L',hp⟩,gv,rv,zs,ys,us,x⟩:=id S
  have hl:=Ao
  have hq0:=hq.now
  have hre:=r.e
  have hL:=r.l
  subst hL
  refine⟨_,(Ad (AE (i:=4) Lu.nd (Bm (pvD 0) W.cl_j4 A9 A7 (hr.mono (by decide)) A8 .nil Ay))
   (Ac (Cv (ptT (Az (opE NS) (BG (ixTD CZ) (pvD 4) Ai) Bn (Bh _)))
   (Ac (Ba (DF (pvD 0) W.cl_j4 DY DV (hr.mono (by decide)) DX .nil (PZ (P:=P) (w:=w)) (Aa (Aj Oc (hr.mono (by decide)) rfl Oe IL.kp Od .nil Ay (Aa (Aj Qs (hr.mono (by decide)) rfl Qu JY.kp Qt .nil Ay (Aa (pvD 1) (Aa (Bu (opD0 FE) Ai (pvD 3)) Af))) Af)) Af))))
   (Ac (Cv (PW.pt (Jd_ (ptT (Az (opE NS) (BG (ixTD CZ) (pvD 4) Ai) Bn (Bh _))) (HW_ (ptT (Az (opE NS) (Bu (opD Fm) (Aj Av (hr.mono (by decide)) rfl Ax Aq.kp Aw .nil Ay (Aa (pvD 1) (Aa (Bu (opD0 FE) Ai (pvD 3)) Af))) Ai) Ai (Bh _))))))
   (Ac (Ba (Bm (pvD 0) W.cl_j4 Dj Df (hr.mono (by decide)) Di .nil (PZ (P:=P) (w:=w)))))
   (Ac (Cv (ptT (Az (opE NS) (BG (ixTD CZ) (pvD 4) Ai) Bn (Bh _)))
   (Ad (AE (i:=5) Lu.nd (Aj IM (hr.mono (by decide)) rfl IQ Fc.kp IP .nil Ay (Aa (pvD 1) (Aa (Bu (opD0 FE) Ai (pvD 3)) (Aa (pvD 2) (Aa (Bm (pvD 0) W.cl_j4 BR BP (hr.mono (by decide)) BQ .nil Ay) Af))))))
   (Ac (Ba (DF (pvD 0) W.cl_j4 CY CU (hr.mono (by decide)) CW .nil (PZ (P:=P) (w:=w)) (Aa (pvD 5) (Aa (Bu (opD Fm) (Bu (opD0 FE) (BG (ixLD Jn) (Aj G8 (hr.mono (by decide)) rfl Ha Fb.kp G9 .nil Ay (Aa (BG (ixTD CZ) (pvD 4) Ai) (Aa (pvD 5) Af))) (AI_ SK Ai)) Ai) Ai) Af))))))
   AR))))))),?_⟩
  walk_at "rd"
  refine⟨_,_,hp,by kernel_rfl,p,a,ad,s,wv,rfl,S,?_⟩
  cases y with
  |ask c=>
   obtain⟨t,u,rfl,ht',hu⟩:=id hw
   have ht':H t=some (.tup [.str ("ask" : Str),.ref u]):=ht'
   refine⟨t,rfl,_,SqT.of ht',_,rfl,rfl,?_⟩
   rw[if_pos rfl]
   refine⟨_,_,hp,by kernel_rfl,q,ns,3+(turn:Int),rfl,hq0,hz,by lia,by lia,_,rfl,p,a,ad,s,_,.ask c,100,_,rfl,S,hw,r.ok,bd,by lia,fun hx=>absurd rfl hx,fun c' hc=>⟨fun hno=>absurd (CI_ _) hno,fun h0 h9 ad' H' s' x' wv' go S' hw' f o=>k ad' H' s' x' wv' ?_ S' hw' f o⟩⟩
   cases hc
   exact go
  |shown mm ws=>
   obtain⟨t,u,rfl,ht',hu⟩:=id hw
   have ht':H t=some (.tup [.str ("show" : Str),.ref u]):=ht'
   obtain⟨ok0,hG,hwr,hgs,gu,hall⟩:=id r.ok
   have wf:=ok0.tb.wf gu
   refine⟨t,rfl,_,SqT.of ht',_,rfl,rfl,?_⟩
   rw[if_neg (fun z=>absurd (V.str.inj z) (by decide +kernel))]
   refine⟨t,rfl,_,SqT.of ht',_,rfl,rfl,?_⟩
   rw[if_pos rfl]
   refine⟨q,ns,4+turn,by push_cast;rfl,hq0,_,rfl,by decide,?_⟩
   by_cases hc:cell ns (4+turn)%9=4
   ·rw[if_pos hc]
    refine⟨_,_,hp,by kernel_rfl,p,a,ad,s,_,_,rfl,S,hw,fun hx=>absurd rfl hx,fun mm' ws' e H' wv' S' hw' f=>?_⟩
    cases e
    exact k ad H' s _ wv' (.inl ⟨hc,rfl,rfl⟩) S' hw' f (AdOk.refl H ad)
   ·rw[if_neg hc]
    refine⟨t,rfl,_,SqT.of ht',_,rfl,rfl,?_⟩
    rw[if_pos rfl]
    refine⟨_,_,hp,by kernel_rfl,p,a,ad,s,_,rfl,S,fun l rs H1 s1 hl0 hl1 htr=>?_⟩
    refine⟨q,l,ns,3+turn,s.L,rs,s.es,by push_cast;rfl,s1.seq hq0,l1,hl1,htr,by lia,fun t2 m H2 s2 h1 h2 hm ht2=>?_⟩
    have s12:=s1.trans s2
    obtain⟨b1,b2,b3⟩:=CJ_ ns turn m l1
    have lr:=Zk ok0 gu b1 b2
    have h1:∀j,j<m->O1 ns s.L turn++List.replicate j 0∈s.es.map (·.1):=h1
    have h2:O1 ns s.L turn++List.replicate m 0∉s.es.map (·.1):=h2
    have ht2:H2 t2=some (.tup ((O1 ns s.L turn++List.replicate m 0).map V.int)):=ht2
    have e0:NG ns turn s (.shown mm ws)=NG ns turn s (.shown mm ws):=rfl
    refine⟨_,_,s12 _ _ hp,by kernel_rfl,t,rfl,_,SqT.of (s12 _ _ ht'),_,rfl,u,t2,s.L,mm,ws,_,rfl,(HouT.house hu).mono s12,wf,SqT.of ht2,by lia,b1,fun pl H3 s3 hpl=>?_⟩
    have s123:=s12.trans s3
    refine⟨pl,rfl,_,SqL.of hpl,_,HN_ b2,_,rfl,by decide,p,a,t2,ad,s,_,.shown mm ws,100,_,_,rfl,S.same s123,hw.mono (TK.of s123),r.ok,bd,by lia,s3 _ _ ht2,by lia,fun hx=>absurd rfl hx,fun mm' ws' e=>?_⟩
    cases e
    refine⟨fun hb=>?_,fun _ _ hm'=>?_,fun _ _ h0 h9=>⟨fun he=>?_,fun _ hin=>absurd hin h2,fun _ _=>⟨by lia,fun ad' H' s' x' wv' go S' hw' f o=>k ad' H' s' x' wv' (.inr ⟨hc,m,h1,h2,go⟩) S' hw' ((Frm.of s123 a ad).seq f) (AdOk.trans (Frm.of s123 a ad) (AdOk.refl H ad) o)⟩⟩⟩
    ·rcases hb with hb|hb
     ·exact absurd hb b2
     ·rw[b1]at hb;cases hb
    ·exact absurd ⟨Int.emod_nonneg _ (by decide),by have:=Int.emod_lt_of_pos (lsay mm ws (O1 ns s.L turn++List.replicate m 0)+1) (show (0:Int)<1000000001 by decide);lia⟩ hm'
    ·lia
  |done mm ws=>
   obtain⟨t,u,rfl,ht',hu⟩:=id hw
   have ht':H t=some (.tup [.str ("done" : Str),.ref u]):=ht'
   refine⟨t,rfl,_,SqT.of ht',_,rfl,rfl,?_⟩
   rw[if_neg (fun z=>absurd (V.str.inj z) (by decide +kernel))]
   refine⟨t,rfl,_,SqT.of ht',_,rfl,rfl,?_⟩
   rw[if_neg (fun z=>absurd (V.str.inj z) (by decide +kernel))]
   refine⟨t,rfl,_,SqT.of ht',_,rfl,rfl,?_⟩
   rw[if_neg (fun z=>absurd (V.str.inj z) (by decide +kernel))]
   exact k ad H s _ _ ⟨rfl,rfl⟩ S hw (Frm.of (Same.refl _) a ad) (AdOk.refl H ad)
  |spent c=>
   obtain⟨t,u,rfl,ht',hu⟩:=id hw
   have ht':H t=some (.tup [.str ("spent" : Str),.ref u]):=ht'
   refine⟨t,rfl,_,SqT.of ht',_,rfl,rfl,?_⟩
   rw[if_neg (fun z=>absurd (V.str.inj z) (by decide +kernel))]
   refine⟨t,rfl,_,SqT.of ht',_,rfl,rfl,?_⟩
   rw[if_neg (fun z=>absurd (V.str.inj z) (by decide +kernel))]
   refine⟨t,rfl,_,SqT.of ht',_,rfl,rfl,?_⟩
   rw[if_neg (fun z=>absurd (V.str.inj z) (by decide +kernel))]
   exact k ad H s _ _ ⟨rfl,rfl⟩ S hw (Frm.of (Same.refl _) a ad) (AdOk.refl H ad)
noncomputable def Ve (K:PySem.W.Frag)(H:Hp)(l:Addr)(s:AS)(x:Wish):Prop:=∃wv l1 l2 l3 xs ys rs,H l=some (.lst [wv,.ref l1,.ref l2,.ref l3])/\Cg K H s.L wv x/\H l1=some (.lst xs)/\Au K H xs s.W/\H l2=some (.lst ys)/\Au K H ys s.E/\H l3=some (.lst rs)/\G0 H rs s.es
theorem Ve.mono {K:PySem.W.Frag}     (h:Ve K H l s x)(e:Same H H'):Ve K H' l s x:=by
 obtain⟨wv,l1,l2,l3,xs,ys,rs,a,b,c,d,f,g,i,j⟩:=h
 exact⟨wv,l1,l2,l3,xs,ys,rs,e _ _ a,b.mono (TK.of e),e _ _ c,d.mono (TK.of e),e _ _ f,g.mono (TK.of e),e _ _ i,j.mono (TK.of e)⟩
noncomputable def Xe (K:PySem.W.Frag)(CS CA CB:Addr):Sp:=fun vs H Q _=>∃(p a:Addr) (ad:AD) (s:AS) (wv:V) (x:Wish),vs=[.ref p]/\SAt K CS CA CB H p a ad s wv/\Cg K H s.L wv x/\∀l H',Same H H'->Ve K H' l s x->Q (.ref l) H'
theorem Bq_   (F:Fun K "_law_all" "_law_all" F8 f fd)(T:Txt mg)
  (W:Own K mg C_j7 C_j9 C_jj C_ja C_j1 C_j4)
  (Z:Exs K mg C_j8 C_j5 C_j6 C_j3 C_j2 C_j0)
   (A7:FnOk P w K mg base CX0 2 Ar Bc ["self"] (LR K C_j4 C_j1 C_j7)) (Bz:Fun K "wants" "SayAsker.wants" By Ar Bc) (A8:Ap K Bc ["self"] []) (A9:Meth K C_j4 "wants" Ar)
   (BP:FnOk P w K mg base CX0 3 AK B0 ["self"] (OS K C_j4 C_j1 C_j7)) (Cf:Fun K "heard" "SayAsker.heard" BK AK B0) (BQ:Ap K B0 ["self"] []) (BR:Meth K C_j4 "heard" AK)
   (Hb:FnOk P w K mg base CX0 2 B3 Ji ["self"] (SI K C_j4 C_j1 C_j7 AS.W)) (Fe:Fun K "access" "SayAsker.access" Ck B3 Ji) (Hc:Ap K Ji ["self"] []) (Hd:Meth K C_j4 "access" B3)
   (GD:FnOk P w K mg base CX0 2 BI IS ["self"] (SI K C_j4 C_j1 C_j7 AS.E)) (EE:Fun K "tellers" "SayAsker.tellers" B7 BI IS) (GF:Ap K IS ["self"] []) (GG:Meth K C_j4 "tellers" BI)
  : FnOk P w K mg base CX0 4 f fd ["asker"] (Xe K C_j4 C_j1 C_j7):=by
 refine F.ok AY_ (fun vs H Q E h=>?_) (fun cdv A outer s H vs Q E hr h=>?_)
 ·obtain⟨p,a,ad,s,wv,x,rfl,_⟩:=h;rfl
 ·obtain⟨p,a,ad,s,wv,y,rfl,S,hw,k⟩:=h
  obtain⟨⟨dx,L',hp⟩,_⟩:=id S
  have hl:=Ao
  refine⟨_,(Ac (As (Rm (Aa (Bm (pvD 0) W.cl_j4 A9 A7 (hr.mono (by decide)) A8 .nil Ay) (Aa (Bm (pvD 0) W.cl_j4 Hd Hb (hr.mono (by decide)) Hc .nil Ay) (Aa (Bm (pvD 0) W.cl_j4 GG GD (hr.mono (by decide)) GF .nil Ay) (Aa (Bm (pvD 0) W.cl_j4 BR BP (hr.mono (by decide)) BQ .nil Ay) Af))))))),?_⟩
  walk_at "rd"
  refine⟨_,_,hp,by kernel_rfl,p,a,ad,s,wv,rfl,S,_,_,hp,by kernel_rfl,p,a,ad,s,wv,rfl,S,fun l1 xs H1 s1 h10 h1 w1=>?_⟩
  refine⟨_,_,s1 _ _ hp,by kernel_rfl,p,a,ad,s,wv,rfl,S.same s1,fun l2 ys H2 s2 h20 h2 w2=>?_⟩
  have s12:=s1.trans s2
  refine⟨_,_,s12 _ _ hp,by kernel_rfl,p,a,ad,s,wv,rfl,S.same s12,fun l3 rs H3 s3 h30 h3 w3=>⟨by lia,fun l hl'=>?_⟩⟩
  have s4:=Same.new hl' (o:=.lst [wv,.ref l1,.ref l2,.ref l3])
  have s34:=s3.trans s4
  have s24:=s2.trans s34
  exact k l _ (s12.trans s34) ⟨wv,l1,l2,l3,xs,ys,rs,Ae,hw.mono (TK.of (s12.trans s34)),s24 _ _ h1,w1.mono (TK.of s24),s34 _ _ h2,w2.mono (TK.of s34),s4 _ _ h3,w3.mono (TK.of s4)⟩
theorem KM_ {K:PySem.W.Frag}{H H1:Hp}   {ad:AD}(h:SqL K H q xs)(e:∀y o,H y=some o->H1 y=some o)(fr:H a=none/\H ad.d=none/\H ad.pw=none/\H ad.pe=none/\H ad.pg=none):KP (fun H'=>SqL K H' q xs) H1 a ad:=fun H2 f=>by
 have g:∀o,H q=some o->H2 q=some o:=fun o hy=>f.1 q o (e _ _ hy) (fun z=>by rw[z,fr.1]at hy;cases hy) (fun z=>by rw[z,fr.2.1]at hy;cases hy) (fun z=>by rw[z,fr.2.2.1]at hy;cases hy) (fun z=>by rw[z,fr.2.2.2.1]at hy;cases hy) (fun z=>by rw[z,fr.2.2.2.2]at hy;cases hy)
 rcases h with (h|⟨o,h⟩)|h
 ·exact .inl (.inl (g _ h))
 ·exact .inl (.inr ⟨o,g _ h⟩)
 ·exact .inr h
noncomputable def Of (K:PySem.W.Frag)(CS CA CB:Addr):Sp:=fun vs H Q _=>∃(q:Addr) (ns:List Int) (L n:Nat),vs=[.ref q,.int L,.int n]/\SqL K H q (ns.map V.int)/\ns.length<=63/\1<=L/\L<=6/\n<=80/\∀p a ad H' most s x wv,most=(if L > 3 then 1+(1+cell ns 1%4)%2 else 1+cell ns 1%4).toNat->DRun ns L most n s x->SAt K CS CA CB H' p a ad s wv->Cg K H' L wv x->(∀y o,H y=some o->H' y=some o)->(∀y,H' y=none->H y=none)->(H p=none/\H a=none/\H ad.d=none/\H ad.pw=none/\H ad.pe=none/\H ad.pg=none)->Q (.ref p) H'
theorem Vf   (F:Fun K "_law_driven" "_law_driven" Dn f fd)(T:Txt mg)
  (W:Own K mg C_j7 C_j9 C_jj C_ja C_j1 C_j4)
  (Z:Exs K mg C_j8 C_j5 C_j6 C_j3 C_j2 C_j0)
   (Av:FnOk P w K mg base CX0 1 AJ AL ["script","k"] (Ma K)) (Aq:Fun K "_law_cell" "_law_cell" Cj AJ AL) (Aw:Ap K AL ["script","k"] []) (Ax:mg "_law_cell"=some (.ref AJ))
   (IT:FnOk P w K mg base CX0 14 Cs Ky ["self","letters","most"] (CG_ K C_j4 C_j1 C_j7)) (GH:Fun K "__init__" "SayAsker.__init__" C1 Cs Ky) (IU:Ap K Ky ["self","letters","most"] []) (IV:Mk K C_j4 Cs)
   (FX:FnOk P w K mg base CX0 15 Er HE ["asker","script","letters","turn"] (TU K C_j4 C_j1 C_j7)) (Es:Fun K "_law_deed" "_law_deed" ET Er HE) (FY:Ap K HE ["asker","script","letters","turn"] []) (FZ:mg "_law_deed"=some (.ref Er))
  : FnOk P w K mg base CX0 16 f fd ["script","letters","turns"] (Of K C_j4 C_j1 C_j7):=by
 refine F.ok FF (fun vs H Q E h=>?_) (fun cdv A outer s H vs Q E hr h=>?_)
 ·obtain⟨q,ns,L,n,rfl,_⟩:=h;rfl
 ·obtain⟨q,ns,L,n,rfl,hq,hz,l1,l6,hn,k⟩:=h
  have hl:=Ao
  refine⟨_,(Ad (AE (i:=3) FF.nd (Bu (opD0 FE) Ai (Bu (opD Fm) (Aj Av (hr.mono (by decide)) rfl Ax Aq.kp Aw .nil Ay (Aa (pvD 0) (Aa Ai Af))) Ai)))
   (Iw (Cv (ptT (Az (opD0 Ia_) (pvD 1) Ai (Bh _)))
   (Ac (AE (i:=3) FF.nd (Bu (opD0 FE) Ai (Bu (opD Fm) (pvD 3) Ai))))
   AR)
   (Ad (AE (i:=4) FF.nd (AJ_ IV IT (hr.mono (by decide)) rfl W.m_j4 IU .nil Ay (Aa (pvD 1) (Aa (pvD 3) Af))))
   (Ad (Hl PassesOwn.never rfl (Li rfl T.range (Aa (pvD 2) Af)) (B4 (i:=5) FF.nd rfl (Or.inl rfl))
   (Ac (Ba (Aj FX (hr.mono (by decide)) rfl FZ Es.kp FY .nil Ay (Aa (pvD 4) (Aa (pvD 0) (Aa (pvD 1) (Aa (pvD 5) Af))))))))
   (Ac (As (pvD 4))))))),?_⟩
  walk_at "rd"
  have c0:=Int.emod_nonneg (cell ns 1) (show (4:Int)≠0 by decide)
  have c1:=Int.emod_lt_of_pos (cell ns 1) (show (0:Int)<4 by decide)
  refine⟨q,ns,1,rfl,hq,_,rfl,by decide,?_⟩
  obtain⟨most,hm⟩:∃most:Nat,most=(if L > 3 then 1+(1+cell ns 1%4)%2 else 1+cell ns 1%4).toNat:=⟨_,rfl⟩
  have hm2:(most:Int)=if L > 3 then 1+(1+cell ns 1%4)%2 else 1+cell ns 1%4:=by rw[hm];split<;>lia
  have m1:1<=most:=by split at hm2<;>lia
  have m4:most<=4:=by split at hm2<;>lia
  have m2:L > 3->most<=2:=fun z=>by rw[if_pos z]at hm2;lia
  refine⟨fun σ' H'=>σ'=[some (.ref q),some (.int L),some (.int n),some (.int most),none,none]/\H'=H,?_,fun σ' H' hh=>?_⟩
  ·walk_at "rd"
   refine ite2 (fun e=>⟨by decide,?_⟩) (fun e=>?_)
   ·rw[hm2,if_pos s!""]
   ·rw[hm2,if_neg s!""]
  obtain⟨rfl,hH⟩:=hh
  have hH:=hH.symm
  subst hH
  walk_at "rd"
  intro p dx hpN hdN hne
  refine⟨p,dx,L,most,rfl,Ae,l1,l6,m1,by lia,fun a ad H1 s x wv go S hw hf hno hfr=>⟨rfl,by lia,by lia,?_⟩⟩
  rw[Int.toNat_natCast]
  have hb:(most+1)*(most+L)<=5*10:=Nat.mul_le_mul s!"" s!""
  have nz:∀y,upd (upd H dx (HO.own p)) p (HO.ins C_j4 dx []) y=none->H y=none:=fun y hy=>by
   by_cases z1:y=p
   ·rw[z1,Ae]at hy;cases hy
   ·by_cases z2:y=dx
    ·rw[z2,Ah (by rw[<-z2];exact z1),Ae]at hy;cases hy
    ·rw[Ah z1,Ah z2]at hy;exact hy
  have hfr':H a=none/\H ad.d=none/\H ad.pw=none/\H ad.pe=none/\H ad.pg=none:=⟨nz _ hfr.1,nz _ hfr.2.1,nz _ hfr.2.2.1,nz _ hfr.2.2.2.1,nz _ hfr.2.2.2.2⟩
  have hk1:∀y o,H y=some o->H1 y=some o:=fun y o hy=>by
   have y1:y≠p:=fun z=>by rw[z,hpN]at hy;cases hy
   have y2:y≠dx:=fun z=>by rw[z,hdN]at hy;cases hy
   exact hf _ _ (by rw[Ah y1,Ah y2];exact hy) y1
  obtain⟨Pv,hPv⟩:∃Pv:Nat->St->Hp->Prop,∀i σ' H',Pv i σ' H'↔(∃(ad':AD) (s':AS) (x':Wish) (wv':V) (o:Option V),DRun ns L most i s' x'/\SAt K C_j4 C_j1 C_j7 H' p a ad' s' wv'/\Cg K H' L wv' x'/\(∀y o,H y=some o->H' y=some o)/\(∀y,H' y=none->H y=none)/\(H a=none/\H ad'.d=none/\H ad'.pw=none/\H ad'.pe=none/\H ad'.pg=none)/\σ'=[some (.ref q),some (.int L),some (.int n),some (.int most),some (.ref p),o]):=⟨_,fun _ _ _=>Iff.rfl⟩
  refine forR Pv ((hPv _ _ _).mpr ⟨ad,s,x,wv,none,.zero go,S,hw,hk1,fun y hy=>nz y (hno y hy),hfr',rfl⟩) (fun i σ' H' hi h'=>?_) (fun σ' H' h'=>?_)
  ·obtain⟨ad',s',x',wv',o,dr,S',hw',hk',hn',fr',rfl⟩:=(hPv _ _ _).mp h'
   have r:=dr.ok l1 l6 m1 s!"" s!""
   have hsL:=r.l
   have hsm:=r.m
   walk_at "rd"
   refine⟨p,a,q,ns,L,most,i,i,ad',s',wv',x',by rw[Int.zero_add],S',by rw[hsL];exact hw',r,by unfold Bd;rw[hsL,hsm];lia,by lia,by lia,l1,KM_ hq hk' fr',hz,fun ad2 H2 s2 x2 wv2 st S2 hw2 f2 o2=>(hPv _ _ _).mpr ⟨ad2,s2,x2,wv2,_,.succ dr st,S2,by rw[hsL]at hw2;exact hw2,fun y oo hy=>?_,fun y hy=>hn' y (f2.2 y hy),?_,rfl⟩⟩
   ·exact f2.1 y oo (hk' y oo hy) (fun z=>by rw[z,fr'.1]at hy;cases hy) (fun z=>by rw[z,fr'.2.1]at hy;cases hy) (fun z=>by rw[z,fr'.2.2.1]at hy;cases hy) (fun z=>by rw[z,fr'.2.2.2.1]at hy;cases hy) (fun z=>by rw[z,fr'.2.2.2.2]at hy;cases hy)
   ·obtain⟨_,_,q3,q4,q5,q6⟩:=o2
    refine⟨fr'.1,by rw[q3];exact fr'.2.1,by rw[q4];exact fr'.2.2.1,by rw[q5];exact fr'.2.2.2.1,?_⟩
    rcases q6 with q6|q6
    ·rw[q6];exact fr'.2.2.2.2
    ·exact hn' _ q6
  ·obtain⟨ad',s',x',wv',o,dr,S',hw',hk',hn',fr',rfl⟩:=(hPv _ _ _).mp h'
   walk_at "rd"
   exact k p a ad' H' most s' x' wv' hm dr S' hw' hk' hn' ⟨hpN,fr'⟩
theorem EqD.all43 {K:PySem.W.Frag}     (hq:(SqL K H a xs/\SqL K H c ys)\/(SqT K H a xs/\SqT K H c ys))(hl:xs.length=ys.length)(h:∀(i:Nat) (x y:V),xs[i]?=some x->ys[i]?=some y->EqD K H n x y true):EqD K H (n+1) (.ref a) (.ref c) true:=
 .inr ⟨a,c,xs,ys,rfl,rfl,hq,fun _=>true,h,by simp[hl]⟩
theorem EqD.int43 {K:PySem.W.Frag}  (n:Nat)(i:Int):EqD K H n (.int i) (.int i) true:=by
 cases n with
 |zero=>exact⟨rfl,rfl,by simp[eqV]⟩
 |succ n=>exact .inl ⟨rfl,rfl,by simp[eqV]⟩
theorem EqD.str43 {K:PySem.W.Frag}  (n:Nat)(i:Str):EqD K H n (.str i) (.str i) true:=by
 cases n with
 |zero=>exact⟨rfl,rfl,by simp[eqV]⟩
 |succ n=>exact .inl ⟨rfl,rfl,by simp[eqV]⟩
theorem EqD.word43 {K:PySem.W.Frag}{H:Hp}(n:Nat){a b:Addr}{w:List Int}(h:SqT K H a (w.map V.int))(g:SqT K H b (w.map V.int)):EqD K H (n+1) (.ref a) (.ref b) true:=by
 have:=EqD.ints (K:=K) (H:=H) (a:=a) (c:=b) (xs:=w) (ys:=w) (.inr ⟨h,g⟩) n
 rw[decide_eq_true rfl]at this
 exact this
theorem Kt_ {α:Type}{P:Nat->α->α->Prop}{a b c d:α}(h0:P 0 a c)(h1:P 1 b d):∀i x y,[a,b][i]?=some x->[c,d][i]?=some y->P i x y:=by
 intro i x y hx hy
 match i with
 |0=>simp at hx hy;subst hx hy;exact h0
 |1=>simp at hx hy;subst hx hy;exact h1
 |i+2=>simp at hx
theorem IO_ {α:Type}{P:Nat->α->α->Prop}{a b e c d f:α}(h0:P 0 a c)(h1:P 1 b d)(h2:P 2 e f):∀i x y,[a,b,e][i]?=some x->[c,d,f][i]?=some y->P i x y:=by
 intro i x y hx hy
 match i with
 |0=>simp at hx hy;subst hx hy;exact h0
 |1=>simp at hx hy;subst hx hy;exact h1
 |2=>simp at hx hy;subst hx hy;exact h2
 |i+3=>simp at hx
theorem Au.eqT57 {K:PySem.W.Frag}     (h3:SqT K H a zs)(h4:Au K H zs ws)(g3:SqT K H b zs')(g4:Au K H zs' ws)(n:Nat):EqD K H (n+2) (.ref a) (.ref b) true:=by
 refine EqD.all43 (.inr ⟨h3,g3⟩) (by rw[h4.1,g4.1]) fun i x y hx hy=>?_
 obtain⟨t,w,e1,rfl,e2⟩:=h4.at hx
 obtain⟨u,w',f1,rfl,f2⟩:=g4.at hy
 rw[e1]at f1
 cases f1
 exact EqD.word43 _ (SqT.of e2) (SqT.of f2)
theorem HouT.eq57 {K:PySem.W.Frag}     (h:HouT K H a L m ws)(g:HouT K H b L m ws)(n:Nat):EqD K H (n+3) (.ref a) (.ref b) true:=by
 obtain⟨tm,tw,us,zs,h1,h2,h2',h3,h4⟩:=h
 obtain⟨tm',tw',us',zs',g1,g2,g2',g3,g4⟩:=g
 exact EqD.all43 (.inr ⟨SqT.of h1,SqT.of g1⟩) rfl (IO_ (P:=fun _ x y=>EqD K H (n+2) x y true) (EqD.int43 _ _) (Au.eqT57 (SqT.of h2) h2' (SqT.of g2) g2' n) (Au.eqT57 (SqT.of h3) h4 (SqT.of g3) g4 n))
theorem Cg.eq57 {K:PySem.W.Frag}     (h:Cg K H L v x)(g:Cg K H L v' x)(n:Nat):EqD K H (n+4) v v' true:=by
 obtain⟨t,u,rfl,h1,h2⟩:=h
 obtain⟨t',u',rfl,g1,g2⟩:=g
 refine EqD.all43 (.inr ⟨SqT.of h1,SqT.of g1⟩) rfl (Kt_ (P:=fun _ x y=>EqD K H (n+3) x y true) (EqD.str43 _ _) ?_)
 cases x with
 |ask c=>exact EqD.word43 _ (SqT.of h2) (SqT.of g2)
 |spent c=>exact EqD.word43 _ (SqT.of h2) (SqT.of g2)
 |shown m ws=>exact HouT.eq57 h2 g2 n
 |done m ws=>exact HouT.eq57 h2 g2 n
theorem G0.eq43 {K:PySem.W.Frag}     (h:G0 H xs es)(g:G0 H ys es)(ha:H a=some (.lst xs))(hb:H b=some (.lst ys))(n:Nat):EqD K H (n+3) (.ref a) (.ref b) true:=by
 refine EqD.all43 (.inl ⟨SqL.of ha,SqL.of hb⟩) (by rw[h.1,g.1]) fun i x y hx hy=>?_
 have hi:i<es.length:=by rw[<-h.1];exact (List.getElem?_eq_some_iff.mp hx).1
 obtain⟨t,wt,e1,e2,e3⟩:=h.2 i es[i] (by simp[hi])
 obtain⟨u,wu,f1,f2,f3⟩:=g.2 i es[i] (by simp[hi])
 rw[hx]at e1
 cases e1
 rw[hy]at f1
 cases f1
 exact EqD.all43 (.inr ⟨SqT.of e2,SqT.of f2⟩) rfl (Kt_ (P:=fun _ x y=>EqD K H (n+1) x y true) (EqD.word43 _ (SqT.of e3) (SqT.of f3)) (EqD.int43 _ _))
theorem Ku_ {α:Type}{P:Nat->α->α->Prop}{a b e k c d f l:α}(h0:P 0 a c)(h1:P 1 b d)(h2:P 2 e f)(h3:P 3 k l):∀i x y,[a,b,e,k][i]?=some x->[c,d,f,l][i]?=some y->P i x y:=by
 intro i x y hx hy
 match i with
 |0=>simp at hx hy;subst hx hy;exact h0
 |1=>simp at hx hy;subst hx hy;exact h1
 |2=>simp at hx hy;subst hx hy;exact h2
 |3=>simp at hx hy;subst hx hy;exact h3
 |i+4=>simp at hx
theorem Ve.eq57 {K:PySem.W.Frag}     (h:Ve K H l s x)(g:Ve K H l' s x):EqD K H 8 (.ref l) (.ref l') true:=by
 obtain⟨wv,l1,l2,l3,xs,ys,rs,h0,hw,h2,h3,h4,h5,h6,h7⟩:=h
 obtain⟨wv',l1',l2',l3',xs',ys',rs',g0,gw,g2,g3,g4,g5,g6,g7⟩:=g
 exact EqD.all43 (.inl ⟨SqL.of h0,SqL.of g0⟩) rfl (Ku_ (P:=fun _ x y=>EqD K H 7 x y true) (hw.eq57 gw 3) (Au.eq h3 g3 (SqL.of h2) (SqL.of g2) 5) (Au.eq h5 g5 (SqL.of h4) (SqL.of g4) 5) (G0.eq43 h7 g7 h6 g6 4))
noncomputable def Fps (a:Addr)(ad:AD)(y:Addr):Prop:=y=a\/y=ad.d\/y=ad.pw\/y=ad.pe\/y=ad.pg
noncomputable def Dis (a:Addr)(ad:AD)(a':Addr)(ad':AD):Prop:=∀y,Fps a ad y->¬ Fps a' ad' y
theorem AskAt.tkF {K:PySem.W.Frag}    {ad:AD}  {wv gv rv:V}  (x:AskAt K CA CB H a ad s wv gv rv zs ys us)(f:Frm H H' a ad):TK H H':=fun t ts h=>f.1 _ _ h (fun z=>by rw[z,x.ob]at h;cases h) (fun z=>by rw[z,x.bk.dc]at h;cases h) (fun z=>by rw[z,x.w]at h;cases h) (fun z=>by rw[z,x.e]at h;cases h) (fun z=>by rw[z,x.g]at h;cases h)
theorem SAt.other {K:PySem.W.Frag}    {ad ad':AD}  {wv wv':V}(x:SAt K CS CA CB H p a ad s wv)(y:SAt K CS CA CB H p' a' ad' s' wv')(d:Dis a ad a' ad')(f:Frm H H' a ad):SAt K CS CA CB H' p' a' ad' s' wv':=by
 obtain⟨_,gv,rv,zs,ys,us,X⟩:=x
 obtain⟨⟨dx,L,hp⟩,gv',rv',zs',ys',us',Y⟩:=y
 have nf:∀y,Fps a' ad' y->∀o,H y=some o->H' y=some o:=fun y hy o ho=>by
  have h:¬ Fps a ad y:=fun z=>d y z hy
  exact f.1 y o ho (fun z=>h (.inl z)) (fun z=>h (.inr (.inl z))) (fun z=>h (.inr (.inr (.inl z)))) (fun z=>h (.inr (.inr (.inr (.inl z))))) (fun z=>h (.inr (.inr (.inr (.inr z)))))
 refine⟨⟨dx,L,f.1 _ _ hp (fun z=>?_) (fun z=>by rw[z,X.bk.dc]at hp;cases hp) (fun z=>by rw[z,X.w]at hp;cases hp) (fun z=>by rw[z,X.e]at hp;cases hp) (fun z=>by rw[z,X.g]at hp;cases hp)⟩,_,_,_,_,_,Y.keep (fun y o ho hc=>?_) (X.tkF f)⟩
 ·rw[z,X.ob]at hp
  injection hp with hp
  injection hp with _ _ hp
  have:=congrArg List.length hp
  simp[afl,sfl]at this
 ·rcases hc with hc|hc|hc|hc|hc|hc
  ·exact nf y (.inl hc) o ho
  ·obtain⟨dxb,hb⟩:=Y.bk.ob
   rw[<-hc]at hb
   refine f.1 y o ho (fun z=>?_) (fun z=>by rw[z,X.bk.dc]at hb;cases hb) (fun z=>by rw[z,X.w]at hb;cases hb) (fun z=>by rw[z,X.e]at hb;cases hb) (fun z=>by rw[z,X.g]at hb;cases hb)
   rw[z,X.ob]at hb
   injection hb with hb
   injection hb with _ _ hb
   have:=congrArg List.length hb
   rw[show (YS (s'.L:Int) ad'.d).length=2 from by kernel_rfl]at this
   simp[afl]at this
  ·exact nf y (.inr (.inl hc)) o ho
  ·exact nf y (.inr (.inr (.inl hc))) o ho
  ·exact nf y (.inr (.inr (.inr (.inl hc)))) o ho
  ·exact nf y (.inr (.inr (.inr (.inr hc)))) o ho
noncomputable def Scr (K:PySem.W.Frag)(H:Hp)(q:Addr)(xs:List V)(a:Addr)(ad:AD):Prop:=(Rd H q (.lst xs)/\¬ Fps a ad q) \/ ∀H',SqL K H' q xs
theorem Rd.frm57    {ad:AD}(h:Rd H q (.lst xs))(n:¬ Fps a ad q)(f:Frm H H' a ad):Rd H' q (.lst xs):=by
 have g:∀o,H q=some o->H' q=some o:=fun o ho=>f.1 q o ho (fun z=>n (.inl z)) (fun z=>n (.inr (.inl z))) (fun z=>n (.inr (.inr (.inl z)))) (fun z=>n (.inr (.inr (.inr (.inl z))))) (fun z=>n (.inr (.inr (.inr (.inr z)))))
 rcases h with h|⟨o,h⟩
 ·exact .inl (g _ h)
 ·exact .inr ⟨o,g _ h⟩
theorem Scr.kp {K:PySem.W.Frag}    {ad:AD}(h:Scr K H q xs a ad):KP (fun H'=>SqL K H' q xs) H a ad:=fun H' f=>by
 rcases h with ⟨h,n⟩|h
 ·exact .inl (Rd.frm57 h n f)
 ·exact h H'
theorem Scr.of {K:PySem.W.Frag}{H H1:Hp}   {ad:AD}(h:SqL K H q xs)(e:Same H H1)(fr:H a=none/\H ad.d=none/\H ad.pw=none/\H ad.pe=none/\H ad.pg=none):Scr K H1 q xs a ad:=by
 rcases h with h|h
 ·have hs:∃o,H q=some o:=by
   rcases h with h|⟨o,h⟩
   ·exact⟨_,h⟩
   ·exact⟨_,h⟩
  obtain⟨o,ho⟩:=hs
  refine .inl ⟨?_,fun z=>?_⟩
  ·rcases h with h|⟨o,h⟩
   ·exact .inl (e _ _ h)
   ·exact .inr ⟨o,e _ _ h⟩
  ·rcases z with z|z|z|z|z
   ·rw[z,fr.1]at ho;cases ho
   ·rw[z,fr.2.1]at ho;cases ho
   ·rw[z,fr.2.2.1]at ho;cases ho
   ·rw[z,fr.2.2.2.1]at ho;cases ho
   ·rw[z,fr.2.2.2.2]at ho;cases ho
 ·exact .inr fun H'=>.inr h
theorem Fps.next   {ad ad':AD}(n:¬ Fps a ad q)(o:AdOk H ad ad')(h:H q≠none):¬ Fps a ad' q:=by
 obtain⟨_,_,q3,q4,q5,q6⟩:=o
 rintro (z|z|z|z|z)
 ·exact n (.inl z)
 ·exact n (.inr (.inl (z.trans q3)))
 ·exact n (.inr (.inr (.inl (z.trans q4))))
 ·exact n (.inr (.inr (.inr (.inl (z.trans q5)))))
 ·rcases q6 with q6|q6
  ·exact n (.inr (.inr (.inr (.inr (z.trans q6)))))
  ·rw[z]at h;exact h q6
theorem Scr.next {K:PySem.W.Frag}    {ad ad':AD}(h:Scr K H q xs a ad)(f:Frm H H' a ad)(o:AdOk H ad ad'):Scr K H' q xs a ad':=by
 rcases h with ⟨h,n⟩|h
 ·exact .inl ⟨Rd.frm57 h n f,Fps.next n o (by rcases h with h|⟨o,h⟩<;>rw[h]<;>simp)⟩
 ·exact .inr h
theorem Scr.other {K:PySem.W.Frag}    {ad ad':AD}(h:Scr K H q xs a' ad')(g:Scr K H q xs a ad)(f:Frm H H' a ad):Scr K H' q xs a' ad':=by
 rcases h with ⟨h,n⟩|h
 ·rcases g with ⟨_,m⟩|g
  ·exact .inl ⟨Rd.frm57 h m f,n⟩
  ·exact .inr g
 ·exact .inr h
theorem SAt.fps {K:PySem.W.Frag}    {ad:AD}  {wv:V}(x:SAt K CS CA CB H p a ad s wv)  (h:Fps a ad y):H y≠none:=by
 obtain⟨_,gv,rv,zs,ys,us,X⟩:=x
 rcases h with rfl|rfl|rfl|rfl|rfl
 ·rw[X.ob];simp
 ·rw[X.bk.dc];simp
 ·rw[X.w];simp
 ·rw[X.e];simp
 ·rw[X.g];simp
theorem Dis.next {K:PySem.W.Frag}    {ad ad1 ad':AD}   (d:Dis a ad a' ad')(y:SAt K CS CA CB H p' a' ad' s' wv')(o:AdOk H ad ad1):Dis a ad1 a' ad':=fun z hz hz'=>Fps.next (fun w=>d z w hz') o (y.fps hz') hz
theorem Dis.symm  {ad ad':AD}(d:Dis a ad a' ad'):Dis a' ad' a ad:=fun y h g=>d y g h
theorem SAt.tk {K:PySem.W.Frag}    {ad:AD}  {wv:V}(x:SAt K CS CA CB H p a ad s wv)(f:Frm H H' a ad):TK H H':=by
 obtain⟨_,gv,rv,zs,ys,us,X⟩:=x
 exact X.tkF f
noncomputable def Zn (K:PySem.W.Frag)(CS CA CB:Addr):Sp:=fun vs H Q _=>∃(p a q:Addr) (ns:List Int) (L most n:Nat) (ad:AD) (s:AS) (wv:V) (x:Wish),vs=[.ref p,.ref q,.int L,.int n]/\SAt K CS CA CB H p a ad s wv/\Cg K H s.L wv x/\most=(if L > 3 then 1+(1+cell ns 1%4)%2 else 1+cell ns 1%4).toNat/\DRun ns L most n s x/\1<=L/\L<=6/\n<=60/\Scr K H q (ns.map V.int) a ad/\ns.length<=63/\∀H',Q (.bl true) H'
theorem TX   (F:Fun K "_law_goes_on" "_law_goes_on" DK f fd)(T:Txt mg)
  (W:Own K mg C_j7 C_j9 C_jj C_ja C_j1 C_j4)
  (Z:Exs K mg C_j8 C_j5 C_j6 C_j3 C_j2 C_j0)
   (FX:FnOk P w K mg base CX0 15 Er HE ["asker","script","letters","turn"] (TU K C_j4 C_j1 C_j7)) (Es:Fun K "_law_deed" "_law_deed" ET Er HE) (FY:Ap K HE ["asker","script","letters","turn"] []) (FZ:mg "_law_deed"=some (.ref Er))
   (Ff:FnOk P w K mg base CX0 16 CD FH ["script","letters","turns"] (Of K C_j4 C_j1 C_j7)) (DA:Fun K "_law_driven" "_law_driven" Dn CD FH) (Fg:Ap K FH ["script","letters","turns"] []) (Fh:mg "_law_driven"=some (.ref CD))
   (Ez:FnOk P w K mg base CX0 4 Fi IW ["asker"] (Xe K C_j4 C_j1 C_j7)) (Dk:Fun K "_law_all" "_law_all" F8 Fi IW) (EA:Ap K IW ["asker"] []) (EB:mg "_law_all"=some (.ref Fi))
  : FnOk P w K mg base CX0 17 f fd ["asker","script","letters","turns"] (Zn K C_j4 C_j1 C_j7):=by
 refine F.ok IE (fun vs H Q E h=>?_) (fun cdv A outer s H vs Q E hr h=>?_)
 ·obtain⟨p,a,q,ns,L,most,n,ad,s,wv,x,rfl,_⟩:=h;rfl
 ·obtain⟨p,a,q,ns,L,most,n,ad,s,wv,y,rfl,S,hw,hm,dr,l1,l6,hn,hkq,hz,k⟩:=h
  have hq:=hkq.kp.now
  have hl:=Ao
  refine⟨_,(Ad (AE (i:=4) IE.nd (Aj Ff (hr.mono (by decide)) rfl Fh DA.kp Fg .nil Ay (Aa (pvD 1) (Aa (pvD 2) (Aa (pvD 3) Af)))))
   (Ad (Hl PassesOwn.never rfl (DS_ rfl T.range (Aa (pvD 3) (Aa (Bu (opD0 FE) (pvD 3) Ai) Af))) (B4 (i:=5) IE.nd rfl (Or.inl rfl))
   (Ad (Cv (ptT (Az (JW_ 8 (hu9 hr)) (Aj Ez (hr.mono (by decide)) rfl EB Dk.kp EA .nil Ay (Aa (pvD 0) Af)) (Aj Ez (hr.mono (by decide)) rfl EB Dk.kp EA .nil Ay (Aa (pvD 4) Af)) (Bh _)))
   (Ac (As Jm))
   AR)
   (Ad (Ba (Aj FX (hr.mono (by decide)) rfl FZ Es.kp FY .nil Ay (Aa (pvD 0) (Aa (pvD 1) (Aa (pvD 2) (Aa (pvD 5) Af))))))
   (Ac (Ba (Aj FX (hr.mono (by decide)) rfl FZ Es.kp FY .nil Ay (Aa (pvD 4) (Aa (pvD 1) (Aa (pvD 2) (Aa (pvD 5) Af))))))))))
   (Ac (As (DZ_ (GX_ 8 (hu9 hr)) (Aj Ez (hr.mono (by decide)) rfl EB Dk.kp EA .nil Ay (Aa (pvD 0) Af)) (Aj Ez (hr.mono (by decide)) rfl EB Dk.kp EA .nil Ay (Aa (pvD 4) Af)) (Bh _)))))),?_⟩
  walk_at "rd"
  refine⟨q,ns,L,n,rfl,hq,hz,l1,l6,by lia,fun p2 a2 ad2 H1 most2 s2 x2 wv2 hm2 dr2 S2 hw2 hk1 hn1 fr=>?_⟩
  have em:most2=most:=hm2.trans hm.symm
  subst em
  obtain⟨rfl,rfl⟩:=dr.det dr2
  have e01:Same H H1:=hk1
  have r:=dr.ok l1 l6 (by rw[hm];have:=Int.emod_nonneg (cell ns 1) (show (4:Int)≠0 by decide);split<;>lia) (by rw[hm];have:=Int.emod_nonneg (cell ns 1) (show (4:Int)≠0 by decide);have:=Int.emod_lt_of_pos (cell ns 1) (show (0:Int)<4 by decide);split<;>lia) s!""
  have m1:1<=most2:=by rw[hm];have:=Int.emod_nonneg (cell ns 1) (show (4:Int)≠0 by decide);split<;>lia
  have m4:most2<=4:=by rw[hm];have:=Int.emod_nonneg (cell ns 1) (show (4:Int)≠0 by decide);have:=Int.emod_lt_of_pos (cell ns 1) (show (0:Int)<4 by decide);split<;>lia
  have hb:(most2+1)*(most2+L)<=5*10:=Nat.mul_le_mul s!"" s!""
  have d0:Dis a ad a2 ad2:=fun y h1 h2=>S.fps h1 (by rcases h2 with z|z|z|z|z;(rw[z];exact fr.2.1);(rw[z];exact fr.2.2.1);(rw[z];exact fr.2.2.2.1);(rw[z];exact fr.2.2.2.2.1);(rw[z];exact fr.2.2.2.2.2))
  walk_at "rd"
  refine⟨by lia,by lia,by lia,by lia,?_⟩
  rw[show ((n:Int)+6-n).toNat=6 by lia]
  obtain⟨Pv,hPv⟩:∃Pv:Nat->St->Hp->Prop,∀i σ' H',Pv i σ' H'↔(∃(d1 d2:AD) (s:AS) (x:Wish) (v1 v2:V) (o:Option V),DRun ns L most2 (n+i) s x/\SAt K C_j4 C_j1 C_j7 H' p a d1 s v1/\SAt K C_j4 C_j1 C_j7 H' p2 a2 d2 s v2/\Cg K H' s.L v1 x/\Cg K H' s.L v2 x/\Dis a d1 a2 d2/\Scr K H' q (ns.map V.int) a d1/\Scr K H' q (ns.map V.int) a2 d2/\σ'=[some (.ref p),some (.ref q),some (.int L),some (.int n),some (.ref p2),o]):=⟨_,fun _ _ _=>Iff.rfl⟩
  refine forR Pv ((hPv _ _ _).mpr ⟨ad,ad2,s,y,wv,wv2,none,dr,S.same e01,S2,hw.mono (TK.of e01),by rw[r.l];exact hw2,d0,hkq.next (Frm.of e01 a ad) (AdOk.refl H ad),Scr.of hq e01 fr.2,rfl⟩) (fun i σ' H' hi h'=>?_) (fun σ' H' h'=>?_)
  ·obtain⟨d1,d2,s,x,v1,v2,o,dr,A1,A2,w1,w2,d,c1,c2,rfl⟩:=(hPv _ _ _).mp h'
   have r:=dr.ok l1 l6 m1 s!"" s!""
   have bd:Bd 100 s:=by unfold Bd;rw[r.l,r.m];lia
   walk_at "rd"
   refine⟨p,a,d1,s,v1,x,rfl,A1,w1,fun q1 H3 s3 B1=>⟨p2,a2,d2,s,v2,x,rfl,A2.same s3,w2.mono (TK.of s3),fun q2 H4 s4 B2=>⟨_,rfl,_,rfl,_,Ve.eq57 (B1.mono s4) B2,?_⟩⟩⟩
   rw[if_neg (by simp)]
   have s34:=s3.trans s4
   have A1':=A1.same s34
   have A2':=A2.same s34
   have c1':=c1.next (Frm.of s34 a d1) (AdOk.refl H' d1)
   have c2':=c2.next (Frm.of s34 a2 d2) (AdOk.refl H' d2)
   refine⟨p,a,q,ns,L,most2,n+i,n+i,d1,s,v1,x,by push_cast;rfl,A1',w1.mono (TK.of s34),r,bd,by lia,by lia,l1,c1'.kp,hz,fun e1 H5 s5 x5 v5 st1 A5 w5 f5 o5=>?_⟩
   have A2'':=A1'.other A2' d f5
   have d5:=d.next A2' o5
   have tk5:=A1'.tk f5
   have c2'':=c2'.other c1' f5
   have c1'':=c1'.next f5 o5
   refine⟨p2,a2,q,ns,L,most2,n+i,n+i,d2,s,v2,x,by push_cast;rfl,A2'',(w2.mono (TK.of s34)).mono tk5,r,bd,by lia,by lia,l1,c2''.kp,hz,fun e2 H6 s6 x6 v6 st2 A6 w6 f6 o6=>?_⟩
   obtain⟨rfl,rfl⟩:=NG.det st1 st2
   have dr':DRun ns L most2 (n+i+1) s5 x5:=.succ dr st1
   have r':=dr'.ok l1 l6 m1 s!"" s!""
   refine (hPv _ _ _).mpr ⟨e1,e2,s5,x5,v5,v6,_,dr',A2''.other A5 d5.symm f6,A6,?_,?_,?_,c1''.other c2'' f6,c2''.next f6 o6,rfl⟩
   ·rw[r'.l,<-r.l];exact w5.mono (A2''.tk f6)
   ·rw[r'.l,<-r.l];exact w6
   ·exact (Dis.next d5.symm A5 o6).symm
  ·obtain⟨d1,d2,s,x,v1,v2,o,dr,A1,A2,w1,w2,d,c1,c2,rfl⟩:=(hPv _ _ _).mp h'
   walk_at "rd"
   exact⟨p,a,d1,s,v1,x,rfl,A1,w1,fun q1 H3 s3 B1=>⟨p2,a2,d2,s,v2,x,rfl,A2.same s3,w2.mono (TK.of s3),fun q2 H4 s4 B2=>⟨_,rfl,_,rfl,_,Ve.eq57 (B1.mono s4) B2,k _⟩⟩⟩
theorem W2.ofD {K:PySem.W.Frag}{a:Addr}{xs:List V}{m:Nat}{H:Hp}{Q:VK}(ha:H a=some (.tup xs))(q:∀p H',Same H H'->H' p=some (.tup (xs.drop m))->Q (.ref p) H'):W2 K (.ref a) (some (m:Int)) none H Q:=by
 refine⟨a,xs,rfl,ha,fun p H' s' h=>q p H' s' ?_⟩
 rw[h]
 unfold cutV
 rw[HT.sIx_nat,HT.sIx_none]
 congr 2
 rcases Nat.le_total m xs.length with h|h
 ·rw[Nat.min_eq_left h]
  exact List.take_of_length_le (by rw[List.length_drop];exact Nat.le_refl _)
 ·rw[Nat.min_eq_right h,List.drop_of_length_le h,List.drop_length,List.take_nil]
noncomputable def TY (K:PySem.W.Frag)(CS CA CB:Addr):Sp:=fun vs H Q _=>∃(p a q:Addr) (ns:List Int) (L:Nat) (odd:Int) (ad:AD) (s:AS) (wv:V) (mm ws:List (List Int)),vs=[.ref p,.ref q,.int L,.int odd]/\SAt K CS CA CB H p a ad s wv/\Cg K H s.L wv (.shown mm ws)/\WOk 100 s (.shown mm ws)/\Bd 100 s/\s.L=L/\1<=L/\s.es.length<=100/\SqL K H q (ns.map V.int)/\ns.length<=63/\¬ (0<=odd/\odd<=1000000000)/\∀H',Same H H'->Q (.bl true) H'
theorem Ng   (F:Fun K "_law_show_refuses" "_law_show_refuses" BS f fd)(T:Txt mg)
  (W:Own K mg C_j7 C_j9 C_jj C_ja C_j1 C_j4)
  (Z:Exs K mg C_j8 C_j5 C_j6 C_j3 C_j2 C_j0)
   (A7:FnOk P w K mg base CX0 2 Ar Bc ["self"] (LR K C_j4 C_j1 C_j7)) (Bz:Fun K "wants" "SayAsker.wants" By Ar Bc) (A8:Ap K Bc ["self"] []) (A9:Meth K C_j4 "wants" Ar)
   (Av:FnOk P w K mg base CX0 1 AJ AL ["script","k"] (Ma K)) (Aq:Fun K "_law_cell" "_law_cell" Cj AJ AL) (Aw:Ap K AL ["script","k"] []) (Ax:mg "_law_cell"=some (.ref AJ))
   (DB:FnOk P w K mg base CX0 15 DC GI ["asker","mark"] (JX K C_j4 C_j1 C_j7)) (Ct:Fun K "_law_hears" "_law_hears" D4 DC GI) (DD:Ap K GI ["asker","mark"] []) (DE:mg "_law_hears"=some (.ref DC))
   (AM:FnOk P w K mg base CX0 15 Co Fd ["asker","word","mark"] (Hz K C_j4 C_j1 C_j7)) (AB:Fun K "_law_differs" "_law_differs" CH Co Fd) (AN:Ap K Fd ["asker","word","mark"] []) (AO:mg "_law_differs"=some (.ref Co))
   (BP:FnOk P w K mg base CX0 3 AK B0 ["self"] (OS K C_j4 C_j1 C_j7)) (Cf:Fun K "heard" "SayAsker.heard" BK AK B0) (BQ:Ap K B0 ["self"] []) (BR:Meth K C_j4 "heard" AK)
   (G8:FnOk P w K mg base CX0 1 Ep HD ["house","word"] (Bp_ K)) (Fb:Fun K "_law_talk" "_law_talk" ER Ep HD) (G9:Ap K HD ["house","word"] []) (Ha:mg "_law_talk"=some (.ref Ep))
   (G1:FnOk P w K mg base CX0 2 Eo Hy ["script","at","letters","many"] (TN K)) (E9:Fun K "_law_word" "_law_word" ES Eo Hy) (G2:Ap K Hy ["script","at","letters","many"] []) (G3:mg "_law_word"=some (.ref Eo))
  : FnOk P w K mg base CX0 16 f fd ["asker","script","letters","odd"] (TY K C_j4 C_j1 C_j7):=by
 refine F.ok Cb (fun vs H Q E h=>?_) (fun cdv A outer s H vs Q E hr h=>?_)
 ·obtain⟨p,a,q,ns,L,odd,ad,s,wv,mm,ws,rfl,_⟩:=h;rfl
 ·obtain⟨p,a,q,ns,L,odd,ad,s,wv,mm,ws,rfl,S,hw,ok,bd,hL,l1,he,hq,hz,hodd,k⟩:=h
  have hl:=Ao
  have D:∀{H':Hp} {t:Addr} {w:List Int} {m:Int} {Q':VK} {E':XK},Same H H'->H' t=some (.tup (w.map V.int))->w.length<=600->((w=[]\/isW s.L w=false->QS H' Q' "word value")/\(w ≠ []->isW s.L w=true->¬ (0<=m/\m<=1000000000)->QS H' Q' "mark value")/\(w ≠ []->isW s.L w=true->0<=m->m<=1000000000->(lsay mm ws w=m->QS H' Q' "alike value")/\(lsay mm ws w≠m->w∈s.es.map (·.1)/\QS H' Q' "twice value")))->Hz K C_j4 C_j1 C_j7 [.ref p,.ref t,.int m] H' Q' E':=fun {H'} {t} {w} {m} {Q'} {E'} e ht hw6 hk=>⟨p,a,t,ad,s,wv,_,100,w,m,rfl,S.same e,hw.mono (TK.of e),ok,bd,by lia,ht,hw6,fun hx=>absurd rfl hx,fun mm' ws' e=>by cases e;exact hk⟩
  have Hh:∀{H':Hp} {m:Int} {Q':VK} {E':XK},Same H H'->QS H' Q' "turn value" -> JX K C_j4 C_j1 C_j7 [.ref p,.int m] H' Q' E':=fun {H'} {m} {Q'} {E'} e hk=>⟨p,a,ad,s,wv,_,100,m,rfl,S.same e,hw.mono (TK.of e),ok,bd,by lia,fun _=>hk,fun c hc=>by cases hc⟩
  have c0:=Int.emod_nonneg (cell ns 4) (show (6:Int)≠0 by decide)
  have c1:=Int.emod_lt_of_pos (cell ns 4) (show (0:Int)<6 by decide)
  obtain⟨n0,hn0⟩:∃n0:Nat,1+cell ns 4%6=(n0:Int):=⟨(1+cell ns 4%6).toNat,by lia⟩
  have c9:CPow 10 9:=⟨by lia,by lia,by decide⟩
  have hWl:=OZ ns 4 L n0
  have hWw:=Zh ns 4 n0 l1
  refine⟨_,(Ad (Cv (PW.pt (YC (ptT (Az (opN IZ) (Aj DB (hr.mono (by decide)) rfl DE Ct.kp DD .nil Ay (Aa (pvD 0) (Aa Ai Af))) Bn (Bh _))) (Rk (ptT (Az (opN IZ) (Aj DB (hr.mono (by decide)) rfl DE Ct.kp DD .nil Ay (Aa (pvD 0) (Aa (pvD 3) Af))) Bn (Bh _))))))
   (Ac (As Jm))
   AR)
   (Ad (Cv (PW.pt (YC (ptT (Az (opN IZ) (Aj AM (hr.mono (by decide)) rfl AO AB.kp AN .nil Ay (Aa (pvD 0) (Aa (GJ Af) (Aa (pvD 3) Af)))) Bn (Bh _))) (Rk (ptT (Az (opN IZ) (Aj AM (hr.mono (by decide)) rfl AO AB.kp AN .nil Ay (Aa (pvD 0) (Aa (GJ Af) (Aa Ai Af)))) Bn (Bh _))))))
   (Ac (As Jm))
   AR)
   (Ad (AE (i:=4) Cb.nd (Aj G1 (hr.mono (by decide)) rfl G3 E9.kp G2 .nil Ay (Aa (pvD 1) (Aa Ai (Aa (pvD 2) (Aa (Bu (opD0 FE) Ai (Bu (opD Fm) (Aj Av (hr.mono (by decide)) rfl Ax Aq.kp Aw .nil Ay (Aa (pvD 1) (Aa Ai Af))) Ai)) Af))))))
   (Ad (AE (i:=5) Cb.nd (Bu (opD Fm) (Aj Av (hr.mono (by decide)) rfl Ax Aq.kp Aw .nil Ay (Aa (pvD 1) (Aa Ai Af))) (Bu (opD0 FE) (C4 (lenD Dm) (by rfl) T.len PySem.boot_len (Aa (pvD 4) Af)) Ai)))
   (Ad (Hl PassesOwn.never rfl (Gq (Rm (Aa (pvD 2) (Aa (AI_ SK Ai) (Aa (Bu (opD0 FE) (Bu (opD0 FE) (pvD 2) Ai) (Bu (opD Fm) (Aj Av (hr.mono (by decide)) rfl Ax Aq.kp Aw .nil Ay (Aa (pvD 1) (Aa Ai Af))) (Bu (opD GO_) Ai Ai))) Af))))) (B4 (i:=6) Cb.nd rfl (Or.inl rfl))
   (Ad (AE (i:=7) Cb.nd (Bu J7 (Bu J7 (OB Bm_ (pvD 4) SR (SS (pvD 5))) (GJ (Aa (pvD 6) Af))) (OB Bm_ (pvD 4) (SS (pvD 5)) SR)))
   (Ac (Cv (PW.pt (YC (ptT (Az (opN IZ) (Aj AM (hr.mono (by decide)) rfl AO AB.kp AN .nil Ay (Aa (pvD 0) (Aa (pvD 7) (Aa (pvD 3) Af)))) Bn (Bh _))) (Rk (ptT (Az (opN IZ) (Aj AM (hr.mono (by decide)) rfl AO AB.kp AN .nil Ay (Aa (pvD 0) (Aa (pvD 7) (Aa Ai Af)))) Bn (Bh _))))))
   (Ac (As Jm))
   AR))))
   (Ad (Cv (ptT (Az (opN IZ) (Aj AM (hr.mono (by decide)) rfl AO AB.kp AN .nil Ay (Aa (pvD 0) (Aa (pvD 4) (Aa (pvD 3) Af)))) Bn (Bh _)))
   (Ac (As Jm))
   AR)
   (Ad (Cv (ptT (Az (opN IZ) (Aj AM (hr.mono (by decide)) rfl AO AB.kp AN .nil Ay (Aa (pvD 0) (Aa (pvD 4) (Aa (BG (ixLD Jn) (Aj G8 (hr.mono (by decide)) rfl Ha Fb.kp G9 .nil Ay (Aa (BG (ixTD CZ) (Bm (pvD 0) W.cl_j4 A9 A7 (hr.mono (by decide)) A8 .nil Ay) Ai) (Aa (pvD 4) Af))) (AI_ SK Ai)) Af)))) Bn (Bh _)))
   (Ac (As Jm))
   AR)
   (Ad (Hl PassesOwn.never rfl (Gq (Bm (pvD 0) W.cl_j4 BR BP (hr.mono (by decide)) BQ .nil Ay)) (B4 (i:=8) Cb.nd rfl (Or.inl rfl))
   (Ad (Cv (ptT (Az (opN IZ) (Aj AM (hr.mono (by decide)) rfl AO AB.kp AN .nil Ay (Aa (pvD 0) (Aa (BG (ixTD CZ) (pvD 8) Ai) (Aa (pvD 3) Af)))) Bn (Bh _)))
   (Ac (As Jm))
   AR)
   (Ad (Cv (ptT (Az (opN IZ) (Aj AM (hr.mono (by decide)) rfl AO AB.kp AN .nil Ay (Aa (pvD 0) (Aa (BG (ixTD CZ) (pvD 8) Ai) (Aa (BG (ixTD CZ) (pvD 8) Ai) Af)))) Bn (Bh _)))
   (Ac (As Jm))
   AR)
   (Ac (Cv (ptT (Az (opN IZ) (Aj AM (hr.mono (by decide)) rfl AO AB.kp AN .nil Ay (Aa (pvD 0) (Aa (BG (ixTD CZ) (pvD 8) Ai) (Aa (Bu (opD Fm) (Bu (opD0 FE) (BG (ixTD CZ) (pvD 8) Ai) Ai) Ai) Af)))) Bn (Bh _)))
   (Ac (As Jm))
   AR)))))
   (Ac (As Jm)))))))))),?_⟩
  walk_at "rd"
  refine Hh (Same.refl _) fun H1 s1=>⟨rfl,?_⟩
  rw[if_neg (by simp)]
  refine Hh s1 fun H2 s2'=>⟨rfl,?_⟩
  have s2:=s1.trans s2'
  rw[if_neg (by simp)]
  refine⟨by lia,fun t0 ht0=>D (w:=[]) (s2.newT ht0) Ae (by simp) ⟨fun _ H3 s3'=>⟨rfl,?_⟩,fun z=>absurd rfl z,fun z=>absurd rfl z⟩⟩
  have s3:=(s2.newT ht0).trans s3'
  rw[if_neg (by simp)]
  refine⟨by lia,fun t1 ht1=>D (w:=[]) (s3.newT ht1) Ae (by simp) ⟨fun _ H4 s4'=>⟨rfl,?_⟩,fun z=>absurd rfl z,fun z=>absurd rfl z⟩⟩
  have s4:=(s3.newT ht1).trans s4'
  rw[if_neg (by simp)]
  refine⟨q,ns,4,rfl,s4.seq hq,_,rfl,by decide,q,ns,4,L,n0,by rw[hn0];rfl,s4.seq hq,l1,by lia,fun tw H5 s5' htw=>?_⟩
  have s5:=s4.trans s5'
  generalize Qq ns 4 L n0=v at hWl hWw htw
  refine⟨q,ns,5,rfl,s5.seq hq,tw,rfl,_,.inr (SqT.of htw),_,rfl,by lia,q,ns,6,rfl,s5.seq hq,c9,_,rfl,by decide,by lia,fun tl htl=>⟨⟨_,SqL.of Ae⟩,?_⟩⟩
  rw[List.length_map]
  obtain⟨j,hj,hj2⟩:∃j:Nat,cell ns 5%((v.length:Int)+1)=(j:Int)/\j<=v.length:=⟨(cell ns 5%((v.length:Int)+1)).toNat,by have:=Int.emod_nonneg (cell ns 5) (show (v.length:Int)+1≠0 by lia);lia,by have:=Int.emod_nonneg (cell ns 5) (show (v.length:Int)+1≠0 by lia);have:=Int.emod_lt_of_pos (cell ns 5) (show 0<(v.length:Int)+1 by lia);lia⟩
  rw[hj]
  obtain⟨far,hfar⟩:∃far:Int,far=(L:Int)+1+cell ns 6%10 ^ Int.toNat 9:=⟨_,rfl⟩
  have hfar0:(L:Int)<=far:=by have:=Int.emod_nonneg (cell ns 6) (show (10:Int) ^ Int.toNat 9≠0 by decide);lia
  rw[<-hfar]
  have s6:=s5.newT htl (o:=.lst [V.int L,V.int (-1),V.int far])
  obtain⟨Pv,hPv⟩:∃Pv:Nat->St->Hp->Prop,∀i σ' H',Pv i σ' H'↔(∃o6 o7:Option V,Same (upd H5 tl (.lst [V.int L,V.int (-1),V.int far])) H'/\σ'=[some (.ref p),some (.ref q),some (.int L),some (.int odd),some (.ref tw),some (.int j),o6,o7,none]):=⟨_,fun _ _ _=>Iff.rfl⟩
  refine forL (xs:=[V.int L,V.int (-1),V.int far]) Pv ((hPv _ _ _).mpr ⟨none,none,Same.refl _,rfl⟩) (fun i σ2 H' _ h2=>by obtain⟨_,_,s',_⟩:=(hPv _ _ _).mp h2;exact s'.seq (SqL.of Ae)) (fun i x σ2 H' hx h2=>?_) (fun σ2 H' h2=>?_)
  ·obtain⟨o6,o7,s7',rfl⟩:=(hPv _ _ _).mp h2
   obtain⟨b,rfl,hb⟩:∃b:Int,x=.int b/\¬ (0<=b/\b<L):=by
    match i with
    |0=>simp at hx;exact⟨_,hx.symm,by lia⟩
    |1=>simp at hx;exact⟨_,hx.symm,by lia⟩
    |2=>simp at hx;exact⟨_,hx.symm,by lia⟩
    |i+3=>simp at hx
   have s7:=s6.trans s7'
   have htw7:=((Same.new htl).trans s7') _ _ htw
   walk_at "rd"
   refine W2.of htw7 fun z1 H8 s8 hz1=>⟨by lia,fun z2 hz2=>?_⟩
   rw[<-List.map_take]at hz1
   have s9:=Same.new hz2 (o:=.tup [V.int b])
   refine Kt.ofS (s9 _ _ hz1) Ae (by simp;lia) fun z3 H10 s10 hz3=>?_
   refine W2.ofD ((s8.trans (s9.trans s10)) _ _ htw7) fun z4 H11 s11 hz4=>?_
   rw[<-List.map_drop]at hz4
   refine Kt.ofS (s11 _ _ hz3) hz4 (by simp;lia) fun z5 H12 s12 hz5=>?_
   have e:(v.take j).map V.int++[V.int b]++(v.drop j).map V.int=(v.take j++[b]++v.drop j).map V.int:=by simp
   rw[e]at hz5
   have hbad:isW s.L (v.take j++[b]++v.drop j)=false:=by
    cases hh:isW s.L (v.take j++[b]++v.drop j) with
    |false=>rfl
    |true=>
     have:=Ci.mp hh b (by simp)
     rw[hL]at this
     exact absurd this hb
   have s8_12:=s8.trans (s9.trans (s10.trans (s11.trans s12)))
   have sA:=s7.trans s8_12
   refine D sA hz5 (by simp;lia) ⟨fun _ H13 s13=>⟨rfl,?_⟩,fun _ z=>absurd z (by rw[hbad];simp),fun _ z=>absurd z (by rw[hbad];simp)⟩
   rw[if_neg (by simp)]
   refine D (sA.trans s13) (s13 _ _ hz5) (by simp;lia) ⟨fun _ H14 s14=>⟨rfl,?_⟩,fun _ z=>absurd z (by rw[hbad];simp),fun _ z=>absurd z (by rw[hbad];simp)⟩
   rw[if_neg (by simp)]
   exact (hPv _ _ _).mpr ⟨_,_,s7'.trans (s8_12.trans (s13.trans s14)),rfl⟩
  ·obtain⟨o6,o7,s7',rfl⟩:=(hPv _ _ _).mp h2
   have s7:=s6.trans s7'
   have htw7:=((Same.new htl).trans s7') _ _ htw
   have hvn:v ≠ []:=fun z=>by rw[z]at hWl;simp at hWl;lia
   have hvW:isW s.L v=true:=by rw[hL];exact hWw
   walk_at "rd"
   refine D s7 htw7 s!"" ⟨fun z=>?_,fun _ _ _ H8 s8=>⟨rfl,?_⟩,fun _ _ h0 h9=>absurd ⟨h0,h9⟩ hodd⟩
   ·rcases z with z|z
    ·exact absurd z hvn
    ·rw[hvW]at z;cases z
   rw[if_neg (by simp)]
   obtain⟨t,u,hwv,ht,hu⟩:=id hw
   obtain⟨⟨dx,L',hp⟩,_⟩:=id S
   obtain⟨ok0,hG,hwr,hgs,gu,hall⟩:=id ok
   have wf:=ok0.tb.wf gu
   have sz:=ok0.sz bd
   have lr:=Zk ok0 gu hvW hvn
   have s78:=s7.trans s8
   have hv0:¬ (v=[]\/isW s.L v=false):=fun z=>by
    rcases z with z|z
    ·exact hvn z
    ·rw[hvW]at z;cases z
   refine⟨_,_,s78 _ _ hp,by kernel_rfl,p,a,ad,s,wv,rfl,S.same s78,t,hwv,_,SqT.of (s78 _ _ ht),_,rfl,u,tw,s.L,mm,ws,v,rfl,(HouT.house hu).mono s78,wf,SqT.of (s8 _ _ htw7),by lia,hvW,fun pl H9 s9 hpl=>⟨pl,rfl,_,SqL.of hpl,_,HN_ hvn,?_⟩⟩
   have s9':=s78.trans s9
   refine D s9' (s9 _ _ (s8 _ _ htw7)) s!"" ⟨fun z=>absurd z hv0,fun _ _ hm=>absurd lr hm,fun _ _ _ _=>⟨fun _ H10 s10=>⟨rfl,?_⟩,fun z=>absurd rfl z⟩⟩
   rw[if_neg (by simp)]
   have s10':=s9'.trans s10
   refine⟨_,_,s10' _ _ hp,by kernel_rfl,p,a,ad,s,wv,rfl,S.same s10',fun lh rs H11 s11 hlN hlh htr=>⟨lh,rfl,⟨_,SqL.of hlh⟩,?_⟩⟩
   have s11':=s10'.trans s11
   obtain⟨Pw,hPw⟩:∃Pv:Nat->St->Hp->Prop,∀i σ' H',Pv i σ' H'↔(∃o:Option V,Same H11 H'/\σ'=[some (.ref p),some (.ref q),some (.int L),some (.int odd),some (.ref tw),some (.int j),o6,o7,o]):=⟨_,fun _ _ _=>Iff.rfl⟩
   refine forL (xs:=rs) Pw ((hPw _ _ _).mpr ⟨none,Same.refl _,rfl⟩) (fun i σ2 H' _ h2=>by obtain⟨_,s',_⟩:=(hPw _ _ _).mp h2;exact s'.seq (SqL.of hlh)) (fun i x σ2 H' hx h2=>?_) (fun σ2 H' h2=>?_)
   ·obtain⟨o8,s12,rfl⟩:=(hPw _ _ _).mp h2
    have hi:i<s.es.length:=by rw[<-htr.1];exact (List.getElem?_eq_some_iff.mp hx).1
    have hei:s.es[i]?=some s.es[i]:=by simp[hi]
    obtain⟨t8,wt,e1,e2,e3⟩:=htr.2 i _ hei
    rw[hx]at e1
    cases e1
    have hem:=List.mem_of_getElem? hei
    have hbw:=ok0.tb.bW _ hem
    have hbn:=ok0.ne _ hem
    have hbl:=sz.b _ hem
    have hbs:=hall _ hem
    generalize s.es[i]=e at hei e2 e3 hem hbw hbn hbl hbs
    have hb0:¬ (e.1=[]\/isW s.L e.1=false):=fun z=>by
     rcases z with z|z
     ·exact hbn z
     ·rw[hbw.1]at z;cases z
    have s12':=s11'.trans s12
    have f2:=s12 _ _ e2
    have f3:=s12 _ _ e3
    walk_at "rd"
    refine⟨_,SqT.of f2,_,rfl,D s12' f3 hbl ⟨fun z=>absurd z hb0,fun _ _ _ H13 s13=>⟨rfl,?_⟩,fun _ _ h0 h9=>absurd ⟨h0,h9⟩ hodd⟩⟩
    rw[if_neg (by simp)]
    refine⟨_,SqT.of (s13 _ _ f2),_,rfl,_,SqT.of (s13 _ _ f2),_,rfl,D (s12'.trans s13) (s13 _ _ f3) hbl ⟨fun z=>absurd z hb0,fun _ _ hm=>absurd hbw.2 hm,fun _ _ _ _=>⟨fun _ H14 s14=>⟨rfl,?_⟩,fun z=>absurd hbs z⟩⟩⟩
    rw[if_neg (by simp)]
    have s134:=s13.trans s14
    have hne:lsay mm ws e.1≠(e.2+1)%1000000001:=by rw[hbs];lia
    refine⟨_,SqT.of (s134 _ _ f2),_,rfl,_,SqT.of (s134 _ _ f2),_,rfl,_,rfl,by decide,D (s12'.trans s134) (s134 _ _ f3) hbl ⟨fun z=>absurd z hb0,fun _ _ hm=>?_,fun _ _ _ _=>⟨fun z=>absurd z hne,fun _=>⟨List.mem_map.mpr ⟨_,hem,rfl⟩,fun H15 s15=>⟨rfl,?_⟩⟩⟩⟩⟩
    ·lia
    ·rw[if_neg (by simp)]
     exact (hPw _ _ _).mpr ⟨_,s12.trans (s134.trans s15),rfl⟩
   ·obtain⟨o8,s12,rfl⟩:=(hPw _ _ _).mp h2
    walk_at "rd"
    exact k _ (s11'.trans s12)
noncomputable def Gw_ (K:PySem.W.Frag):Sp:=fun vs H Q _=>∃(a:Addr) (ns:List Int),vs=[.ref a]/\SqL K H a (ns.map V.int)/\ns.length<=63/\∀H',Q (.bl true) H'
theorem Kv_   (F:Fun K "law" "law" WQ f fd)(T:Txt mg)
  (W:Own K mg C_j7 C_j9 C_jj C_ja C_j1 C_j4)
  (Z:Exs K mg C_j8 C_j5 C_j6 C_j3 C_j2 C_j0)
   (A7:FnOk P w K mg base CX0 2 Ar Bc ["self"] (LR K C_j4 C_j1 C_j7)) (Bz:Fun K "wants" "SayAsker.wants" By Ar Bc) (A8:Ap K Bc ["self"] []) (A9:Meth K C_j4 "wants" Ar)
   (Av:FnOk P w K mg base CX0 1 AJ AL ["script","k"] (Ma K)) (Aq:Fun K "_law_cell" "_law_cell" Cj AJ AL) (Aw:Ap K AL ["script","k"] []) (Ax:mg "_law_cell"=some (.ref AJ))
   (DB:FnOk P w K mg base CX0 15 DC GI ["asker","mark"] (JX K C_j4 C_j1 C_j7)) (Ct:Fun K "_law_hears" "_law_hears" D4 DC GI) (DD:Ap K GI ["asker","mark"] []) (DE:mg "_law_hears"=some (.ref DC))
   (Ig:FnOk P w K mg base CX0 4 Fj NH ["asker"] (Ob K C_j4 C_j1 C_j7)) (Fl:Fun K "_law_agrees" "_law_agrees" Ei Fj NH) (Ih:Ap K NH ["asker"] []) (Ii:mg "_law_agrees"=some (.ref Fj))
   (AM:FnOk P w K mg base CX0 15 Co Fd ["asker","word","mark"] (Hz K C_j4 C_j1 C_j7)) (AB:Fun K "_law_differs" "_law_differs" CH Co Fd) (AN:Ap K Fd ["asker","word","mark"] []) (AO:mg "_law_differs"=some (.ref Co))
   (Ff:FnOk P w K mg base CX0 16 CD FH ["script","letters","turns"] (Of K C_j4 C_j1 C_j7)) (DA:Fun K "_law_driven" "_law_driven" Dn CD FH) (Fg:Ap K FH ["script","letters","turns"] []) (Fh:mg "_law_driven"=some (.ref CD))
   (Ez:FnOk P w K mg base CX0 4 Fi IW ["asker"] (Xe K C_j4 C_j1 C_j7)) (Dk:Fun K "_law_all" "_law_all" F8 Fi IW) (EA:Ap K IW ["asker"] []) (EB:mg "_law_all"=some (.ref Fi))
   (JE:FnOk P w K mg base CX0 17 EC Mb ["asker","script","letters","turns"] (Zn K C_j4 C_j1 C_j7)) (FJ:Fun K "_law_goes_on" "_law_goes_on" DK EC Mb) (JF:Ap K Mb ["asker","script","letters","turns"] []) (JG:mg "_law_goes_on"=some (.ref EC))
   (F0:FnOk P w K mg base CX0 16 Cm HW ["asker","script","letters","odd"] (TY K C_j4 C_j1 C_j7)) (C3:Fun K "_law_show_refuses" "_law_show_refuses" BS Cm HW) (F1:Ap K HW ["asker","script","letters","odd"] []) (F2:mg "_law_show_refuses"=some (.ref Cm))
  : FnOk P w K mg base CX0 18 f fd ["script"] (Gw_ K):=by
 refine F.ok Rq (fun vs H Q E h=>?_) (fun cdv A outer s H vs Q E hr h=>?_)
 ·obtain⟨a,ns,rfl,_⟩:=h;rfl
 ·obtain⟨q,ns,rfl,hq,hz,k⟩:=h
  have hl:=Ao
  have a0:=Int.emod_nonneg (cell ns 0) (show (3:Int)≠0 by decide)
  have a1:=Int.emod_lt_of_pos (cell ns 0) (show (0:Int)<3 by decide)
  obtain⟨L,hL,l1,l6⟩:∃L:Nat,1+cell ns 0%3+cell ns 0 / 3%4 / 3*3=(L:Int)/\1<=L/\L<=6:=⟨(1+cell ns 0%3+cell ns 0 / 3%4 / 3*3).toNat,by lia,by lia,by lia⟩
  obtain⟨n,hn,hn6⟩:∃n:Nat,cell ns 2%61=(n:Int)/\n<=60:=⟨(cell ns 2%61).toNat,by lia,by lia⟩
  have c9:CPow 10 9:=⟨by lia,by lia,by decide⟩
  refine⟨_,(Ad (AE (i:=1) Rq.nd (Bu (opD0 FE) (Bu (opD0 FE) Ai (Bu (opD Fm) (Aj Av (hr.mono (by decide)) rfl Ax Aq.kp Aw .nil Ay (Aa (pvD 0) (Aa Ai Af))) Ai)) (Bu (opD YE) (Bu (opD PV) (Bu (opD Fm) (Bu (opD PV) (Aj Av (hr.mono (by decide)) rfl Ax Aq.kp Aw .nil Ay (Aa (pvD 0) (Aa Ai Af))) Ai) Ai) Ai) Ai)))
   (Ad (AE (i:=2) Rq.nd (Bu (opD Fm) (Aj Av (hr.mono (by decide)) rfl Ax Aq.kp Aw .nil Ay (Aa (pvD 0) (Aa Ai Af))) Ai))
   (Ad (AE (i:=3) Rq.nd (Aj Ff (hr.mono (by decide)) rfl Fh DA.kp Fg .nil Ay (Aa (pvD 0) (Aa (pvD 1) (Aa (pvD 2) Af)))))
   (Ad (Cv (ptB (Nz (C4 Iv rfl T.isinstance PyProof.Rows.boot_isinstance (Aa (pvD 3) (Aa (Lh (v:=.ref C_ja) rfl W.m_ja rfl) Af)))))
   (Ac (As Jm))
   AR)
   (Ad (AE (i:=4) Rq.nd (Bm (pvD 3) W.cl_j4 A9 A7 (hr.mono (by decide)) A8 .nil Ay))
   (Ad (AE (i:=5) Rq.nd (Aj Ez (hr.mono (by decide)) rfl EB Dk.kp EA .nil Ay (Aa (pvD 3) Af)))
   (Ad (AE (i:=6) Rq.nd (Bu (opD Fm) (Aj Av (hr.mono (by decide)) rfl Ax Aq.kp Aw .nil Ay (Aa (pvD 0) (Aa Ai Af))) (Bu (opD GO_) Ai Ai)))
   (Ad (AE (i:=7) Rq.nd (BG (ixLD Jn) (Rm (Aa (AI_ SK Ai) (Aa Ai (Aa (Bu (opD0 FE) Ai (pvD 6)) (Aa (Bu (opD0 DV_) (AI_ SK Ai) (pvD 6)) Af))))) (Bu (opD Fm) (Aj Av (hr.mono (by decide)) rfl Ax Aq.kp Aw .nil Ay (Aa (pvD 0) (Aa Ai Af))) Ai)))
   (Iw (Cv (ptT (Az (opE NS) (BG (ixTD CZ) (pvD 4) Ai) Bn (Bh _)))
   (Ad (Cv (PW.pt (YC (ptT (Az (opN IZ) (Aj Ig (hr.mono (by decide)) rfl Ii Fl.kp Ih .nil Ay (Aa (pvD 3) Af)) Bn (Bh _))) (Rk (ptT (Az (opN IZ) (Aj DB (hr.mono (by decide)) rfl DE Ct.kp DD .nil Ay (Aa (pvD 3) (Aa (pvD 7) Af))) Bn (Bh _))))))
   (Ac (As Jm))
   AR)
   (Ac (Cv (PW.pt (YC (ptT (Az (opN IZ) (Aj AM (hr.mono (by decide)) rfl AO AB.kp AN .nil Ay (Aa (pvD 3) (Aa (GJ (Aa (pvD 1) Af)) (Aa (pvD 7) Af)))) Bn (Bh _))) (Rk (ptT (Az (opN IZ) (Aj AM (hr.mono (by decide)) rfl AO AB.kp AN .nil Ay (Aa (pvD 3) (Aa (GJ Af) (Aa Ai Af)))) Bn (Bh _))))))
   (Ac (As Jm))
   AR)))
   (Ac (Cv (ptT (Az (opE NS) (BG (ixTD CZ) (pvD 4) Ai) Bn (Bh _)))
   (Ac (Cv (DO_ (ptB (Nz (Aj F0 (hr.mono (by decide)) rfl F2 C3.kp F1 .nil Ay (Aa (pvD 3) (Aa (pvD 0) (Aa (pvD 1) (Aa (pvD 7) Af))))))))
   (Ac (As Jm))
   AR))
   (Ac (Cv (PW.pt (YC (ptT (Az (opE NS) (BG (ixTD CZ) (pvD 4) Ai) Bn (Bh _))) (Rk (ptT (Az (opE NS) (BG (ixTD CZ) (pvD 4) Ai) Bn (Bh _))))))
   (Ad (Cv (PW.pt (YC (ptT (Az (opN IZ) (Aj Ig (hr.mono (by decide)) rfl Ii Fl.kp Ih .nil Ay (Aa (pvD 3) Af)) Bn (Bh _))) (Rk (ptT (Az (opN IZ) (Aj DB (hr.mono (by decide)) rfl DE Ct.kp DD .nil Ay (Aa (pvD 3) (Aa Ai Af))) Bn (Bh _))))))
   (Ac (As Jm))
   AR)
   (Ac (Cv (PW.pt (YC (ptT (Az (opN IZ) (Aj DB (hr.mono (by decide)) rfl DE Ct.kp DD .nil Ay (Aa (pvD 3) (Aa (pvD 7) Af))) Bn (Bh _))) (Rk (ptT (Az (opN IZ) (Aj AM (hr.mono (by decide)) rfl AO AB.kp AN .nil Ay (Aa (pvD 3) (Aa (GJ (Aa Ai Af)) (Aa Ai Af)))) Bn (Bh _))))))
   (Ac (As Jm))
   AR)))
   (Ac (As Jm)))))))
   (Ac (As (Jg_ (DZ_ (GX_ 8 (hu9 hr)) (Aj Ez (hr.mono (by decide)) rfl EB Dk.kp EA .nil Ay (Aa (pvD 3) Af)) (pvD 5) (Bh _)) (Jf_ (Aj JE (hr.mono (by decide)) rfl JG FJ.kp JF .nil Ay (Aa (pvD 3) (Aa (pvD 0) (Aa (pvD 1) (Aa (pvD 2) Af)))))))))))))))))),?_⟩
  walk_at "rd"
  refine⟨q,ns,0,rfl,hq,_,rfl,by decide,q,ns,0,rfl,hq,_,rfl,⟨by decide,by decide⟩,by decide,⟨by decide,by decide⟩,.inr ⟨by decide,by decide⟩,q,ns,2,rfl,hq,_,rfl,by decide,q,ns,L,n,by rw[hL,hn],hq,hz,l1,l6,by lia,fun p a ad H1 most s x wv hm dr S hw hk1 hn1 fr=>?_⟩
  have e01:Same H H1:=hk1
  have b0:=Int.emod_nonneg (cell ns 1) (show (4:Int)≠0 by decide)
  have b1:=Int.emod_lt_of_pos (cell ns 1) (show (0:Int)<4 by decide)
  have m1:1<=most:=by rw[hm];split<;>lia
  have m4:most<=4:=by rw[hm];split<;>lia
  have hb:(most+1)*(most+L)<=5*10:=Nat.mul_le_mul s!"" s!""
  have r:=dr.ok l1 l6 m1 s!"" s!""
  have bd:Bd 100 s:=by unfold Bd;rw[r.l,r.m];lia
  have hre:=r.e
  have hw:Cg K H1 s.L wv x:=by rw[r.l];exact hw
  obtain⟨⟨dx,L',hp⟩,_⟩:=id S
  refine⟨_,_,.ins hp W.cl_j4 W.ka_SayAsker Z.c_j3.gs Z.c_j3.tk W.ko_SayAsker,PY,false,W.kk_SayAsker_Asker,?_⟩
  rw[if_neg (by simp)]
  refine⟨p,rfl,_,_,hp,by kernel_rfl,p,a,ad,s,wv,rfl,S,p,a,ad,s,wv,x,rfl,S,hw,fun lA H2 s2 A2=>?_⟩
  refine⟨q,ns,6,rfl,(e01.trans s2).seq hq,c9,_,rfl,by decide,by lia,fun lo hlo=>?_⟩
  obtain⟨far,hfar⟩:∃far:Int,far=cell ns 6%10 ^ Int.toNat 9:=⟨_,rfl⟩
  have hfar0:0<=far:=by rw[hfar];exact Int.emod_nonneg _ (by decide)
  rw[<-hfar]
  have s3:=s2.newT hlo (o:=.lst [V.int (-1),V.int 1000000001,V.int (1000000001+far),V.int (-2-far)])
  have A3:=A2.mono (Same.new hlo (o:=.lst [V.int (-1),V.int 1000000001,V.int (1000000001+far),V.int (-2-far)]))
  obtain⟨odd,ho,hodd⟩:∃odd:Int,atI [V.int (-1),V.int 1000000001,V.int (1000000001+far),V.int (-2-far)] (cell ns 7%4)=some (V.int odd)/\¬ (0<=odd/\odd<=1000000000):=by
   have d0:=Int.emod_nonneg (cell ns 7) (show (4:Int)≠0 by decide)
   have d1:=Int.emod_lt_of_pos (cell ns 7) (show (0:Int)<4 by decide)
   have d2:cell ns 7%4=0\/cell ns 7%4=1\/cell ns 7%4=2\/cell ns 7%4=3:=by lia
   rcases d2 with d|d|d|d<;>rw[d]
   ·exact⟨_,rfl,by lia⟩
   ·exact⟨_,rfl,by lia⟩
   ·exact⟨_,rfl,by lia⟩
   ·exact⟨_,rfl,by lia⟩
  refine⟨q,ns,7,rfl,(e01.trans s3).seq hq,_,rfl,by decide,_,SqL.of Ae,_,ho,?_⟩
  generalize upd H2 lo (.lst [V.int (-1),V.int 1000000001,V.int (1000000001+far),V.int (-2-far)])=H3 at s3 A3
  rw[hL,hn]
  have S3:=S.same s3
  have w3:=hw.mono (TK.of s3)
  refine⟨fun σ' H'=>σ'=[some (.ref q),some (.int L),some (.int n),some (.ref p),some wv,some (.ref lA),some (.int far),some (.int odd)]/\Same H3 H',?_,fun σ' H' hh=>?_⟩
  ·have Ag:∀{H':Hp} {Q':VK} {E':XK},Same H3 H'->x.tag ≠ "show" -> QS H' Q' "turn value" -> Ob K C_j4 C_j1 C_j7 [.ref p] H' Q' E':=fun {H'} {Q'} {E'} e htg hk=>⟨p,a,ad,s,wv,x,rfl,S3.same e,w3.mono (TK.of e),htg,hk⟩
   have Ht:∀{H':Hp} {m:Int} {Q':VK} {E':XK},Same H3 H'->x.tag ≠ "ask" -> QS H' Q' "turn value" -> JX K C_j4 C_j1 C_j7 [.ref p,.int m] H' Q' E':=fun {H'} {m} {Q'} {E'} e htg hk=>⟨p,a,ad,s,wv,x,100,m,rfl,S3.same e,w3.mono (TK.of e),r.ok,bd,by lia,fun _=>hk,fun c hc=>absurd (by rw[hc];rfl) htg⟩
   have Dt:∀{H':Hp} {t:Addr} {w:List Int} {m:Int} {Q':VK} {E':XK},Same H3 H'->H' t=some (.tup (w.map V.int))->w.length<=600->x.tag ≠ "show" -> QS H' Q' "turn value" -> Hz K C_j4 C_j1 C_j7 [.ref p,.ref t,.int m] H' Q' E':=fun {H'} {t} {w} {m} {Q'} {E'} e ht hw6 htg hk=>⟨p,a,t,ad,s,wv,x,100,w,m,rfl,S3.same e,w3.mono (TK.of e),r.ok,bd,by lia,ht,hw6,fun _=>hk,fun mm ws hx=>absurd (by rw[hx];rfl) htg⟩
   obtain⟨t,u,hwv,ht,hu⟩:=id w3
   rw[hwv]
   cases hx:x with
   |ask c=>
    rw[hx]at ht
    have ht:H3 t=some (.tup [.str ("ask" : Str),.ref u]):=ht
    have n1:x.tag ≠ "show" := by rw[hx];exact (by decide +kernel:¬ ("ask" : Str) = "show")
    walk_at "rd"
    refine⟨_,SqT.of ht,_,rfl,rfl,?_⟩
    rw[if_pos rfl]
    refine Ag (Same.refl _) n1 fun H4 s4=>⟨rfl,?_⟩
    rw[if_neg (by simp)]
    refine⟨p,a,ad,s,wv,x,100,odd,rfl,S3.same s4,w3.mono (TK.of s4),r.ok,bd,by lia,fun z=>absurd (by rw[hx];rfl) z,fun c hc=>⟨hodd,fun H5 s5'=>⟨rfl,?_⟩⟩⟩
    have s5:=s4.trans s5'
    rw[if_neg (by simp)]
    refine⟨by lia,fun t1 ht1=>Dt (w:=[(L:Int)]) (s5.newT ht1) Ae (by simp) n1 fun H6 s6'=>⟨rfl,?_⟩⟩
    have s6:=(s5.newT ht1).trans s6'
    rw[if_neg (by simp)]
    refine⟨by lia,fun t2 ht2=>Dt (w:=[]) (s6.newT ht2) Ae (by simp) n1 fun H7 s7'=>⟨rfl,?_⟩⟩
    rw[if_neg (by simp)]
    first|exact⟨rfl,(s6.newT ht2).trans s7'⟩|exact (s6.newT ht2).trans s7'
   |shown mm ws=>
    rw[hx]at ht
    have ht:H3 t=some (.tup [.str ("show" : Str),.ref u]):=ht
    have ok:=r.ok
    rw[hx]at ok
    have w3':=w3
    rw[hx]at w3'
    walk_at "rd"
    refine⟨_,SqT.of ht,_,rfl,rfl,?_⟩
    rw[if_neg (fun z=>absurd (V.str.inj z) (by decide +kernel))]
    refine⟨_,SqT.of ht,_,rfl,rfl,?_⟩
    rw[if_pos rfl]
    refine⟨p,a,q,ns,L,odd,ad,s,wv,mm,ws,rfl,S3,w3',ok,bd,r.l,l1,by lia,(e01.trans s3).seq hq,hz,hodd,fun H4 s4=>⟨true,rfl,?_⟩⟩
    rw[if_neg (by simp)]
    first|exact⟨rfl,s4⟩|exact s4
   |done mm ws=>
    rw[hx]at ht
    have ht:H3 t=some (.tup [.str ("done" : Str),.ref u]):=ht
    walk_at "rd"
    refine⟨_,SqT.of ht,_,rfl,rfl,?_⟩
    rw[if_neg (fun z=>absurd (V.str.inj z) (by decide +kernel))]
    refine⟨_,SqT.of ht,_,rfl,rfl,?_⟩
    rw[if_neg (fun z=>absurd (V.str.inj z) (by decide +kernel))]
    refine⟨_,SqT.of ht,_,rfl,rfl,?_⟩
    rw[if_pos rfl]
    have n1:x.tag ≠ "show" := by rw[hx];exact (by decide +kernel:¬ ("done" : Str) = "show")
    have n2:x.tag ≠ "ask" := by rw[hx];exact (by decide +kernel:¬ ("done" : Str) = "ask")
    refine Ag (Same.refl _) n1 fun H4 s4=>⟨rfl,?_⟩
    rw[if_neg (by simp)]
    refine Ht s4 n2 fun H5 s5'=>⟨rfl,?_⟩
    have s5:=s4.trans s5'
    rw[if_neg (by simp)]
    refine Ht s5 n2 fun H6 s6'=>⟨rfl,?_⟩
    have s6:=s5.trans s6'
    rw[if_neg (by simp)]
    refine⟨by lia,fun t1 ht1=>Dt (w:=[0]) (s6.newT ht1) Ae (by simp) n1 fun H7 s7'=>⟨rfl,?_⟩⟩
    rw[if_neg (by simp)]
    first|exact⟨rfl,(s6.newT ht1).trans s7'⟩|exact (s6.newT ht1).trans s7'
   |spent c=>
    rw[hx]at ht
    have ht:H3 t=some (.tup [.str ("spent" : Str),.ref u]):=ht
    walk_at "rd"
    refine⟨_,SqT.of ht,_,rfl,rfl,?_⟩
    rw[if_neg (fun z=>absurd (V.str.inj z) (by decide +kernel))]
    refine⟨_,SqT.of ht,_,rfl,rfl,?_⟩
    rw[if_neg (fun z=>absurd (V.str.inj z) (by decide +kernel))]
    refine⟨_,SqT.of ht,_,rfl,rfl,?_⟩
    rw[if_neg (fun z=>absurd (V.str.inj z) (by decide +kernel))]
    refine⟨_,SqT.of ht,_,rfl,rfl,?_⟩
    rw[if_pos rfl]
    have n1:x.tag ≠ "show" := by rw[hx];exact (by decide +kernel:¬ ("spent" : Str) = "show")
    have n2:x.tag ≠ "ask" := by rw[hx];exact (by decide +kernel:¬ ("spent" : Str) = "ask")
    refine Ag (Same.refl _) n1 fun H4 s4=>⟨rfl,?_⟩
    rw[if_neg (by simp)]
    refine Ht s4 n2 fun H5 s5'=>⟨rfl,?_⟩
    have s5:=s4.trans s5'
    rw[if_neg (by simp)]
    refine Ht s5 n2 fun H6 s6'=>⟨rfl,?_⟩
    have s6:=s5.trans s6'
    rw[if_neg (by simp)]
    refine⟨by lia,fun t1 ht1=>Dt (w:=[0]) (s6.newT ht1) Ae (by simp) n1 fun H7 s7'=>⟨rfl,?_⟩⟩
    rw[if_neg (by simp)]
    first|exact⟨rfl,(s6.newT ht1).trans s7'⟩|exact (s6.newT ht1).trans s7'
  ·obtain⟨rfl,s4⟩:=hh
   have S4:=S3.same s4
   have w4:=w3.mono (TK.of s4)
   have e04:=e01.trans (s3.trans s4)
   walk_at "rd"
   refine⟨p,a,ad,s,wv,x,rfl,S4,w4,fun lB H5 s5 B5=>⟨_,rfl,_,Ve.eq57 B5 (A3.mono (s4.trans s5)),?_⟩⟩
   rw[if_pos rfl]
   exact⟨p,a,q,ns,L,most,n,ad,s,wv,x,rfl,S4.same s5,w4.mono (TK.of s5),hm,dr,l1,l6,hn6,Scr.of hq (e04.trans s5) fr.2,hz,k⟩
end
theorem all_mk {l:PySem.W.OpenLaw}{w:World}{K:PySem.W.Frag}{h:Heap}{mg:Str->Option Value}{fa Dx Ar AJ JN Dp JO Gd Cq DU Am Ka B8 M7 CJ Gx Qh An BA Wb BF Bi Dr Ik Cn DS Bo Cr Ey Bp Bq Im Bf Ce Bt BH D9 Bx A4 DC Ea Bl Fj Bg CM Bb Co E8 EZ FW Br Eb Cs D8 AK Iu G4 Ep Eo D0 Er CD Dy B3 CL BI Fi EC Cm IP_:Addr}(X:K.In h)(G:h.Ns mainGlobals mg)(hfa:mg "law"=some (.ref fa))
  {C_j8 C_j5 C_j6 C_j3 C_j2 C_j0 C_j7 C_j9 C_jj C_ja C_j1 C_j4:Addr}
  {Vg Vh:Option Addr} {Vi:Array (Option Value)} {Vj Vk Vl Vm NJ Vn:Value}
  {Qv Qw:Option Addr} {Qx:Array (Option Value)} {Qy Qz QA QB JZ QC:Value}
  {Zo Zp:Option Addr} {Zq:Array (Option Value)} {Zr Zs Zt Zu Ry Zv:Value}
  {Dn_ Do_:Option Addr} {Dp_:Array (Option Value)} {Dq_ Dr_ Ds_ Dt_ Wk Du_:Value}
  {Xf Xg:Option Addr} {Xh:Array (Option Value)} {Xi Xj Xk Xl O2 Xm:Value}
  {Dv_ Dw_:Option Addr} {Dx_:Array (Option Value)} {Dy_ Dz_ DA_ DB_ Wl DC_:Value}
  {Xn Xo:Option Addr} {Xp:Array (Option Value)} {Xq Xr Xs Xt O3 Xu:Value}
  {Xv Xw:Option Addr} {Xx:Array (Option Value)} {Xy Xz XA XB O4 XC:Value}
  {Br_ Bs_:Option Addr} {Bt_:Array (Option Value)} {Bu_ Bv_ Bw_ Bx_ TZ By_:Value}
  {Nh Ni:Option Addr} {Nj:Array (Option Value)} {Nk Nl Nm Nn HX Np:Value}
  {Gx_ Gy_:Option Addr} {Gz_:Array (Option Value)} {GA_ GB_ GC_ GD_ CK_ GE_:Value}
  {Zw Zx:Option Addr} {Zy:Array (Option Value)} {Zz ZA ZC ZD Rz ZE:Value}
  {Fz_ FA_:Option Addr} {FB_:Array (Option Value)} {FC_ FD_ FE_ FF_ ZF FG_:Value}
  {T1 T2:Option Addr} {T3:Array (Option Value)} {T4 T5 T6 T7 Mc T8:Value}
  {DD_ DE_:Option Addr} {DF_:Array (Option Value)} {DG_ DH_ DI_ DJ_ Wm DK_:Value}
  {GF_ GG_:Option Addr} {GH_:Array (Option Value)} {GI_ GJ_ GK_ GL_ CL_ GM_:Value}
  {KQ KR:Option Addr} {KS:Array (Option Value)} {KU KW KY KZ GQ K0:Value}
  {O5 O6:Option Addr} {O7:Array (Option Value)} {O8 O9 Pb Pd Jj Pe:Value}
  {IQ_ IR_:Option Addr} {IS_:Array (Option Value)} {IT_ IU_ IV_ IW_ FH_ IX_:Value}
  {ZG ZH:Option Addr} {ZI:Array (Option Value)} {ZJ ZK ZL ZM RA ZN:Value}
  {QD QE:Option Addr} {QF:Array (Option Value)} {QG QH QI QJ J1 QK:Value}
  {Vo Vp:Option Addr} {Vq:Array (Option Value)} {Vr Vs Vt Vu NL Vv:Value}
  {Bz_ BA_:Option Addr} {BB_:Array (Option Value)} {BC_ BD_ BE_ BF_ T9 BG_:Value}
  {Ua Ub:Option Addr} {Uc:Array (Option Value)} {Ud Ue Ug Uh Md Ui:Value}
  {RT RU:Option Addr} {RW:Array (Option Value)} {RX RY RZ R0 Kz R1:Value}
  {Me Mf:Option Addr} {Mg:Array (Option Value)} {Mh Mi Mj Ml HH Mm:Value}
  {XD XE:Option Addr} {XF:Array (Option Value)} {XG XH XI XJ Pf XM:Value}
  {Uj Uk:Option Addr} {Ul:Array (Option Value)} {Um Uo Uq Ur Mn Us:Value}
  {Mo Mp:Option Addr} {Mq:Array (Option Value)} {Mr Ms Mt Mu HI Mv:Value}
  {Mw My:Option Addr} {Mz:Array (Option Value)} {MA MB MC ME HJ MF:Value}
  {BH_ BI_:Option Addr} {BJ_:Array (Option Value)} {BK_ BL_ BM_ BN_ Ut BO_:Value}
  {K1 K2:Option Addr} {K3:Array (Option Value)} {K4 K5 K6 K7 GR K8:Value}
  {QL QM:Option Addr} {QN:Array (Option Value)} {QO QP QQ QR J2 QT:Value}
  {Vw Vx:Option Addr} {Vy:Array (Option Value)} {Vz VA VB VC NM VD:Value}
  {Og Oh:Option Addr} {Oi:Array (Option Value)} {Oj Ol Om Oo IX Oq:Value}
  {XN XO:Option Addr} {XQ:Array (Option Value)} {XR XS XT XU Pg XW:Value}
  {R3 R4:Option Addr} {R5:Array (Option Value)} {R6 R7 R8 R9 KA Sa:Value}
  {QU QV:Option Addr} {QW:Array (Option Value)} {QX QY QZ Q0 J3 Q1:Value}
  {XX XY:Option Addr} {XZ:Array (Option Value)} {X0 X1 X2 X3 Ph X4:Value}
  {X5 X6:Option Addr} {X7:Array (Option Value)} {X8 X9 Ya Yb Pj Yc:Value}
  {Q2 Q3:Option Addr} {Q4:Array (Option Value)} {Q5 Q6 Q7 Q8 J4 Q9:Value}
  {VE VF:Option Addr} {VG:Array (Option Value)} {VH VI VJ VL NN VM:Value}
  {K9 La:Option Addr} {Lb:Array (Option Value)} {Lc Ld Le Lf GS Lg:Value}
  {Uu Uv:Option Addr} {Uw:Array (Option Value)} {Ux Uy Uz UA MG UB:Value}
  {Pk Pl:Option Addr} {Pm:Array (Option Value)} {Pn Po Pp Pq Jk Pt:Value}
  {UC UD:Option Addr} {UE:Array (Option Value)} {UG UH UI UJ MK UK:Value}
  {ZO ZP:Option Addr} {ZQ:Array (Option Value)} {ZR ZS ZT ZU RC ZV:Value}
  {Yd Ye:Option Addr} {Yf:Array (Option Value)} {Yg Yh Yi Yj Pu Yk:Value}
  {ZW ZX:Option Addr} {ZY:Array (Option Value)} {ZZ Z0 Z5 Z6 RD Z7:Value}
  {ML MM:Option Addr} {MN:Array (Option Value)} {MO MQ MR MS HK MT:Value}
  {Yl Ym:Option Addr} {Yn:Array (Option Value)} {Yo Yp Yq Yr Px Ys:Value}
  {Sb Sd:Option Addr} {Se:Array (Option Value)} {Sf Sg Sh Si KC Sj:Value}
  {Yt Yu:Option Addr} {Yv:Array (Option Value)} {Yw Yx Yy Yz Pz YA:Value}
  {Ra Rb:Option Addr} {Rc:Array (Option Value)} {Rf Rg Rh Ri J5 Rj:Value}
  {BP_ BQ_:Option Addr} {BR_:Array (Option Value)} {BS_ BT_ BU_ BV_ UL BW_:Value}
  {Z8 Z9:Option Addr} {Aa_:Array (Option Value)} {Ab_ Ac_ Ad_ Ae_ RE Af_:Value}
  {Ag_ Ah_:Option Addr} {Ai_:Array (Option Value)} {Aj_ Ak_ Al_ Am_ RF An_:Value}
  {Ao_ Ap_:Option Addr} {Aq_:Array (Option Value)} {Ar_ As_ At_ Au_ RG Av_:Value}
  {Sk Sl:Option Addr} {Sm:Array (Option Value)} {Sn So Sq Sr KD Ss:Value}
  {Aw_ Ax_:Option Addr} {Ay_:Array (Option Value)} {Az_ AA_ AB_ AC_ RH AD_:Value}
  {VN VO:Option Addr} {VP:Array (Option Value)} {VQ VR VS VT NO VU:Value}
  {VW VX:Option Addr} {VY:Array (Option Value)} {VZ V0 V1 V2 NQ V3:Value}
  {PD PH:Option Addr} {PJ:Array (Option Value)} {PL PM PN PQ Jl PR:Value}
  {UM UN:Option Addr} {UO:Array (Option Value)} {UP UQ UR US MU UT:Value}
  {Ot Ou:Option Addr} {Ov:Array (Option Value)} {Ow Ox Oy Oz IY OA:Value}
  {BX_ BY_:Option Addr} {BZ_:Array (Option Value)} {Ca_ Cb_ Cc_ Cd_ UU Ce_:Value}
  {UW UX:Option Addr} {UY:Array (Option Value)} {UZ U0 U1 U2 MV U3:Value}
  {Nq Nr:Option Addr} {Nt:Array (Option Value)} {Nu Nv Nw Nx HY Ny:Value}
  {Kw_ HO_:Option Addr} {Kx_:Array (Option Value)} {Ky_ HP_ HQ_ HR_ FI_ HS_:Value}
  (aC_j7:PySem.W.nsIn K mainGlobals "Book"=some (some (.ref C_j7)))
  (pg_j7:PySem.W.plainGet K C_j7 Str.empty=true)
  (hd_j7:PySem.W.hasDictIn K C_j7=true)
  (po_j7:PySem.W.plainOver K C_j7=true)
  (sa_j7:PySem.W.findIn K (.ref C_j7) "__setattr__"=some (some (.builtin "object.__setattr__")))
  (mk_j7:PySem.W.makesIn K C_j7=true)
  (kc_j7:PySem.W.keepIn K (.ref C_j7)=true)
  (n_letters_Book:PySem.W.findIn K (.ref C_j7) "letters"=some none)
  (n_marks_Book:PySem.W.findIn K (.ref C_j7) "marks"=some none)
  (aC_j9:PySem.W.nsIn K mainGlobals "Turns"=some (some (.ref C_j9)))
  (aC_jj:PySem.W.nsIn K mainGlobals "Hunt"=some (some (.ref C_jj)))
  (aC_ja:PySem.W.nsIn K mainGlobals "Asker"=some (some (.ref C_ja)))
  (aC_j1:PySem.W.nsIn K mainGlobals "SayHunt"=some (some (.ref C_j1)))
  (pg_j1:PySem.W.plainGet K C_j1 Str.empty=true)
  (hd_j1:PySem.W.hasDictIn K C_j1=true)
  (po_j1:PySem.W.plainOver K C_j1=true)
  (sa_j1:PySem.W.findIn K (.ref C_j1) "__setattr__"=some (some (.builtin "object.__setattr__")))
  (mk_j1:PySem.W.makesIn K C_j1=true)
  (kc_j1:PySem.W.keepIn K (.ref C_j1)=true)
  (n_book_SayHunt:PySem.W.findIn K (.ref C_j1) "book"=some none)
  (n_ends_SayHunt:PySem.W.findIn K (.ref C_j1) "ends"=some none)
  (n_gaps_SayHunt:PySem.W.findIn K (.ref C_j1) "gaps"=some none)
  (n_guess_SayHunt:PySem.W.findIn K (.ref C_j1) "guess"=some none)
  (n_letters_SayHunt:PySem.W.findIn K (.ref C_j1) "letters"=some none)
  (n_most_SayHunt:PySem.W.findIn K (.ref C_j1) "most"=some none)
  (n_ways_SayHunt:PySem.W.findIn K (.ref C_j1) "ways"=some none)
  (n_wish_SayHunt:PySem.W.findIn K (.ref C_j1) "wish"=some none)
  (n_wrong_SayHunt:PySem.W.findIn K (.ref C_j1) "wrong"=some none)
  (aC_j4:PySem.W.nsIn K mainGlobals "SayAsker"=some (some (.ref C_j4)))
  (pg_j4:PySem.W.plainGet K C_j4 Str.empty=true)
  (hd_j4:PySem.W.hasDictIn K C_j4=true)
  (po_j4:PySem.W.plainOver K C_j4=true)
  (sa_j4:PySem.W.findIn K (.ref C_j4) "__setattr__"=some (some (.builtin "object.__setattr__")))
  (mk_j4:PySem.W.makesIn K C_j4=true)
  (kc_j4:PySem.W.keepIn K (.ref C_j4)=true)
  (n_hunt_SayAsker:PySem.W.findIn K (.ref C_j4) "hunt"=some none)
  (n_letters_SayAsker:PySem.W.findIn K (.ref C_j4) "letters"=some none)
  {tk_j28:Tok} (q_j28:PySem.W.nsIn K mainGlobals "MOST_MARK"=some (some (.int 1000000000 tk_j28)))
  (a_j11:PySem.W.findIn K (.ref C_j1) "wants"=some (some (.ref Dx)))
  (i_j11:PySem.W.isFn K (.ref Dx)=true)
  (l_j11:K.lookup Dx=some ⟨Vj,Vg,.func (PySem.W.fnOf "wants" "Turns.wants" (Al Ee) (Ak Ee) (Ab Ee) .none Vk Vl Vm Vh NJ Vn),Vi⟩)
  (c_j11:PySem.W.codeIn K NJ "Turns.wants"=true)
  (k_j11:PySem.W.keepIn K (.ref Dx)=true)
  (a_jq:PySem.W.findIn K (.ref C_j4) "wants"=some (some (.ref Ar)))
  (i_jq:PySem.W.isFn K (.ref Ar)=true)
  (l_jq:K.lookup Ar=some ⟨Qy,Qv,.func (PySem.W.fnOf "wants" "SayAsker.wants" (Al By) (Ak By) (Ab By) .none Qz QA QB Qw JZ QC),Qx⟩)
  (c_jq:PySem.W.codeIn K JZ "SayAsker.wants"=true)
  (k_jq:PySem.W.keepIn K (.ref Ar)=true)
  (a_j1s:PySem.W.nsIn K mainGlobals "_law_cell"=some (some (.ref AJ)))
  (l_j1s:K.lookup AJ=some ⟨Zr,Zo,.func (PySem.W.fnOf "_law_cell" "_law_cell" (Al Cj) (Ak Cj) (Ab Cj) .none Zs Zt Zu Zp Ry Zv),Zq⟩)
  (c_j1s:PySem.W.codeIn K Ry "_law_cell"=true)
  (k_j1s:PySem.W.keepIn K (.ref AJ)=true)
  (a_j21:PySem.W.nsIn K mainGlobals "is_word"=some (some (.ref JN)))
  (l_j21:K.lookup JN=some ⟨Dq_,Dn_,.func (PySem.W.fnOf "is_word" "is_word" (Al Iz) (Ak Iz) (Ab Iz) .none Dr_ Ds_ Dt_ Do_ Wk Du_),Dp_⟩)
  (c_j21:PySem.W.codeIn K Wk "is_word"=true)
  (k_j21:PySem.W.keepIn K (.ref JN)=true)
  (a_j1o:PySem.W.nsIn K mainGlobals "check_word"=some (some (.ref Dp)))
  (l_j1o:K.lookup Dp=some ⟨Xi,Xf,.func (PySem.W.fnOf "check_word" "check_word" (Al D1) (Ak D1) (Ab D1) .none Xj Xk Xl Xg O2 Xm),Xh⟩)
  (c_j1o:PySem.W.codeIn K O2 "check_word"=true)
  (k_j1o:PySem.W.keepIn K (.ref Dp)=true)
  (a_j22:PySem.W.nsIn K mainGlobals "is_mark"=some (some (.ref JO)))
  (l_j22:K.lookup JO=some ⟨Dy_,Dv_,.func (PySem.W.fnOf "is_mark" "is_mark" (Al IA) (Ak IA) (Ab IA) .none Dz_ DA_ DB_ Dw_ Wl DC_),Dx_⟩)
  (c_j22:PySem.W.codeIn K Wl "is_mark"=true)
  (k_j22:PySem.W.keepIn K (.ref JO)=true)
  (a_j1p:PySem.W.nsIn K mainGlobals "check_mark"=some (some (.ref Gd)))
  (l_j1p:K.lookup Gd=some ⟨Xq,Xn,.func (PySem.W.fnOf "check_mark" "check_mark" (Al EH) (Ak EH) (Ab EH) .none Xr Xs Xt Xo O3 Xu),Xp⟩)
  (c_j1p:PySem.W.codeIn K O3 "check_mark"=true)
  (k_j1p:PySem.W.keepIn K (.ref Gd)=true)
  (a_j17:PySem.W.findIn K (.ref C_j7) "check"=some (some (.ref Cq)))
  (i_j17:PySem.W.isFn K (.ref Cq)=true)
  (l_j17:K.lookup Cq=some ⟨Xy,Xv,.func (PySem.W.fnOf "check" "Book.check" (Al D2) (Ak D2) (Ab D2) .none Xz XA XB Xw O4 XC),Xx⟩)
  (c_j17:PySem.W.codeIn K O4 "Book.check"=true)
  (k_j17:PySem.W.keepIn K (.ref Cq)=true)
  (a_j1n:PySem.W.findIn K (.ref C_j7) "put"=some (some (.ref DU)))
  (i_j1n:PySem.W.isFn K (.ref DU)=true)
  (l_j1n:K.lookup DU=some ⟨Bu_,Br_,.func (PySem.W.fnOf "put" "Book.put" (Al F7) (Ak F7) (Ab F7) .none Bv_ Bw_ Bx_ Bs_ TZ By_),Bt_⟩)
  (c_j1n:PySem.W.codeIn K TZ "Book.put"=true)
  (k_j1n:PySem.W.keepIn K (.ref DU)=true)
  (a_ji:PySem.W.findIn K (.ref C_j1) "check_wants"=some (some (.ref Am)))
  (i_ji:PySem.W.isFn K (.ref Am)=true)
  (l_ji:K.lookup Am=some ⟨Nk,Nh,.func (PySem.W.fnOf "check_wants" "Turns.check_wants" (Al AY) (Ak AY) (Ab AY) .none Nl Nm Nn Ni HX Np),Nj⟩)
  (c_ji:PySem.W.codeIn K HX "Turns.check_wants"=true)
  (k_ji:PySem.W.keepIn K (.ref Am)=true)
  (a_j25:PySem.W.nsIn K mainGlobals "trail"=some (some (.ref Ka)))
  (l_j25:K.lookup Ka=some ⟨GA_,Gx_,.func (PySem.W.fnOf "trail" "trail" (Al Lp) (Ak Lp) (Ab Lp) .none GB_ GC_ GD_ Gy_ CK_ GE_),Gz_⟩)
  (c_j25:PySem.W.codeIn K CK_ "trail"=true)
  (k_j25:PySem.W.keepIn K (.ref Ka)=true)
  (a_j1j:PySem.W.findIn K (.ref C_j7) "told"=some (some (.ref B8)))
  (i_j1j:PySem.W.isFn K (.ref B8)=true)
  (l_j1j:K.lookup B8=some ⟨Zz,Zw,.func (PySem.W.fnOf "told" "Book.told" (Al Ef) (Ak Ef) (Ab Ef) .none ZA ZC ZD Zx Rz ZE),Zy⟩)
  (c_j1j:PySem.W.codeIn K Rz "Book.told"=true)
  (k_j1j:PySem.W.keepIn K (.ref B8)=true)
  (a_j24:PySem.W.nsIn K mainGlobals "halved"=some (some (.ref M7)))
  (l_j24:K.lookup M7=some ⟨FC_,Fz_,.func (PySem.W.fnOf "halved" "halved" (Al J8) (Ak J8) (Ab J8) .none FD_ FE_ FF_ FA_ ZF FG_),FB_⟩)
  (c_j24:PySem.W.codeIn K ZF "halved"=true)
  (k_j24:PySem.W.keepIn K (.ref M7)=true)
  (a_jx:PySem.W.findIn K (.ref C_j1) "ask_for"=some (some (.ref CJ)))
  (i_jx:PySem.W.isFn K (.ref CJ)=true)
  (l_jx:K.lookup CJ=some ⟨T4,T1,.func (PySem.W.fnOf "ask_for" "Hunt.ask_for" (Al DG) (Ak DG) (Ab DG) .none T5 T6 T7 T2 Mc T8),T3⟩)
  (c_jx:PySem.W.codeIn K Mc "Hunt.ask_for"=true)
  (k_jx:PySem.W.keepIn K (.ref CJ)=true)
  (a_j23:PySem.W.nsIn K mainGlobals "rows_of"=some (some (.ref Gx)))
  (l_j23:K.lookup Gx=some ⟨DG_,DD_,.func (PySem.W.fnOf "rows_of" "rows_of" (Al Ho) (Ak Ho) (Ab Ho) .none DH_ DI_ DJ_ DE_ Wm DK_),DF_⟩)
  (c_j23:PySem.W.codeIn K Wm "rows_of"=true)
  (k_j23:PySem.W.keepIn K (.ref Gx)=true)
  (a_j26:PySem.W.nsIn K mainGlobals "cells"=some (some (.ref Qh)))
  (l_j26:K.lookup Qh=some ⟨GI_,GF_,.func (PySem.W.fnOf "cells" "cells" (Al NV) (Ak NV) (Ab NV) .none GJ_ GK_ GL_ GG_ CL_ GM_),GH_⟩)
  (c_j26:PySem.W.codeIn K CL_ "cells"=true)
  (k_j26:PySem.W.keepIn K (.ref Qh)=true)
  (a_jc:PySem.W.findIn K (.ref C_j1) "look_for_gaps"=some (some (.ref An)))
  (i_jc:PySem.W.isFn K (.ref An)=true)
  (l_jc:K.lookup An=some ⟨KU,KQ,.func (PySem.W.fnOf "look_for_gaps" "Asker.look_for_gaps" (Al AU) (Ak AU) (Ab AU) .none KW KY KZ KR GQ K0),KS⟩)
  (c_jc:PySem.W.codeIn K GQ "Asker.look_for_gaps"=true)
  (k_jc:PySem.W.keepIn K (.ref An)=true)
  (a_j10:PySem.W.nsIn K mainGlobals "check_not_empty"=some (some (.ref BA)))
  (l_j10:K.lookup BA=some ⟨O8,O5,.func (PySem.W.fnOf "check_not_empty" "check_not_empty" (Al BU) (Ak BU) (Ab BU) .none O9 Pb Pd O6 Jj Pe),O7⟩)
  (c_j10:PySem.W.codeIn K Jj "check_not_empty"=true)
  (k_j10:PySem.W.keepIn K (.ref BA)=true)
  (a_j27:PySem.W.nsIn K mainGlobals "said"=some (some (.ref Wb)))
  (l_j27:K.lookup Wb=some ⟨IT_,IQ_,.func (PySem.W.fnOf "said" "said" (Al S8) (Ak S8) (Ab S8) .none IU_ IV_ IW_ IR_ FH_ IX_),IS_⟩)
  (c_j27:PySem.W.codeIn K FH_ "said"=true)
  (k_j27:PySem.W.keepIn K (.ref Wb)=true)
  (a_j1r:PySem.W.nsIn K mainGlobals "last_said"=some (some (.ref BF)))
  (l_j1r:K.lookup BF=some ⟨ZJ,ZG,.func (PySem.W.fnOf "last_said" "last_said" (Al Eg) (Ak Eg) (Ab Eg) .none ZK ZL ZM ZH RA ZN),ZI⟩)
  (c_j1r:PySem.W.codeIn K RA "last_said"=true)
  (k_j1r:PySem.W.keepIn K (.ref BF)=true)
  (a_jp:PySem.W.findIn K (.ref C_j1) "answer"=some (some (.ref Bi)))
  (i_jp:PySem.W.isFn K (.ref Bi)=true)
  (l_jp:K.lookup Bi=some ⟨QG,QD,.func (PySem.W.fnOf "answer" "SayHunt.answer" (Al Cc) (Ak Cc) (Ab Cc) .none QH QI QJ QE J1 QK),QF⟩)
  (c_jp:PySem.W.codeIn K J1 "SayHunt.answer"=true)
  (k_jp:PySem.W.keepIn K (.ref Bi)=true)
  (a_j14:PySem.W.findIn K (.ref C_j1) "halve"=some (some (.ref Dr)))
  (i_j14:PySem.W.isFn K (.ref Dr)=true)
  (l_j14:K.lookup Dr=some ⟨Vr,Vo,.func (PySem.W.fnOf "halve" "Asker.halve" (Al Eh) (Ak Eh) (Ab Eh) .none Vs Vt Vu Vp NL Vv),Vq⟩)
  (c_j14:PySem.W.codeIn K NL "Asker.halve"=true)
  (k_j14:PySem.W.keepIn K (.ref Dr)=true)
  (a_j1x:PySem.W.nsIn K mainGlobals "marks_of"=some (some (.ref Ik)))
  (l_j1x:K.lookup Ik=some ⟨BC_,Bz_,.func (PySem.W.fnOf "marks_of" "marks_of" (Al GX) (Ak GX) (Ab GX) .none BD_ BE_ BF_ BA_ T9 BG_),BB_⟩)
  (c_j1x:PySem.W.codeIn K T9 "marks_of"=true)
  (k_j1x:PySem.W.keepIn K (.ref Ik)=true)
  (a_j1f:PySem.W.nsIn K mainGlobals "marks_by_row"=some (some (.ref Cn)))
  (l_j1f:K.lookup Cn=some ⟨Ud,Ua,.func (PySem.W.fnOf "marks_by_row" "marks_by_row" (Al CG) (Ak CG) (Ab CG) .none Ue Ug Uh Ub Md Ui),Uc⟩)
  (c_j1f:PySem.W.codeIn K Md "marks_by_row"=true)
  (k_j1f:PySem.W.keepIn K (.ref Cn)=true)
  (a_j1c:PySem.W.nsIn K mainGlobals "ways_by_marks"=some (some (.ref DS)))
  (l_j1c:K.lookup DS=some ⟨RX,RT,.func (PySem.W.fnOf "ways_by_marks" "ways_by_marks" (Al C0) (Ak C0) (Ab C0) .none RY RZ R0 RU Kz R1),RW⟩)
  (c_j1c:PySem.W.codeIn K Kz "ways_by_marks"=true)
  (k_j1c:PySem.W.keepIn K (.ref DS)=true)
  (a_jg:PySem.W.findIn K (.ref C_j1) "make_guess"=some (some (.ref Bo)))
  (i_jg:PySem.W.isFn K (.ref Bo)=true)
  (l_jg:K.lookup Bo=some ⟨Mh,Me,.func (PySem.W.fnOf "make_guess" "SayHunt.make_guess" (Al BB) (Ak BB) (Ab BB) .none Mi Mj Ml Mf HH Mm),Mg⟩)
  (c_jg:PySem.W.codeIn K HH "SayHunt.make_guess"=true)
  (k_jg:PySem.W.keepIn K (.ref Bo)=true)
  (a_j18:PySem.W.findIn K (.ref C_j7) "heard"=some (some (.ref Cr)))
  (i_j18:PySem.W.isFn K (.ref Cr)=true)
  (l_j18:K.lookup Cr=some ⟨XG,XD,.func (PySem.W.fnOf "heard" "Book.heard" (Al D3) (Ak D3) (Ab D3) .none XH XI XJ XE Pf XM),XF⟩)
  (c_j18:PySem.W.codeIn K Pf "Book.heard"=true)
  (k_j18:PySem.W.keepIn K (.ref Cr)=true)
  (a_j1g:PySem.W.nsIn K mainGlobals "first_unlike"=some (some (.ref Ey)))
  (l_j1g:K.lookup Ey=some ⟨Um,Uj,.func (PySem.W.fnOf "first_unlike" "first_unlike" (Al DH) (Ak DH) (Ab DH) .none Uo Uq Ur Uk Mn Us),Ul⟩)
  (c_j1g:PySem.W.codeIn K Mn "first_unlike"=true)
  (k_j1g:PySem.W.keepIn K (.ref Ey)=true)
  (a_jh:PySem.W.findIn K (.ref C_j1) "wrong_word"=some (some (.ref Bp)))
  (i_jh:PySem.W.isFn K (.ref Bp)=true)
  (l_jh:K.lookup Bp=some ⟨Mr,Mo,.func (PySem.W.fnOf "wrong_word" "SayHunt.wrong_word" (Al BC) (Ak BC) (Ab BC) .none Ms Mt Mu Mp HI Mv),Mq⟩)
  (c_jh:PySem.W.codeIn K HI "SayHunt.wrong_word"=true)
  (k_jh:PySem.W.keepIn K (.ref Bp)=true)
  (a_je:PySem.W.findIn K (.ref C_j1) "look_at_guess"=some (some (.ref Bq)))
  (i_je:PySem.W.isFn K (.ref Bq)=true)
  (l_je:K.lookup Bq=some ⟨MA,Mw,.func (PySem.W.fnOf "look_at_guess" "Hunt.look_at_guess" (Al BD) (Ak BD) (Ab BD) .none MB MC ME My HJ MF),Mz⟩)
  (c_je:PySem.W.codeIn K HJ "Hunt.look_at_guess"=true)
  (k_je:PySem.W.keepIn K (.ref Bq)=true)
  (a_j1y:PySem.W.nsIn K mainGlobals "stranger"=some (some (.ref Im)))
  (l_j1y:K.lookup Im=some ⟨BK_,BH_,.func (PySem.W.fnOf "stranger" "stranger" (Al GY) (Ak GY) (Ab GY) .none BL_ BM_ BN_ BI_ Ut BO_),BJ_⟩)
  (c_j1y:PySem.W.codeIn K Ut "stranger"=true)
  (k_j1y:PySem.W.keepIn K (.ref Im)=true)
  (a_jd:PySem.W.findIn K (.ref C_j1) "look_at_words"=some (some (.ref Bf)))
  (i_jd:PySem.W.isFn K (.ref Bf)=true)
  (l_jd:K.lookup Bf=some ⟨K4,K1,.func (PySem.W.fnOf "look_at_words" "Asker.look_at_words" (Al Bv) (Ak Bv) (Ab Bv) .none K5 K6 K7 K2 GR K8),K3⟩)
  (c_jd:PySem.W.codeIn K GR "Asker.look_at_words"=true)
  (k_jd:PySem.W.keepIn K (.ref Bf)=true)
  (a_jo:PySem.W.findIn K (.ref C_j1) "next_wish"=some (some (.ref Ce)))
  (i_jo:PySem.W.isFn K (.ref Ce)=true)
  (l_jo:K.lookup Ce=some ⟨QO,QL,.func (PySem.W.fnOf "next_wish" "Hunt.next_wish" (Al Cu) (Ak Cu) (Ab Cu) .none QP QQ QR QM J2 QT),QN⟩)
  (c_jo:PySem.W.codeIn K J2 "Hunt.next_wish"=true)
  (k_jo:PySem.W.keepIn K (.ref Ce)=true)
  (a_j12:PySem.W.findIn K (.ref C_j1) "go_on"=some (some (.ref Bt)))
  (i_j12:PySem.W.isFn K (.ref Bt)=true)
  (l_j12:K.lookup Bt=some ⟨Vz,Vw,.func (PySem.W.fnOf "go_on" "Turns.go_on" (Al Cw) (Ak Cw) (Ab Cw) .none VA VB VC Vx NM VD),Vy⟩)
  (c_j12:PySem.W.codeIn K NM "Turns.go_on"=true)
  (k_j12:PySem.W.keepIn K (.ref Bt)=true)
  (a_jk:PySem.W.findIn K (.ref C_j1) "keep_answer"=some (some (.ref BH)))
  (i_jk:PySem.W.isFn K (.ref BH)=true)
  (l_jk:K.lookup BH=some ⟨Oj,Og,.func (PySem.W.fnOf "keep_answer" "Hunt.keep_answer" (Al B6) (Ak B6) (Ab B6) .none Ol Om Oo Oh IX Oq),Oi⟩)
  (c_jk:PySem.W.codeIn K IX "Hunt.keep_answer"=true)
  (k_jk:PySem.W.keepIn K (.ref BH)=true)
  (a_j1b:PySem.W.findIn K (.ref C_j1) "hear"=some (some (.ref D9)))
  (i_j1b:PySem.W.isFn K (.ref D9)=true)
  (l_j1b:K.lookup D9=some ⟨XR,XN,.func (PySem.W.fnOf "hear" "Asker.hear" (Al EJ) (Ak EJ) (Ab EJ) .none XS XT XU XO Pg XW),XQ⟩)
  (c_j1b:PySem.W.codeIn K Pg "Asker.hear"=true)
  (k_j1b:PySem.W.keepIn K (.ref D9)=true)
  (a_jt:PySem.W.findIn K (.ref C_j4) "hear"=some (some (.ref Bx)))
  (i_jt:PySem.W.isFn K (.ref Bx)=true)
  (l_jt:K.lookup Bx=some ⟨R6,R3,.func (PySem.W.fnOf "hear" "SayAsker.hear" (Al Cp) (Ak Cp) (Ab Cp) .none R7 R8 R9 R4 KA Sa),R5⟩)
  (c_jt:PySem.W.codeIn K KA "SayAsker.hear"=true)
  (k_jt:PySem.W.keepIn K (.ref Bx)=true)
  (a_j16:PySem.W.nsIn K mainGlobals "_law_told_kind"=some (some (.ref A4)))
  (l_j16:K.lookup A4=some ⟨QX,QU,.func (PySem.W.fnOf "_law_told_kind" "_law_told_kind" (Al BJ) (Ak BJ) (Ab BJ) .none QY QZ Q0 QV J3 Q1),QW⟩)
  (c_j16:PySem.W.codeIn K J3 "_law_told_kind"=true)
  (k_j16:PySem.W.keepIn K (.ref A4)=true)
  (a_j1q:PySem.W.nsIn K mainGlobals "_law_hears"=some (some (.ref DC)))
  (l_j1q:K.lookup DC=some ⟨X0,XX,.func (PySem.W.fnOf "_law_hears" "_law_hears" (Al D4) (Ak D4) (Ab D4) .none X1 X2 X3 XY Ph X4),XZ⟩)
  (c_j1q:PySem.W.codeIn K Ph "_law_hears"=true)
  (k_j1q:PySem.W.keepIn K (.ref DC)=true)
  (a_j19:PySem.W.findIn K (.ref C_j1) "agree"=some (some (.ref Ea)))
  (i_j19:PySem.W.isFn K (.ref Ea)=true)
  (l_j19:K.lookup Ea=some ⟨X8,X5,.func (PySem.W.fnOf "agree" "Hunt.agree" (Al EK) (Ak EK) (Ab EK) .none X9 Ya Yb X6 Pj Yc),X7⟩)
  (c_j19:PySem.W.codeIn K Pj "Hunt.agree"=true)
  (k_j19:PySem.W.keepIn K (.ref Ea)=true)
  (a_jr:PySem.W.findIn K (.ref C_j4) "agree"=some (some (.ref Bl)))
  (i_jr:PySem.W.isFn K (.ref Bl)=true)
  (l_jr:K.lookup Bl=some ⟨Q5,Q2,.func (PySem.W.fnOf "agree" "SayAsker.agree" (Al Cd) (Ak Cd) (Ab Cd) .none Q6 Q7 Q8 Q3 J4 Q9),Q4⟩)
  (c_jr:PySem.W.codeIn K J4 "SayAsker.agree"=true)
  (k_jr:PySem.W.keepIn K (.ref Bl)=true)
  (a_j1l:PySem.W.nsIn K mainGlobals "_law_agrees"=some (some (.ref Fj)))
  (l_j1l:K.lookup Fj=some ⟨VH,VE,.func (PySem.W.fnOf "_law_agrees" "_law_agrees" (Al Ei) (Ak Ei) (Ab Ei) .none VI VJ VL VF NN VM),VG⟩)
  (c_j1l:PySem.W.codeIn K NN "_law_agrees"=true)
  (k_j1l:PySem.W.keepIn K (.ref Fj)=true)
  (a_jb:PySem.W.findIn K (.ref C_j1) "keep_objection"=some (some (.ref Bg)))
  (i_jb:PySem.W.isFn K (.ref Bg)=true)
  (l_jb:K.lookup Bg=some ⟨Lc,K9,.func (PySem.W.fnOf "keep_objection" "Hunt.keep_objection" (Al Bw) (Ak Bw) (Ab Bw) .none Ld Le Lf La GS Lg),Lb⟩)
  (c_jb:PySem.W.codeIn K GS "Hunt.keep_objection"=true)
  (k_jb:PySem.W.keepIn K (.ref Bg)=true)
  (a_jy:PySem.W.findIn K (.ref C_j1) "differ"=some (some (.ref CM)))
  (i_jy:PySem.W.isFn K (.ref CM)=true)
  (l_jy:K.lookup CM=some ⟨Ux,Uu,.func (PySem.W.fnOf "differ" "Asker.differ" (Al DI) (Ak DI) (Ab DI) .none Uy Uz UA Uv MG UB),Uw⟩)
  (c_jy:PySem.W.codeIn K MG "Asker.differ"=true)
  (k_jy:PySem.W.keepIn K (.ref CM)=true)
  (a_jm:PySem.W.findIn K (.ref C_j4) "differ"=some (some (.ref Bb)))
  (i_jm:PySem.W.isFn K (.ref Bb)=true)
  (l_jm:K.lookup Bb=some ⟨Pn,Pk,.func (PySem.W.fnOf "differ" "SayAsker.differ" (Al BX) (Ak BX) (Ab BX) .none Po Pp Pq Pl Jk Pt),Pm⟩)
  (c_jm:PySem.W.codeIn K Jk "SayAsker.differ"=true)
  (k_jm:PySem.W.keepIn K (.ref Bb)=true)
  (a_j1h:PySem.W.nsIn K mainGlobals "_law_differs"=some (some (.ref Co)))
  (l_j1h:K.lookup Co=some ⟨UG,UC,.func (PySem.W.fnOf "_law_differs" "_law_differs" (Al CH) (Ak CH) (Ab CH) .none UH UI UJ UD MK UK),UE⟩)
  (c_j1h:PySem.W.codeIn K MK "_law_differs"=true)
  (k_j1h:PySem.W.keepIn K (.ref Co)=true)
  (a_j1k:PySem.W.findIn K (.ref C_j7) "__init__"=some (some (.ref E8)))
  (i_j1k:PySem.W.isFn K (.ref E8)=true)
  (l_j1k:K.lookup E8=some ⟨ZR,ZO,.func (PySem.W.fnOf "__init__" "Book.__init__" (Al FQ) (Ak FQ) (Ab FQ) .none ZS ZT ZU ZP RC ZV),ZQ⟩)
  (c_j1k:PySem.W.codeIn K RC "Book.__init__"=true)
  (k_j1k:PySem.W.keepIn K (.ref E8)=true)
  (sg_jz:PySem.W.specialIn K (.ref C_j9) "__getattribute__"=some (some (.builtin "type.__getattribute__")))
  (rd_jz:PySem.W.readsIn K C_j9 (.type "type")=true)
  (a_jz:PySem.W.findCls K (.ref C_j9) (.type "type") "__init__"=some (.val (.ref EZ)))
  (l_jz:K.lookup EZ=some ⟨Yg,Yd,.func (PySem.W.fnOf "__init__" "Turns.__init__" (Al EL) (Ak EL) (Ab EL) .none Yh Yi Yj Ye Pu Yk),Yf⟩)
  (c_jz:PySem.W.codeIn K Pu "Turns.__init__"=true)
  (k_jz:PySem.W.keepIn K (.ref EZ)=true)
  (sg_j15:PySem.W.specialIn K (.ref C_jj) "__getattribute__"=some (some (.builtin "type.__getattribute__")))
  (rd_j15:PySem.W.readsIn K C_jj (.type "type")=true)
  (a_j15:PySem.W.findCls K (.ref C_jj) (.type "type") "__init__"=some (.val (.ref FW)))
  (l_j15:K.lookup FW=some ⟨ZZ,ZW,.func (PySem.W.fnOf "__init__" "Hunt.__init__" (Al FT) (Ak FT) (Ab FT) .none Z0 Z5 Z6 ZX RD Z7),ZY⟩)
  (c_j15:PySem.W.codeIn K RD "Hunt.__init__"=true)
  (k_j15:PySem.W.keepIn K (.ref FW)=true)
  (a_jf:PySem.W.findIn K (.ref C_j1) "first_ends"=some (some (.ref Br)))
  (i_jf:PySem.W.isFn K (.ref Br)=true)
  (l_jf:K.lookup Br=some ⟨MO,ML,.func (PySem.W.fnOf "first_ends" "SayHunt.first_ends" (Al BE) (Ak BE) (Ab BE) .none MQ MR MS MM HK MT),MN⟩)
  (c_jf:PySem.W.codeIn K HK "SayHunt.first_ends"=true)
  (k_jf:PySem.W.keepIn K (.ref Br)=true)
  (a_j1e:PySem.W.findIn K (.ref C_j1) "__init__"=some (some (.ref Eb)))
  (i_j1e:PySem.W.isFn K (.ref Eb)=true)
  (l_j1e:K.lookup Eb=some ⟨Yo,Yl,.func (PySem.W.fnOf "__init__" "Asker.__init__" (Al EM) (Ak EM) (Ab EM) .none Yp Yq Yr Ym Px Ys),Yn⟩)
  (c_j1e:PySem.W.codeIn K Px "Asker.__init__"=true)
  (k_j1e:PySem.W.keepIn K (.ref Eb)=true)
  (a_jv:PySem.W.findIn K (.ref C_j4) "__init__"=some (some (.ref Cs)))
  (i_jv:PySem.W.isFn K (.ref Cs)=true)
  (l_jv:K.lookup Cs=some ⟨Sf,Sb,.func (PySem.W.fnOf "__init__" "SayAsker.__init__" (Al C1) (Ak C1) (Ab C1) .none Sg Sh Si Sd KC Sj),Se⟩)
  (c_jv:PySem.W.codeIn K KC "SayAsker.__init__"=true)
  (k_jv:PySem.W.keepIn K (.ref Cs)=true)
  (a_j1a:PySem.W.findIn K (.ref C_j1) "heard"=some (some (.ref D8)))
  (i_j1a:PySem.W.isFn K (.ref D8)=true)
  (l_j1a:K.lookup D8=some ⟨Yw,Yt,.func (PySem.W.fnOf "heard" "Hunt.heard" (Al EO) (Ak EO) (Ab EO) .none Yx Yy Yz Yu Pz YA),Yv⟩)
  (c_j1a:PySem.W.codeIn K Pz "Hunt.heard"=true)
  (k_j1a:PySem.W.keepIn K (.ref D8)=true)
  (a_js:PySem.W.findIn K (.ref C_j4) "heard"=some (some (.ref AK)))
  (i_js:PySem.W.isFn K (.ref AK)=true)
  (l_js:K.lookup AK=some ⟨Rf,Ra,.func (PySem.W.fnOf "heard" "SayAsker.heard" (Al BK) (Ak BK) (Ab BK) .none Rg Rh Ri Rb J5 Rj),Rc⟩)
  (c_js:PySem.W.codeIn K J5 "SayAsker.heard"=true)
  (k_js:PySem.W.keepIn K (.ref AK)=true)
  (a_j1z:PySem.W.nsIn K mainGlobals "_law_big"=some (some (.ref Iu)))
  (l_j1z:K.lookup Iu=some ⟨BS_,BP_,.func (PySem.W.fnOf "_law_big" "_law_big" (Al GZ) (Ak GZ) (Ab GZ) .none BT_ BU_ BV_ BQ_ UL BW_),BR_⟩)
  (c_j1z:PySem.W.codeIn K UL "_law_big"=true)
  (k_j1z:PySem.W.keepIn K (.ref Iu)=true)
  (a_j1t:PySem.W.nsIn K mainGlobals "_law_mark"=some (some (.ref G4)))
  (l_j1t:K.lookup G4=some ⟨Ab_,Z8,.func (PySem.W.fnOf "_law_mark" "_law_mark" (Al FU) (Ak FU) (Ab FU) .none Ac_ Ad_ Ae_ Z9 RE Af_),Aa_⟩)
  (c_j1t:PySem.W.codeIn K RE "_law_mark"=true)
  (k_j1t:PySem.W.keepIn K (.ref G4)=true)
  (a_j1u:PySem.W.nsIn K mainGlobals "_law_talk"=some (some (.ref Ep)))
  (l_j1u:K.lookup Ep=some ⟨Aj_,Ag_,.func (PySem.W.fnOf "_law_talk" "_law_talk" (Al ER) (Ak ER) (Ab ER) .none Ak_ Al_ Am_ Ah_ RF An_),Ai_⟩)
  (c_j1u:PySem.W.codeIn K RF "_law_talk"=true)
  (k_j1u:PySem.W.keepIn K (.ref Ep)=true)
  (a_j1v:PySem.W.nsIn K mainGlobals "_law_word"=some (some (.ref Eo)))
  (l_j1v:K.lookup Eo=some ⟨Ar_,Ao_,.func (PySem.W.fnOf "_law_word" "_law_word" (Al ES) (Ak ES) (Ab ES) .none As_ At_ Au_ Ap_ RG Av_),Aq_⟩)
  (c_j1v:PySem.W.codeIn K RG "_law_word"=true)
  (k_j1v:PySem.W.keepIn K (.ref Eo)=true)
  (a_j1d:PySem.W.nsIn K mainGlobals "_law_new_word"=some (some (.ref D0)))
  (l_j1d:K.lookup D0=some ⟨Sn,Sk,.func (PySem.W.fnOf "_law_new_word" "_law_new_word" (Al C2) (Ak C2) (Ab C2) .none So Sq Sr Sl KD Ss),Sm⟩)
  (c_j1d:PySem.W.codeIn K KD "_law_new_word"=true)
  (k_j1d:PySem.W.keepIn K (.ref D0)=true)
  (a_j1w:PySem.W.nsIn K mainGlobals "_law_deed"=some (some (.ref Er)))
  (l_j1w:K.lookup Er=some ⟨Az_,Aw_,.func (PySem.W.fnOf "_law_deed" "_law_deed" (Al ET) (Ak ET) (Ab ET) .none AA_ AB_ AC_ Ax_ RH AD_),Ay_⟩)
  (c_j1w:PySem.W.codeIn K RH "_law_deed"=true)
  (k_j1w:PySem.W.keepIn K (.ref Er)=true)
  (a_j1m:PySem.W.nsIn K mainGlobals "_law_driven"=some (some (.ref CD)))
  (l_j1m:K.lookup CD=some ⟨VQ,VN,.func (PySem.W.fnOf "_law_driven" "_law_driven" (Al Dn) (Ak Dn) (Ab Dn) .none VR VS VT VO NO VU),VP⟩)
  (c_j1m:PySem.W.codeIn K NO "_law_driven"=true)
  (k_j1m:PySem.W.keepIn K (.ref CD)=true)
  (a_j13:PySem.W.findIn K (.ref C_j1) "access"=some (some (.ref Dy)))
  (i_j13:PySem.W.isFn K (.ref Dy)=true)
  (l_j13:K.lookup Dy=some ⟨VZ,VW,.func (PySem.W.fnOf "access" "Hunt.access" (Al Ej) (Ak Ej) (Ab Ej) .none V0 V1 V2 VX NQ V3),VY⟩)
  (c_j13:PySem.W.codeIn K NQ "Hunt.access"=true)
  (k_j13:PySem.W.keepIn K (.ref Dy)=true)
  (a_jn:PySem.W.findIn K (.ref C_j4) "access"=some (some (.ref B3)))
  (i_jn:PySem.W.isFn K (.ref B3)=true)
  (l_jn:K.lookup B3=some ⟨PL,PD,.func (PySem.W.fnOf "access" "SayAsker.access" (Al Ck) (Ak Ck) (Ab Ck) .none PM PN PQ PH Jl PR),PJ⟩)
  (c_jn:PySem.W.codeIn K Jl "SayAsker.access"=true)
  (k_jn:PySem.W.keepIn K (.ref B3)=true)
  (a_jw:PySem.W.findIn K (.ref C_j1) "tellers"=some (some (.ref CL)))
  (i_jw:PySem.W.isFn K (.ref CL)=true)
  (l_jw:K.lookup CL=some ⟨UP,UM,.func (PySem.W.fnOf "tellers" "Hunt.tellers" (Al DJ) (Ak DJ) (Ab DJ) .none UQ UR US UN MU UT),UO⟩)
  (c_jw:PySem.W.codeIn K MU "Hunt.tellers"=true)
  (k_jw:PySem.W.keepIn K (.ref CL)=true)
  (a_jl:PySem.W.findIn K (.ref C_j4) "tellers"=some (some (.ref BI)))
  (i_jl:PySem.W.isFn K (.ref BI)=true)
  (l_jl:K.lookup BI=some ⟨Ow,Ot,.func (PySem.W.fnOf "tellers" "SayAsker.tellers" (Al B7) (Ak B7) (Ab B7) .none Ox Oy Oz Ou IY OA),Ov⟩)
  (c_jl:PySem.W.codeIn K IY "SayAsker.tellers"=true)
  (k_jl:PySem.W.keepIn K (.ref BI)=true)
  (a_j20:PySem.W.nsIn K mainGlobals "_law_all"=some (some (.ref Fi)))
  (l_j20:K.lookup Fi=some ⟨Ca_,BX_,.func (PySem.W.fnOf "_law_all" "_law_all" (Al F8) (Ak F8) (Ab F8) .none Cb_ Cc_ Cd_ BY_ UU Ce_),BZ_⟩)
  (c_j20:PySem.W.codeIn K UU "_law_all"=true)
  (k_j20:PySem.W.keepIn K (.ref Fi)=true)
  (a_j1i:PySem.W.nsIn K mainGlobals "_law_goes_on"=some (some (.ref EC)))
  (l_j1i:K.lookup EC=some ⟨UZ,UW,.func (PySem.W.fnOf "_law_goes_on" "_law_goes_on" (Al DK) (Ak DK) (Ab DK) .none U0 U1 U2 UX MV U3),UY⟩)
  (c_j1i:PySem.W.codeIn K MV "_law_goes_on"=true)
  (k_j1i:PySem.W.keepIn K (.ref EC)=true)
  (a_ju:PySem.W.nsIn K mainGlobals "_law_show_refuses"=some (some (.ref Cm)))
  (l_ju:K.lookup Cm=some ⟨Nu,Nq,.func (PySem.W.fnOf "_law_show_refuses" "_law_show_refuses" (Al BS) (Ak BS) (Ab BS) .none Nv Nw Nx Nr HY Ny),Nt⟩)
  (c_ju:PySem.W.codeIn K HY "_law_show_refuses"=true)
  (k_ju:PySem.W.keepIn K (.ref Cm)=true)
  (a_j29:PySem.W.nsIn K mainGlobals "law"=some (some (.ref IP_)))
  (l_j29:K.lookup IP_=some ⟨Ky_,Kw_,.func (PySem.W.fnOf "law" "law" (Al WQ) (Ak WQ) (Ab WQ) .none HP_ HQ_ HR_ HO_ FI_ HS_),Kx_⟩)
  (c_j29:PySem.W.codeIn K FI_ "law"=true)
  (k_j29:PySem.W.keepIn K (.ref IP_)=true)
  (z_ValueError:PySem.W.nsIn K mainGlobals "ValueError"=some none)
  (z_all:PySem.W.nsIn K mainGlobals "all"=some none)
  (z_enumerate:PySem.W.nsIn K mainGlobals "enumerate"=some none)
  (z_isinstance:PySem.W.nsIn K mainGlobals "isinstance"=some none)
  (z_len:PySem.W.nsIn K mainGlobals "len"=some none)
  (z_list:PySem.W.nsIn K mainGlobals "list"=some none)
  (z_max:PySem.W.nsIn K mainGlobals "max"=some none)
  (z_range:PySem.W.nsIn K mainGlobals "range"=some none)
  (z_tuple:PySem.W.nsIn K mainGlobals "tuple"=some none)
  (z_zip:PySem.W.nsIn K mainGlobals "zip"=some none)
  (m_j8:PySem.W.nsIn K mainGlobals "AskError"=some (some (.ref C_j8)))
  (m_j5:PySem.W.nsIn K mainGlobals "BadWord"=some (some (.ref C_j5)))
  (m_j6:PySem.W.nsIn K mainGlobals "BadMark"=some (some (.ref C_j6)))
  (m_j3:PySem.W.nsIn K mainGlobals "OutOfTurn"=some (some (.ref C_j3)))
  (m_j2:PySem.W.nsIn K mainGlobals "NoDifference"=some (some (.ref C_j2)))
  (m_j0:PySem.W.nsIn K mainGlobals "Contradiction"=some (some (.ref C_j0)))
  (x_j5:PySem.W.excIn K C_j5 bmV "ValueError.__new__"=true)
  (ga_j5:PySem.W.findIn K (.ref C_j5) "__getattribute__"=some (some (.builtin "BaseException.__getattribute__")))
  (hk_j5:PySem.W.findIn K (.ref C_j5) "__getattr__"=some none)
  {cd_j5:ClassData}
  (cl_j5:PySem.W.clsIn K C_j5=some cd_j5)
  (ca_j5:PySem.W.findIn K (.ref C_j5) "__class__"=some (some (.builtin "object.__class__")))
  (mo_j5:PySem.W.mroIn K C_j5 (.type "object")=some true)
  (mb_j5:PySem.W.mroIn K C_j5 (.type "BaseException")=some true)
  (e_j5:PySem.W.exmOne K (.ref C_j5) (.ref C_j8)=some true)
  (v_j5:PySem.W.kitOne K (.ref C_j5) (.type "ValueError")=some true)
  (ee_j5:PySem.W.exmOne K (.ref C_j5) (.ref C_j5)=some true)
  (k_j5_j8:PySem.W.kitOne K (.ref C_j5) (.ref C_j8)=some true)
  (k_j5_j5:PySem.W.kitOne K (.ref C_j5) (.ref C_j5)=some true)
  (k_j5_j6:PySem.W.kitOne K (.ref C_j5) (.ref C_j6)=some false)
  (k_j5_j3:PySem.W.kitOne K (.ref C_j5) (.ref C_j3)=some false)
  (k_j5_j2:PySem.W.kitOne K (.ref C_j5) (.ref C_j2)=some false)
  (k_j5_j0:PySem.W.kitOne K (.ref C_j5) (.ref C_j0)=some false)
  (x_j6:PySem.W.excIn K C_j6 bmV "ValueError.__new__"=true)
  (ga_j6:PySem.W.findIn K (.ref C_j6) "__getattribute__"=some (some (.builtin "BaseException.__getattribute__")))
  (hk_j6:PySem.W.findIn K (.ref C_j6) "__getattr__"=some none)
  {cd_j6:ClassData}
  (cl_j6:PySem.W.clsIn K C_j6=some cd_j6)
  (ca_j6:PySem.W.findIn K (.ref C_j6) "__class__"=some (some (.builtin "object.__class__")))
  (mo_j6:PySem.W.mroIn K C_j6 (.type "object")=some true)
  (mb_j6:PySem.W.mroIn K C_j6 (.type "BaseException")=some true)
  (e_j6:PySem.W.exmOne K (.ref C_j6) (.ref C_j8)=some true)
  (v_j6:PySem.W.kitOne K (.ref C_j6) (.type "ValueError")=some true)
  (ee_j6:PySem.W.exmOne K (.ref C_j6) (.ref C_j6)=some true)
  (k_j6_j8:PySem.W.kitOne K (.ref C_j6) (.ref C_j8)=some true)
  (k_j6_j5:PySem.W.kitOne K (.ref C_j6) (.ref C_j5)=some false)
  (k_j6_j6:PySem.W.kitOne K (.ref C_j6) (.ref C_j6)=some true)
  (k_j6_j3:PySem.W.kitOne K (.ref C_j6) (.ref C_j3)=some false)
  (k_j6_j2:PySem.W.kitOne K (.ref C_j6) (.ref C_j2)=some false)
  (k_j6_j0:PySem.W.kitOne K (.ref C_j6) (.ref C_j0)=some false)
  (x_j3:PySem.W.excIn K C_j3 bmV "ValueError.__new__"=true)
  (ga_j3:PySem.W.findIn K (.ref C_j3) "__getattribute__"=some (some (.builtin "BaseException.__getattribute__")))
  (hk_j3:PySem.W.findIn K (.ref C_j3) "__getattr__"=some none)
  {cd_j3:ClassData}
  (cl_j3:PySem.W.clsIn K C_j3=some cd_j3)
  (ca_j3:PySem.W.findIn K (.ref C_j3) "__class__"=some (some (.builtin "object.__class__")))
  (mo_j3:PySem.W.mroIn K C_j3 (.type "object")=some true)
  (mb_j3:PySem.W.mroIn K C_j3 (.type "BaseException")=some true)
  (e_j3:PySem.W.exmOne K (.ref C_j3) (.ref C_j8)=some true)
  (v_j3:PySem.W.kitOne K (.ref C_j3) (.type "ValueError")=some true)
  (ee_j3:PySem.W.exmOne K (.ref C_j3) (.ref C_j3)=some true)
  (k_j3_j8:PySem.W.kitOne K (.ref C_j3) (.ref C_j8)=some true)
  (k_j3_j5:PySem.W.kitOne K (.ref C_j3) (.ref C_j5)=some false)
  (k_j3_j6:PySem.W.kitOne K (.ref C_j3) (.ref C_j6)=some false)
  (k_j3_j3:PySem.W.kitOne K (.ref C_j3) (.ref C_j3)=some true)
  (k_j3_j2:PySem.W.kitOne K (.ref C_j3) (.ref C_j2)=some false)
  (k_j3_j0:PySem.W.kitOne K (.ref C_j3) (.ref C_j0)=some false)
  (x_j2:PySem.W.excIn K C_j2 bmV "ValueError.__new__"=true)
  (ga_j2:PySem.W.findIn K (.ref C_j2) "__getattribute__"=some (some (.builtin "BaseException.__getattribute__")))
  (hk_j2:PySem.W.findIn K (.ref C_j2) "__getattr__"=some none)
  {cd_j2:ClassData}
  (cl_j2:PySem.W.clsIn K C_j2=some cd_j2)
  (ca_j2:PySem.W.findIn K (.ref C_j2) "__class__"=some (some (.builtin "object.__class__")))
  (mo_j2:PySem.W.mroIn K C_j2 (.type "object")=some true)
  (mb_j2:PySem.W.mroIn K C_j2 (.type "BaseException")=some true)
  (e_j2:PySem.W.exmOne K (.ref C_j2) (.ref C_j8)=some true)
  (v_j2:PySem.W.kitOne K (.ref C_j2) (.type "ValueError")=some true)
  (ee_j2:PySem.W.exmOne K (.ref C_j2) (.ref C_j2)=some true)
  (k_j2_j8:PySem.W.kitOne K (.ref C_j2) (.ref C_j8)=some true)
  (k_j2_j5:PySem.W.kitOne K (.ref C_j2) (.ref C_j5)=some false)
  (k_j2_j6:PySem.W.kitOne K (.ref C_j2) (.ref C_j6)=some false)
  (k_j2_j3:PySem.W.kitOne K (.ref C_j2) (.ref C_j3)=some false)
  (k_j2_j2:PySem.W.kitOne K (.ref C_j2) (.ref C_j2)=some true)
  (k_j2_j0:PySem.W.kitOne K (.ref C_j2) (.ref C_j0)=some false)
  (x_j0:PySem.W.excIn K C_j0 bmV "ValueError.__new__"=true)
  (ga_j0:PySem.W.findIn K (.ref C_j0) "__getattribute__"=some (some (.builtin "BaseException.__getattribute__")))
  (hk_j0:PySem.W.findIn K (.ref C_j0) "__getattr__"=some none)
  {cd_j0:ClassData}
  (cl_j0:PySem.W.clsIn K C_j0=some cd_j0)
  (ca_j0:PySem.W.findIn K (.ref C_j0) "__class__"=some (some (.builtin "object.__class__")))
  (mo_j0:PySem.W.mroIn K C_j0 (.type "object")=some true)
  (mb_j0:PySem.W.mroIn K C_j0 (.type "BaseException")=some true)
  (e_j0:PySem.W.exmOne K (.ref C_j0) (.ref C_j8)=some true)
  (v_j0:PySem.W.kitOne K (.ref C_j0) (.type "ValueError")=some true)
  (ee_j0:PySem.W.exmOne K (.ref C_j0) (.ref C_j0)=some true)
  (k_j0_j8:PySem.W.kitOne K (.ref C_j0) (.ref C_j8)=some true)
  (k_j0_j5:PySem.W.kitOne K (.ref C_j0) (.ref C_j5)=some false)
  (k_j0_j6:PySem.W.kitOne K (.ref C_j0) (.ref C_j6)=some false)
  (k_j0_j3:PySem.W.kitOne K (.ref C_j0) (.ref C_j3)=some false)
  (k_j0_j2:PySem.W.kitOne K (.ref C_j0) (.ref C_j2)=some false)
  (k_j0_j0:PySem.W.kitOne K (.ref C_j0) (.ref C_j0)=some true)
  (kk_SayAsker_Asker:PySem.W.kitOne K (.ref C_j4) (.ref C_ja)=some false)
  (ka_SayAsker:PySem.W.findIn K (.ref C_j4) "__class__"=some (some (.builtin "object.__class__")))
  (ko_SayAsker:PySem.W.mroIn K C_j4 (.type "object")=some true)
  (gs:PySem.W.specialIn K (.builtin "object.__class__") "__get__"=some (some (.builtin "getset_descriptor.__get__")))
  (tk:PySem.W.takesIn K (.builtin "object.__class__")=some true)
  : ∃fd:FuncData,(∀(s:Shared) (v:Value),BindsTo s fd ⟨[v],[]⟩ [("script",v)])/\∀base:Heap,K.In base->base.Ns mainGlobals mg->FnOk l.prog w K mg base CX0 18 fa fd ["script"] (Gw_ K):=by
 have e:=hfa.symm.trans (PySem.W.mg_of X G a_j29)
 cases e
 have T:Txt mg:=⟨PySem.W.mg_none_of X G z_ValueError,PySem.W.mg_none_of X G z_all,PySem.W.mg_none_of X G z_enumerate,PySem.W.mg_none_of X G z_isinstance,PySem.W.mg_none_of X G z_len,PySem.W.mg_none_of X G z_list,PySem.W.mg_none_of X G z_max,PySem.W.mg_none_of X G z_range,PySem.W.mg_none_of X G z_tuple,PySem.W.mg_none_of X G z_zip⟩
 have Z:Exs K mg C_j8 C_j5 C_j6 C_j3 C_j2 C_j0:=⟨PySem.W.mg_of X G m_j8,PySem.W.mg_of X G m_j5,PySem.W.mg_of X G m_j6,PySem.W.mg_of X G m_j3,PySem.W.mg_of X G m_j2,PySem.W.mg_of X G m_j0,x_j5,⟨ga_j5,hk_j5,by rw[cl_j5];rfl,ca_j5,gs,tk,mo_j5,mb_j5⟩,e_j5,v_j5,ee_j5,k_j5_j8,k_j5_j5,k_j5_j6,k_j5_j3,k_j5_j2,k_j5_j0,x_j6,⟨ga_j6,hk_j6,by rw[cl_j6];rfl,ca_j6,gs,tk,mo_j6,mb_j6⟩,e_j6,v_j6,ee_j6,k_j6_j8,k_j6_j5,k_j6_j6,k_j6_j3,k_j6_j2,k_j6_j0,x_j3,⟨ga_j3,hk_j3,by rw[cl_j3];rfl,ca_j3,gs,tk,mo_j3,mb_j3⟩,e_j3,v_j3,ee_j3,k_j3_j8,k_j3_j5,k_j3_j6,k_j3_j3,k_j3_j2,k_j3_j0,x_j2,⟨ga_j2,hk_j2,by rw[cl_j2];rfl,ca_j2,gs,tk,mo_j2,mb_j2⟩,e_j2,v_j2,ee_j2,k_j2_j8,k_j2_j5,k_j2_j6,k_j2_j3,k_j2_j2,k_j2_j0,x_j0,⟨ga_j0,hk_j0,by rw[cl_j0];rfl,ca_j0,gs,tk,mo_j0,mb_j0⟩,e_j0,v_j0,ee_j0,k_j0_j8,k_j0_j5,k_j0_j6,k_j0_j3,k_j0_j2,k_j0_j0⟩
 have W:Own K mg C_j7 C_j9 C_jj C_ja C_j1 C_j4:=⟨PySem.W.mg_of X G aC_j7,⟨pg_j7,hd_j7,po_j7,sa_j7⟩,n_letters_Book,n_marks_Book,PySem.W.mg_of X G aC_j9,PySem.W.mg_of X G aC_jj,PySem.W.mg_of X G aC_ja,PySem.W.mg_of X G aC_j1,⟨pg_j1,hd_j1,po_j1,sa_j1⟩,n_book_SayHunt,n_ends_SayHunt,n_gaps_SayHunt,n_guess_SayHunt,n_letters_SayHunt,n_most_SayHunt,n_ways_SayHunt,n_wish_SayHunt,n_wrong_SayHunt,PySem.W.mg_of X G aC_j4,⟨pg_j4,hd_j4,po_j4,sa_j4⟩,n_hunt_SayAsker,n_letters_SayAsker,kk_SayAsker_Asker,ka_SayAsker,ko_SayAsker,⟨_,PySem.W.mg_of X G q_j28⟩⟩
 have Ic:=AA (st:=Ee) l_j11 c_j11 k_j11
 have Km:=Ic.binds (ps:=["self"]) fun _ _ _ _ _ _ us hl=>(by obtain⟨y0,rfl⟩:=len1 hl;rfl)
 have Kn:Meth K C_j1 "wants" Dx:=⟨a_j11,i_j11,k_j11⟩
 have Bz:=AA (st:=By) l_jq c_jq k_jq
 have A8:=Bz.binds (ps:=["self"]) fun _ _ _ _ _ _ us hl=>(by obtain⟨y0,rfl⟩:=len1 hl;rfl)
 have A9:Meth K C_j4 "wants" Ar:=⟨a_jq,i_jq,k_jq⟩
 have Aq:=AA (st:=Cj) l_j1s c_j1s k_j1s
 have Aw:=Aq.binds (ps:=["script","k"]) fun _ _ _ _ _ _ us hl=>(by obtain⟨y0,y1,rfl⟩:=len2 hl;rfl)
 have Ax:=PySem.W.mg_of X G a_j1s
 have Lv:=AA (st:=Iz) l_j21 c_j21 k_j21
 have Ti:=Lv.binds (ps:=["letters","word"]) fun _ _ _ _ _ _ us hl=>(by obtain⟨y0,y1,rfl⟩:=len2 hl;rfl)
 have Tj:=PySem.W.mg_of X G a_j21
 have D5:=AA (st:=D1) l_j1o c_j1o k_j1o
 have Ga:=D5.binds (ps:=["letters","word"]) fun _ _ _ _ _ _ us hl=>(by obtain⟨y0,y1,rfl⟩:=len2 hl;rfl)
 have Gb:=PySem.W.mg_of X G a_j1o
 have Lw:=AA (st:=IA) l_j22 c_j22 k_j22
 have To:=Lw.binds (ps:=["number"]) fun _ _ _ _ _ _ us hl=>(by obtain⟨y0,rfl⟩:=len1 hl;rfl)
 have Tp:=PySem.W.mg_of X G a_j22
 have Hr:=AA (st:=EH) l_j1p c_j1p k_j1p
 have LB:=Hr.binds (ps:=["mark"]) fun _ _ _ _ _ _ us hl=>(by obtain⟨y0,rfl⟩:=len1 hl;rfl)
 have LC:=PySem.W.mg_of X G a_j1p
 have Gf:=AA (st:=D2) l_j17 c_j17 k_j17
 have Gg:=Gf.binds (ps:=["self","word","mark"]) fun _ _ _ _ _ _ us hl=>(by obtain⟨y0,y1,y2,rfl⟩:=len3 hl;rfl)
 have Gh:Meth K C_j7 "check" Cq:=⟨a_j17,i_j17,k_j17⟩
 have Ip:=AA (st:=F7) l_j1n c_j1n k_j1n
 have Iq:=Ip.binds (ps:=["self","word","mark"]) fun _ _ _ _ _ _ us hl=>(by obtain⟨y0,y1,y2,rfl⟩:=len3 hl;rfl)
 have Ir:Meth K C_j7 "put" DU:=⟨a_j1n,i_j1n,k_j1n⟩
 have AZ:=AA (st:=AY) l_ji c_ji k_ji
 have AG:=AZ.binds (ps:=["self","deed"]) fun _ _ _ _ _ _ us hl=>(by obtain⟨y0,y1,rfl⟩:=len2 hl;rfl)
 have AH:Meth K C_j1 "check_wants" Am:=⟨a_ji,i_ji,k_ji⟩
 have Lx:=AA (st:=Lp) l_j25 c_j25 k_j25
 have Qa:=Lx.binds (ps:=["house","word"]) fun _ _ _ _ _ _ us hl=>(by obtain⟨y0,y1,rfl⟩:=len2 hl;rfl)
 have Qb:=PySem.W.mg_of X G a_j25
 have EU:=AA (st:=Ef) l_j1j c_j1j k_j1j
 have El:=EU.binds (ps:=["self","word"]) fun _ _ _ _ _ _ us hl=>(by obtain⟨y0,y1,rfl⟩:=len2 hl;rfl)
 have Em:Meth K C_j7 "told" B8:=⟨a_j1j,i_j1j,k_j1j⟩
 have OQ:=AA (st:=J8) l_j24 c_j24 k_j24
 have W4:=OQ.binds (ps:=["book","access","guess","word","mark","last"]) fun _ _ _ _ _ _ us hl=>(by obtain⟨y0,y1,y2,y3,y4,y5,rfl⟩:=len6 hl;rfl)
 have W5:=PySem.W.mg_of X G a_j24
 have Hi:=AA (st:=DG) l_jx c_jx k_jx
 have Js:=Hi.binds (ps:=["self","words"]) fun _ _ _ _ _ _ us hl=>(by obtain⟨y0,y1,rfl⟩:=len2 hl;rfl)
 have Jt:Meth K C_j1 "ask_for" CJ:=⟨a_jx,i_jx,k_jx⟩
 have Hs:=AA (st:=Ho) l_j23 c_j23 k_j23
 have JS:=Hs.binds (ps:=["letters","access"]) fun _ _ _ _ _ _ us hl=>(by obtain⟨y0,y1,rfl⟩:=len2 hl;rfl)
 have JT:=PySem.W.mg_of X G a_j23
 have TH:=AA (st:=NV) l_j26 c_j26 k_j26
 have Bk_:=TH.binds (ps:=["letters","access","ends"]) fun _ _ _ _ _ _ us hl=>(by obtain⟨y0,y1,y2,rfl⟩:=len3 hl;rfl)
 have Bl_:=PySem.W.mg_of X G a_j26
 have Be:=AA (st:=AU) l_jc c_jc k_jc
 have AW:=Be.binds (ps:=["self"]) fun _ _ _ _ _ _ us hl=>(by obtain⟨y0,rfl⟩:=len1 hl;rfl)
 have AX:Meth K C_j1 "look_for_gaps" An:=⟨a_jc,i_jc,k_jc⟩
 have BY:=AA (st:=BU) l_j10 c_j10 k_j10
 have CQ:=BY.binds (ps:=["word"]) fun _ _ _ _ _ _ us hl=>(by obtain⟨y0,rfl⟩:=len1 hl;rfl)
 have CT:=PySem.W.mg_of X G a_j10
 have Y2:=AA (st:=S8) l_j27 c_j27 k_j27
 have Fi_:=Y2.binds (ps:=["house","word"]) fun _ _ _ _ _ _ us hl=>(by obtain⟨y0,y1,rfl⟩:=len2 hl;rfl)
 have Fj_:=PySem.W.mg_of X G a_j27
 have DL:=AA (st:=Eg) l_j1r c_j1r k_j1r
 have EX:=DL.binds (ps:=["house","word"]) fun _ _ _ _ _ _ us hl=>(by obtain⟨y0,y1,rfl⟩:=len2 hl;rfl)
 have EY:=PySem.W.mg_of X G a_j1r
 have Dc:=AA (st:=Cc) l_jp c_jp k_jp
 have Dd:=Dc.binds (ps:=["self","house","word"]) fun _ _ _ _ _ _ us hl=>(by obtain⟨y0,y1,y2,rfl⟩:=len3 hl;rfl)
 have De:Meth K C_j1 "answer" Bi:=⟨a_jp,i_jp,k_jp⟩
 have Ib:=AA (st:=Eh) l_j14 c_j14 k_j14
 have Kh:=Ib.binds (ps:=["self"]) fun _ _ _ _ _ _ us hl=>(by obtain⟨y0,rfl⟩:=len1 hl;rfl)
 have Ki:Meth K C_j1 "halve" Dr:=⟨a_j14,i_j14,k_j14⟩
 have JU:=AA (st:=GX) l_j1x c_j1x k_j1x
 have Qd:=JU.binds (ps:=["book","word","ends"]) fun _ _ _ _ _ _ us hl=>(by obtain⟨y0,y1,y2,rfl⟩:=len3 hl;rfl)
 have Qe:=PySem.W.mg_of X G a_j1x
 have CI:=AA (st:=CG) l_j1f c_j1f k_j1f
 have Ew:=CI.binds (ps:=["book","letters","access","ends"]) fun _ _ _ _ _ _ us hl=>(by obtain⟨y0,y1,y2,y3,rfl⟩:=len4 hl;rfl)
 have Ex:=PySem.W.mg_of X G a_j1f
 have E1:=AA (st:=C0) l_j1c c_j1c k_j1c
 have IH:=E1.binds (ps:=["letters","access","marks"]) fun _ _ _ _ _ _ us hl=>(by obtain⟨y0,y1,y2,rfl⟩:=len3 hl;rfl)
 have II:=PySem.W.mg_of X G a_j1c
 have DM:=AA (st:=BB) l_jg c_jg k_jg
 have Fs:=DM.binds (ps:=["self"]) fun _ _ _ _ _ _ us hl=>(by obtain⟨y0,rfl⟩:=len1 hl;rfl)
 have Ft:Meth K C_j1 "make_guess" Bo:=⟨a_jg,i_jg,k_jg⟩
 have Gk:=AA (st:=D3) l_j18 c_j18 k_j18
 have Gm:=Gk.binds (ps:=["self"]) fun _ _ _ _ _ _ us hl=>(by obtain⟨y0,rfl⟩:=len1 hl;rfl)
 have Gn:Meth K C_j7 "heard" Cr:=⟨a_j18,i_j18,k_j18⟩
 have FG:=AA (st:=DH) l_j1g c_j1g k_j1g
 have Jv:=FG.binds (ps:=["heard","answer","house"]) fun _ _ _ _ _ _ us hl=>(by obtain⟨y0,y1,y2,rfl⟩:=len3 hl;rfl)
 have Jw:=PySem.W.mg_of X G a_j1g
 have DO:=AA (st:=BC) l_jh c_jh k_jh
 have Fv:=DO.binds (ps:=["self"]) fun _ _ _ _ _ _ us hl=>(by obtain⟨y0,rfl⟩:=len1 hl;rfl)
 have Fw:Meth K C_j1 "wrong_word" Bp:=⟨a_jh,i_jh,k_jh⟩
 have DQ:=AA (st:=BD) l_je c_je k_je
 have Fy:=DQ.binds (ps:=["self"]) fun _ _ _ _ _ _ us hl=>(by obtain⟨y0,rfl⟩:=len1 hl;rfl)
 have Fz:Meth K C_j1 "look_at_guess" Bq:=⟨a_je,i_je,k_je⟩
 have JV:=AA (st:=GY) l_j1y c_j1y k_j1y
 have Qk:=JV.binds (ps:=["book","letters","access","ends"]) fun _ _ _ _ _ _ us hl=>(by obtain⟨y0,y1,y2,y3,rfl⟩:=len4 hl;rfl)
 have Ql:=PySem.W.mg_of X G a_j1y
 have Ds:=AA (st:=Bv) l_jd c_jd k_jd
 have E3:=Ds.binds (ps:=["self"]) fun _ _ _ _ _ _ us hl=>(by obtain⟨y0,rfl⟩:=len1 hl;rfl)
 have E4:Meth K C_j1 "look_at_words" Bf:=⟨a_jd,i_jd,k_jd⟩
 have FL:=AA (st:=Cu) l_jo c_jo k_jo
 have FN:=FL.binds (ps:=["self"]) fun _ _ _ _ _ _ us hl=>(by obtain⟨y0,rfl⟩:=len1 hl;rfl)
 have FO:Meth K C_j1 "next_wish" Ce:=⟨a_jo,i_jo,k_jo⟩
 have Du:=AA (st:=Cw) l_j12 c_j12 k_j12
 have Cz:=Du.binds (ps:=["self"]) fun _ _ _ _ _ _ us hl=>(by obtain⟨y0,rfl⟩:=len1 hl;rfl)
 have CC:Meth K C_j1 "go_on" Bt:=⟨a_j12,i_j12,k_j12⟩
 have ED:=AA (st:=B6) l_jk c_jk k_jk
 have GA:=ED.binds (ps:=["self","number"]) fun _ _ _ _ _ _ us hl=>(by obtain⟨y0,y1,rfl⟩:=len2 hl;rfl)
 have GC:Meth K C_j1 "keep_answer" BH:=⟨a_jk,i_jk,k_jk⟩
 have Jf:=AA (st:=EJ) l_j1b c_j1b k_j1b
 have LY:=Jf.binds (ps:=["self","mark"]) fun _ _ _ _ _ _ us hl=>(by obtain⟨y0,y1,rfl⟩:=len2 hl;rfl)
 have LZ:Meth K C_j1 "hear" D9:=⟨a_j1b,i_j1b,k_j1b⟩
 have DW:=AA (st:=Cp) l_jt c_jt k_jt
 have DX:=DW.binds (ps:=["self","mark"]) fun _ _ _ _ _ _ us hl=>(by obtain⟨y0,y1,rfl⟩:=len2 hl;rfl)
 have DY:Meth K C_j4 "hear" Bx:=⟨a_jt,i_jt,k_jt⟩
 have Bj:=AA (st:=BJ) l_j16 c_j16 k_j16
 have BN:=Bj.binds (ps:=["e"]) fun _ _ _ _ _ _ us hl=>(by obtain⟨y0,rfl⟩:=len1 hl;rfl)
 have BO:=PySem.W.mg_of X G a_j16
 have Ct:=AA (st:=D4) l_j1q c_j1q k_j1q
 have DD:=Ct.binds (ps:=["asker","mark"]) fun _ _ _ _ _ _ us hl=>(by obtain⟨y0,y1,rfl⟩:=len2 hl;rfl)
 have DE:=PySem.W.mg_of X G a_j1q
 have Jg:=AA (st:=EK) l_j19 c_j19 k_j19
 have L4:=Jg.binds (ps:=["self"]) fun _ _ _ _ _ _ us hl=>(by obtain⟨y0,rfl⟩:=len1 hl;rfl)
 have L5:Meth K C_j1 "agree" Ea:=⟨a_j19,i_j19,k_j19⟩
 have Dh:=AA (st:=Cd) l_jr c_jr k_jr
 have Di:=Dh.binds (ps:=["self"]) fun _ _ _ _ _ _ us hl=>(by obtain⟨y0,rfl⟩:=len1 hl;rfl)
 have Dj:Meth K C_j4 "agree" Bl:=⟨a_jr,i_jr,k_jr⟩
 have Fl:=AA (st:=Ei) l_j1l c_j1l k_j1l
 have Ih:=Fl.binds (ps:=["asker"]) fun _ _ _ _ _ _ us hl=>(by obtain⟨y0,rfl⟩:=len1 hl;rfl)
 have Ii:=PySem.W.mg_of X G a_j1l
 have Dv:=AA (st:=Bw) l_jb c_jb k_jb
 have E6:=Dv.binds (ps:=["self","word","number"]) fun _ _ _ _ _ _ us hl=>(by obtain⟨y0,y1,y2,rfl⟩:=len3 hl;rfl)
 have E7:Meth K C_j1 "keep_objection" Bg:=⟨a_jb,i_jb,k_jb⟩
 have Hk:=AA (st:=DI) l_jy c_jy k_jy
 have JC:=Hk.binds (ps:=["self","word","mark"]) fun _ _ _ _ _ _ us hl=>(by obtain⟨y0,y1,y2,rfl⟩:=len3 hl;rfl)
 have JD:Meth K C_j1 "differ" CM:=⟨a_jy,i_jy,k_jy⟩
 have CV:=AA (st:=BX) l_jm c_jm k_jm
 have CW:=CV.binds (ps:=["self","word","mark"]) fun _ _ _ _ _ _ us hl=>(by obtain⟨y0,y1,y2,rfl⟩:=len3 hl;rfl)
 have CY:Meth K C_j4 "differ" Bb:=⟨a_jm,i_jm,k_jm⟩
 have AB:=AA (st:=CH) l_j1h c_j1h k_j1h
 have AN:=AB.binds (ps:=["asker","word","mark"]) fun _ _ _ _ _ _ us hl=>(by obtain⟨y0,y1,y2,rfl⟩:=len3 hl;rfl)
 have AO:=PySem.W.mg_of X G a_j1h
 have Kj:=AA (st:=FQ) l_j1k c_j1k k_j1k
 have N5:=Kj.binds (ps:=["self","letters"]) fun _ _ _ _ _ _ us hl=>(by obtain⟨y0,y1,rfl⟩:=len2 hl;rfl)
 have N6:Mk K C_j7 E8:=⟨mk_j7,a_j1k,i_j1k,kc_j7⟩
 have Jd:=AA (st:=EL) l_jz c_jz k_jz
 have LH:=Jd.binds (ps:=["self"]) fun _ _ _ _ _ _ us hl=>(by obtain⟨y0,rfl⟩:=len1 hl;rfl)
 have LI:CMeth K C_j9 "__init__" EZ:=⟨sg_jz,rd_jz,a_jz,k_jz⟩
 have Kk:=AA (st:=FT) l_j15 c_j15 k_j15
 have N8:=Kk.binds (ps:=["self","letters","most","book","ways","ends"]) fun _ _ _ _ _ _ us hl=>(by obtain⟨y0,y1,y2,y3,y4,y5,rfl⟩:=len6 hl;rfl)
 have N9:CMeth K C_jj "__init__" FW:=⟨sg_j15,rd_j15,a_j15,k_j15⟩
 have DR:=AA (st:=BE) l_jf c_jf k_jf
 have FC:=DR.binds (ps:=["self","letters"]) fun _ _ _ _ _ _ us hl=>(by obtain⟨y0,y1,rfl⟩:=len2 hl;rfl)
 have FD:Meth K C_j1 "first_ends" Br:=⟨a_jf,i_jf,k_jf⟩
 have Jh:=AA (st:=EM) l_j1e c_j1e k_j1e
 have L8:=Jh.binds (ps:=["self","letters","most"]) fun _ _ _ _ _ _ us hl=>(by obtain⟨y0,y1,y2,rfl⟩:=len3 hl;rfl)
 have L9:Mk K C_j1 Eb:=⟨mk_j1,a_j1e,i_j1e,kc_j1⟩
 have GH:=AA (st:=C1) l_jv c_jv k_jv
 have IU:=GH.binds (ps:=["self","letters","most"]) fun _ _ _ _ _ _ us hl=>(by obtain⟨y0,y1,y2,rfl⟩:=len3 hl;rfl)
 have IV:Mk K C_j4 Cs:=⟨mk_j4,a_jv,i_jv,kc_j4⟩
 have Je:=AA (st:=EO) l_j1a c_j1a k_j1a
 have LV:=Je.binds (ps:=["self"]) fun _ _ _ _ _ _ us hl=>(by obtain⟨y0,rfl⟩:=len1 hl;rfl)
 have LW:Meth K C_j1 "heard" D8:=⟨a_j1a,i_j1a,k_j1a⟩
 have Cf:=AA (st:=BK) l_js c_js k_js
 have BQ:=Cf.binds (ps:=["self"]) fun _ _ _ _ _ _ us hl=>(by obtain⟨y0,rfl⟩:=len1 hl;rfl)
 have BR:Meth K C_j4 "heard" AK:=⟨a_js,i_js,k_js⟩
 have JY:=AA (st:=GZ) l_j1z c_j1z k_j1z
 have Qt:=JY.binds (ps:=["script","k"]) fun _ _ _ _ _ _ us hl=>(by obtain⟨y0,y1,rfl⟩:=len2 hl;rfl)
 have Qu:=PySem.W.mg_of X G a_j1z
 have IL:=AA (st:=FU) l_j1t c_j1t k_j1t
 have Od:=IL.binds (ps:=["cell"]) fun _ _ _ _ _ _ us hl=>(by obtain⟨y0,rfl⟩:=len1 hl;rfl)
 have Oe:=PySem.W.mg_of X G a_j1t
 have Fb:=AA (st:=ER) l_j1u c_j1u k_j1u
 have G9:=Fb.binds (ps:=["house","word"]) fun _ _ _ _ _ _ us hl=>(by obtain⟨y0,y1,rfl⟩:=len2 hl;rfl)
 have Ha:=PySem.W.mg_of X G a_j1u
 have E9:=AA (st:=ES) l_j1v c_j1v k_j1v
 have G2:=E9.binds (ps:=["script","at","letters","many"]) fun _ _ _ _ _ _ us hl=>(by obtain⟨y0,y1,y2,y3,rfl⟩:=len4 hl;rfl)
 have G3:=PySem.W.mg_of X G a_j1v
 have Fc:=AA (st:=C2) l_j1d c_j1d k_j1d
 have IP:=Fc.binds (ps:=["script","at","letters","heard"]) fun _ _ _ _ _ _ us hl=>(by obtain⟨y0,y1,y2,y3,rfl⟩:=len4 hl;rfl)
 have IQ:=PySem.W.mg_of X G a_j1d
 have Es:=AA (st:=ET) l_j1w c_j1w k_j1w
 have FY:=Es.binds (ps:=["asker","script","letters","turn"]) fun _ _ _ _ _ _ us hl=>(by obtain⟨y0,y1,y2,y3,rfl⟩:=len4 hl;rfl)
 have FZ:=PySem.W.mg_of X G a_j1w
 have DA:=AA (st:=Dn) l_j1m c_j1m k_j1m
 have Fg:=DA.binds (ps:=["script","letters","turns"]) fun _ _ _ _ _ _ us hl=>(by obtain⟨y0,y1,y2,rfl⟩:=len3 hl;rfl)
 have Fh:=PySem.W.mg_of X G a_j1m
 have Ie:=AA (st:=Ej) l_j13 c_j13 k_j13
 have Kp:=Ie.binds (ps:=["self"]) fun _ _ _ _ _ _ us hl=>(by obtain⟨y0,rfl⟩:=len1 hl;rfl)
 have Kq:Meth K C_j1 "access" Dy:=⟨a_j13,i_j13,k_j13⟩
 have Fe:=AA (st:=Ck) l_jn c_jn k_jn
 have Hc:=Fe.binds (ps:=["self"]) fun _ _ _ _ _ _ us hl=>(by obtain⟨y0,rfl⟩:=len1 hl;rfl)
 have Hd:Meth K C_j4 "access" B3:=⟨a_jn,i_jn,k_jn⟩
 have Hj:=AA (st:=DJ) l_jw c_jw k_jw
 have Jy:=Hj.binds (ps:=["self"]) fun _ _ _ _ _ _ us hl=>(by obtain⟨y0,rfl⟩:=len1 hl;rfl)
 have Jz:Meth K C_j1 "tellers" CL:=⟨a_jw,i_jw,k_jw⟩
 have EE:=AA (st:=B7) l_jl c_jl k_jl
 have GF:=EE.binds (ps:=["self"]) fun _ _ _ _ _ _ us hl=>(by obtain⟨y0,rfl⟩:=len1 hl;rfl)
 have GG:Meth K C_j4 "tellers" BI:=⟨a_jl,i_jl,k_jl⟩
 have Dk:=AA (st:=F8) l_j20 c_j20 k_j20
 have EA:=Dk.binds (ps:=["asker"]) fun _ _ _ _ _ _ us hl=>(by obtain⟨y0,rfl⟩:=len1 hl;rfl)
 have EB:=PySem.W.mg_of X G a_j20
 have FJ:=AA (st:=DK) l_j1i c_j1i k_j1i
 have JF:=FJ.binds (ps:=["asker","script","letters","turns"]) fun _ _ _ _ _ _ us hl=>(by obtain⟨y0,y1,y2,y3,rfl⟩:=len4 hl;rfl)
 have JG:=PySem.W.mg_of X G a_j1i
 have C3:=AA (st:=BS) l_ju c_ju k_ju
 have F1:=C3.binds (ps:=["asker","script","letters","odd"]) fun _ _ _ _ _ _ us hl=>(by obtain⟨y0,y1,y2,y3,rfl⟩:=len4 hl;rfl)
 have F2:=PySem.W.mg_of X G a_ju
 have Kz_:=AA (st:=WQ) l_j29 c_j29 k_j29
 have KO_:=Kz_.binds (ps:=["script"]) fun _ _ _ _ _ _ us hl=>(by obtain⟨y0,rfl⟩:=len1 hl;rfl)
 have KP_:=PySem.W.mg_of X G a_j29
 refine⟨PySem.W.fnOf "law" "law" (Al WQ) (Ak WQ) (Ab WQ) .none HP_ HQ_ HR_ HO_ FI_ HS_,fun s v=>.of_eq rfl,fun base _ _=>?_⟩
 have Kl:=U9 (P:=l.prog) (w:=w) (base:=base) Ic T W Z
 have A7:=Qn (P:=l.prog) (w:=w) (base:=base) Bz T W Z Kl Ic Km Kn
 have Av:=Zd (P:=l.prog) (w:=w) (base:=base) Aq T W Z
 have Th:=Dh_ (P:=l.prog) (w:=w) (base:=base) Lv T W Z
 have F9:=WT (P:=l.prog) (w:=w) (base:=base) D5 T W Z Th Lv Ti Tj
 have Tn:=Di_ (P:=l.prog) (w:=w) (base:=base) Lw T W Z
 have LA:=WU (P:=l.prog) (w:=w) (base:=base) Hr T W Z Tn Lw To Tp
 have Ge:=WV (P:=l.prog) (w:=w) (base:=base) Gf T W Z F9 D5 Ga Gb LA Hr LB LC
 have Io:=AZ_ (P:=l.prog) (w:=w) (base:=base) Ip T W Z Ge Gf Gg Gh
 have AF:=Nf (P:=l.prog) (w:=w) (base:=base) AZ T W Z
 have P9:=Go_ (P:=l.prog) (w:=w) (base:=base) Lx T W Z F9 D5 Ga Gb
 have Ek:=Y4 (P:=l.prog) (w:=w) (base:=base) EU T W Z
 have W3:=Fv_ (P:=l.prog) (w:=w) (base:=base) OQ T W Z P9 Lx Qa Qb Ek EU El Em
 have Jr:=TF (P:=l.prog) (w:=w) (base:=base) Hi T W Z Ek EU El Em
 have JQ:=Dk_ (P:=l.prog) (w:=w) (base:=base) Hs T W Z
 have Bj_:=Gp_ (P:=l.prog) (w:=w) (base:=base) TH T W Z JQ Hs JS JT
 have AV:=KL (P:=l.prog) (w:=w) (base:=base) Be T W Z Jr Hi Js Jt Bj_ TH Bk_ Bl_
 have CP:=OK (P:=l.prog) (w:=w) (base:=base) BY T W Z
 have Fg_:=IK_ (P:=l.prog) (w:=w) (base:=base) Y2 T W Z P9 Lx Qa Qb
 have EW:=Y1 (P:=l.prog) (w:=w) (base:=base) DL T W Z CP BY CQ CT Fg_ Y2 Fi_ Fj_
 have C9:=Qi (P:=l.prog) (w:=w) (base:=base) Dc T W Z EW DL EX EY
 have Kg:=Vb (P:=l.prog) (w:=w) (base:=base) Ib T W Z W3 OQ W4 W5 AV Be AW AX C9 Dc Dd De
 have Qc:=Bb_ (P:=l.prog) (w:=w) (base:=base) JU T W Z Ek EU El Em
 have Eu:=Ts (P:=l.prog) (w:=w) (base:=base) CI T W Z JQ Hs JS JT Qc JU Qd Qe
 have IG:=RM (P:=l.prog) (w:=w) (base:=base) E1 T W Z
 have Fq:=LM (P:=l.prog) (w:=w) (base:=base) DM T W Z Eu CI Ew Ex IG E1 IH II
 have Gj:=WW (P:=l.prog) (w:=w) (base:=base) Gk T W Z
 have Ju:=TB (P:=l.prog) (w:=w) (base:=base) FG T W Z EW DL EX EY
 have Fu:=LN (P:=l.prog) (w:=w) (base:=base) DO T W Z EW DL EX EY Gj Gk Gm Gn Ju FG Jv Jw
 have Fx:=LP (P:=l.prog) (w:=w) (base:=base) DQ T W Z Fq DM Fs Ft Fu DO Fv Fw
 have Qj:=Bd_ (P:=l.prog) (w:=w) (base:=base) JV T W Z Eu CI Ew Ex
 have E2:=KN (P:=l.prog) (w:=w) (base:=base) Ds T W Z AV Be AW AX Fx DQ Fy Fz Qj JV Qk Ql
 have FK:=Qm (P:=l.prog) (w:=w) (base:=base) FL T W Z Kg Ib Kh Ki E2 Ds E3 E4
 have Cy:=Vc (P:=l.prog) (w:=w) (base:=base) Du T W Z FK FL FN FO
 have Gz:=N3 (P:=l.prog) (w:=w) (base:=base) ED T W Z Io Ip Iq Ir AF AZ AG AH Cy Du Cz CC
 have LX:=W9 (P:=l.prog) (w:=w) (base:=base) Jf T W Z Gz ED GA GC
 have DV:=RP (P:=l.prog) (w:=w) (base:=base) DW T W Z LX Jf LY LZ
 have BL:=Qr (P:=l.prog) (w:=w) (base:=base) Bj T W Z
 have DB:=Xd (P:=l.prog) (w:=w) (base:=base) Ct T W Z DV DW DX DY BL Bj BN BO
 have L3:=W8 (P:=l.prog) (w:=w) (base:=base) Jg T W Z AF AZ AG AH
 have Df:=Qp (P:=l.prog) (w:=w) (base:=base) Dh T W Z L3 Jg L4 L5
 have Ig:=Vd (P:=l.prog) (w:=w) (base:=base) Fl T W Z BL Bj BN BO Df Dh Di Dj
 have E5:=KO (P:=l.prog) (w:=w) (base:=base) Dv T W Z Ge Gf Gg Gh Io Ip Iq Ir AF AZ AG AH C9 Dc Dd De Cy Du Cz CC
 have JA:=TL (P:=l.prog) (w:=w) (base:=base) Hk T W Z E5 Dv E6 E7
 have CU:=OX (P:=l.prog) (w:=w) (base:=base) CV T W Z AF AZ AG AH CP BY CQ CT JA Hk JC JD
 have AM:=TR (P:=l.prog) (w:=w) (base:=base) AB T W Z BL Bj BN BO CU CV CW CY
 have N4:=Y3 (P:=l.prog) (w:=w) (base:=base) Kj T W Z
 have LG:=WZ (P:=l.prog) (w:=w) (base:=base) Jd T W Z
 have N7:=Y8 (P:=l.prog) (w:=w) (base:=base) Kk T W Z LG Jd LH LI
 have FA:=LL (P:=l.prog) (w:=w) (base:=base) DR T W Z
 have L7:=Xa (P:=l.prog) (w:=w) (base:=base) Jh T W Z AV Be AW AX Cy Du Cz CC N4 Kj N5 N6 N7 Kk N8 N9 FA DR FC FD
 have IT:=RQ (P:=l.prog) (w:=w) (base:=base) GH T W Z L7 Jh L8 L9
 have LU:=W0 (P:=l.prog) (w:=w) (base:=base) Je T W Z Gj Gk Gm Gn
 have BP:=Qo (P:=l.prog) (w:=w) (base:=base) Cf T W Z LU Je LV LW
 have Qs:=Bn_ (P:=l.prog) (w:=w) (base:=base) JY T W Z Av Aq Aw Ax
 have Oc:=Zg (P:=l.prog) (w:=w) (base:=base) IL T W Z
 have G8:=Zl (P:=l.prog) (w:=w) (base:=base) Fb T W Z
 have G1:=Zi (P:=l.prog) (w:=w) (base:=base) E9 T W Z Av Aq Aw Ax
 have IM:=RS (P:=l.prog) (w:=w) (base:=base) Fc T W Z Av Aq Aw Ax G1 E9 G2 G3
 have FX:=Zm (P:=l.prog) (w:=w) (base:=base) Es T W Z A7 Bz A8 A9 Av Aq Aw Ax DV DW DX DY Df Dh Di Dj CU CV CW CY BP Cf BQ BR Qs JY Qt Qu Oc IL Od Oe G8 Fb G9 Ha IM Fc IP IQ
 have Ff:=Vf (P:=l.prog) (w:=w) (base:=base) DA T W Z Av Aq Aw Ax IT GH IU IV FX Es FY FZ
 have Ko:=Va (P:=l.prog) (w:=w) (base:=base) Ie T W Z
 have Hb:=OR (P:=l.prog) (w:=w) (base:=base) Fe T W Z Ko Ie Kp Kq
 have Jx:=TC (P:=l.prog) (w:=w) (base:=base) Hj T W Z
 have GD:=Oa (P:=l.prog) (w:=w) (base:=base) EE T W Z Jx Hj Jy Jz
 have Ez:=Bq_ (P:=l.prog) (w:=w) (base:=base) Dk T W Z A7 Bz A8 A9 BP Cf BQ BR Hb Fe Hc Hd GD EE GF GG
 have JE:=TX (P:=l.prog) (w:=w) (base:=base) FJ T W Z FX Es FY FZ Ff DA Fg Fh Ez Dk EA EB
 have F0:=Ng (P:=l.prog) (w:=w) (base:=base) C3 T W Z A7 Bz A8 A9 Av Aq Aw Ax DB Ct DD DE AM AB AN AO BP Cf BQ BR G8 Fb G9 Ha G1 E9 G2 G3
 have KN_:=Kv_ (P:=l.prog) (w:=w) (base:=base) Kz_ T W Z A7 Bz A8 A9 Av Aq Aw Ax DB Ct DD DE Ig Fl Ih Ii AM AB AN AO Ff DA Fg Fh Ez Dk EA EB JE FJ JF JG F0 C3 F1 F2
 exact KN_
theorem walk {l:PySem.W.OpenLaw}{q:Program}{loose:List Str}{XP:(Str->Option Value)->Heap->Prop}{YP:World->Heap->Prop}{d:DefRec}{K:Params->PySem.W.Frag}(hn:l.most=some 63)(hdf:d.params.defaults=[])
  (hY:∀(w:World) (h:Heap),YP w h->(K w.params).In h)
  (F:∀(w:World) (mg:Str->Option Value) (fa:Addr) (h:Heap),(K w.params).In h->h.Ns mainGlobals mg->mg d.name=some (.ref fa) ->
   ∃fd:FuncData,(∀(s:Shared) (u:Value),BindsTo s fd ⟨[u],[]⟩ [("script",u)])/\∀base:Heap,(K w.params).In base->base.Ns mainGlobals mg->FnOk l.prog w (K w.params) mg base CX0 18 fa fd ["script"] (Gw_ (K w.params))):
  PySem.W.WalkO q loose XP YP l.row.toRowW d [] (fun f vs=>PySem.call f vs):=
 L2.walk_of (n:=63) (k:=18) (x := "script") (CX:=fun _=>CX0) (sp:=fun w=>Gw_ (K w.params)) hn (by decide) hdf ⟨rfl,by decide,by decide⟩ hY F (fun _ _ a ns hl _ hS=>⟨a,ns,rfl,hS,hl,fun _=>rfl⟩) fun _ _ _ _ _ z=>z
end Mine
structure PySem.W.Fast:Prop where (tw2720472532033177400 tw16489317039771417505 tw930228170944093363 tw12193863189552626375 tw12272312439289474279 tw17764131124593132335 tw4145775327932248050 tw9133770287918018484 tw9491328458890241273 tw16963075738673260358 tw1201404497714897179 tw8169777957265793514 tw8551935699918234333 tw8725186577216629167 tw17950592674960740447 tw12724387475627762914 tw2493356045608858139 tw7588274563925680503 tw28108845390437944 tw13046938385907118592 tw14732513015987230725 tw1959177524427890998 tw7978105694962053724 tw673782717862003588 tw8709068274178932227 tw10827097001892142344 tw8965327281216206654 tw1650507727616593552 tw3331089877878085598 tw17078813978221030984 tw3432871171650015663 tw10847364364532677096 tw11297868955565086373 tw14847698343820781594 tw15835610237103966198 tw5565230350975618542 tw1502107094684905995 tw17098087715220951972 tw7887041852654993298 tw10385275771017335421 tw2932590393966931231 tw3185816916583088868 tw5318976093238289360 tw6036996445554282097 tw1842782697858765540 tw14110697355808899994 tw262959594542550470 tw1328031120023528018 tw2950456089144762936 tw1544895705370663768 tw13962202077434420656 tw6343535800625131809 tw535817188323080205 tw4740923791992527493 tw16776987115792009681 tw9645104620571666467 tw8474079475144462566 tw14028799684456069799 tw11444819877765777598 tw3780381558632365922 tw18342967813324721730 tw401106548946359838 tw14323616986736897275 tw7000625798555425609 tw6732475786286155861 tw810865724813040712 tw13507855588354361071 tw14783977623989728931 tw1864616988034487303 tw14839228964814271826 tw6183740426494127104 tw2995663792511852584 tw8126705473939615763 tw15236495749022425658 tw8610337120002941516 tw2085626901548577562 tw10926540906112951428 tw12351472187117105506 tw15559197616769583631 tw15336785677365192922 tw14272853330220389645 tw16148785161460649015 tw6567671289596165633 tw9776179271230455854 tw16419855777606093148 tw8949341951043665176 tw14018675180312735558 tw13928191308023258327 tw9385072373807884610 tw11265711104418450493 tw2787556075836406080 tw1784895225977936456 tw5905908838575079676 tw15121143801298827818 tw6820061516805745525 tw10006995252239864502 tw12910266114503205255 tw4458682730648984477 tw5048126849630305722 tw8154357387895984098 tw2545353474148626311 tw18059139261537858308 tw13842207026974303836 tw15378880270637608874 tw3341205790096290852 tw16644085170771468950 tw11787307258822920513 tw1261532640132143044 tw76288048994633635 tw809861981802666528 tw3677565768923220698 tw13310932560641560137 tw12055233523604958500 tw923824310232045161 tw8325033916005586090 tw2290182648235475346 tw13454435084354017577 tw3404381338175162304 tw6369999113419069338 tw12893391335949018908 tw16233598193720838376 tw10273017801903984255 tw6724163790467027040 tw18008441617306095580 tw12199929835188954383 tw12738166232753608207 tw1483695083223308695 tw5044008354649901543 tw15896165477698725732 tw8882963913139378609 tw13227522889974005177 tw18284493858880854071 tw9122487495409291805 tw1336178573741702972 tw2513653230312547860 tw14175640864607994917 tw17170021758150528673 tw8627547853789052016 tw9376745969809683862 tw7387811428483182018 tw3984664427920112430 tw5629667977032981795 tw12241212002491934173 tw13147404264582301705 tw5765500513520695160 tw11347338535652625370 tw3563906390491407551 tw16765275576675471943 tw12512785868019608698 tw5969236421591159753 tw8087160649715224671 tw12245148434657696380 tw7300362459146704968 tw5764391743402537816 tw16202045285804987846 tw10447916583446346722 tw11302766798563987260 tw17282063797576536874 tw2487827247083741250 tw359084624885342970 tw18260950487289244473 tw12302739107111905624 tw10896515309427627927 tw12121974582595978200 tw1551587323488556412 tw4362923850381393556 tw12682067174928146541 tw14968347504753949815 tw14246986724957042711 tw424481949574386869 tw592257751478084012 tw2941256411543103401 tw5816811474579710234 tw17952972918795723623 tw8868473726422572201 tw8625478830931074687 tw7320824317926003322 tw2120320201895598947 tw3452870889126710947 tw2548580026571144532 tw6307700156596899646 tw11784428470672551325 tw7086100843788692912 tw3190723135602879742 tw13479643568057213776 tw1724943105540066750 tw8366854037583411302 tw2960579742639915784 tw16410898016965741766 tw4403031181195032692 tw18021768571286628913 tw11694368619640294424 tw15868985978269339277 tw8080136600351879382 tw5722854094415454919 tw12191454899190828225 tw257191211005039638 tw7744545424960535342 tw10697674864998566115 tw6037372070214777111 tw9225525963645745248 tw14470644428428469563 tw561584537846822292 tw15899345688191552679 tw13724546575915971691 tw9916019370882785180 tw1260085574271723762 tw16802082457104003276 tw4293951118654404608 tw6234234084738869715 tw12835900897691019030 tw9776606711841829063 tw17937308854664834903 tw15834216265298656639 tw14053300725630253258 tw477139515523691714 tw15370328885069944959 tw16120485683866548330 tw15651665416290615757 tw4307804798575396820 tw17711062155926685988 tw1938371578003502220 tw6527322510635853317 tw10083815276879933874 tw1819827340101246225 tw1461776416016857244 tw289097936060376662 tw9658407814745302398 tw15770621384153034397 tw127630686459693514 tw10035471527385741428 tw17167136393306060002 tw3031149719601137672 tw10721701039214732865 tw12472998775510563601 tw13936604796099501099 tw3526209472155322281 tw9675376098176466683 tw10410862732067834913 tw2492130299020659622 tw2639053085304346194 tw1477859584287772785 tw17856466394982345001 tw9811657597745766596 tw9517227154238734989 tw6185401081150910992 tw5541214757618834537 tw12945722326729643895 tw3316228296051552254 tw4484705101608317955 tw5887635574213078522 tw16237666962295024109 tw13288258447875975357 tw18327179407582794678 tw12591082734045159803 tw17538168471805535407 tw12037232503247238215 tw440588664355327627 tw11106031709239036307 tw12629730691005094881 tw8694285346078760779 tw16301496659943632231 tw6216986162078897029 tw12461642868231793087 tw7112521308059154418 tw359494172404835468 tw15768719415486691531 tw8573111877601125603 tw6831989237443075997 tw3864351005450105661 tw14979154783143474356 tw8440620153238562416 tw13896313843836782538 tw6591694615520748657 tw13527333455171899010 tw9616412046380544624 tw15104251937098801945 tw10462698790243125318 tw6168029818370643037 tw6411819482761932901 tw12491310111173770762 tw2047469498135809084 tw14866903176445724842 tw15960226643989663710 tw17071539332291918904 tw15390799990669287724 tw14192127805644995574 tw10743345240407385300 tw13366988421012259352 tw5855560238056748094 tw14426075428550500469 tw17856777518596311245 tw12278143400147691193 tw10206032825259581292 tw1106993035193263593 tw7916282950121693770 tw4708619759984823616 tw15077547435662929127 tw7097954752385402625 tw17166704592831220675 tw10603914455465926159 tw18093093859373438100 tw11644565691740366075 tw7282917800710214335 tw693116859595363650 tw13953713468759339215 tw5437269062866824847 tw4328143591354247031 tw14686840076028730613 tw6876947451926613969 tw18258595211632394072 tw3970301841147910146 tw10691614032887500744 tw1736079873224646768 tw536095304480552713 tw8179560325324186702 tw15116056229540890678 tw1912451721398323636 tw11599580062829134625 tw600995659188686687 tw434753838132508236 tw5034749449761131441 tw1412999980022657610 tw9081144889452274159 tw4875954024100401223 tw15889183032100143694 tw15542142823605872890 tw14395022203966968452 tw2212751359405540150 tw14808058803731420366 tw13087319116317792664 tw12782765156285115558 tw15956880202642345434 tw4871192017374941686 tw6412418737823307202 tw10462121613026009792 tw6420749271887084893 tw13448022479451068049 tw13865198643355109110 tw11650172974669160292 tw10385989904330861430 tw14954933118885307666 tw8546896440400281628 tw9291492174865808367 tw4909875588969346020 tw15216436693655701957 tw3609977177048839747 tw5885767218145274260 tw3404370972298809528 tw1788796852145403752 tw14963217186209898079 tw9154343417214100892 tw5259851395935445664 tw12249018917260137688 tw10370938051424571811 tw1880697051240369961 tw16814228321350820916 tw271729968066970573 tw617482127342005903 tw11368568575667258348 tw12425645984594790363 tw322906128314439149 tw13459085039750357689 tw2966737418649422311 tw11604203272768320206 tw2875529977199629199 tw8365621402274312416 tw8644471309043342922 tw1338547679942073920 tw1359515308843194534 tw2772180255480318453 tw1672407075880307717 tw3298229136237090583 tw2902224553404290990 tw15456700896198260247 tw8069524452691992745 tw11909764797972122339 tw9568556711162366717 tw15366411267036797957 tw4260730799836304984 tw10507736605940230587 tw9796090617392602034 tw10612602045550204611 tw16028295968019798459 tw11413759771816754669 tw8358602384917805324 tw6240552462714188121 tw13124018467674708984 tw5581101870873053460 tw5118619550772667374 tw4377490998588715884 tw8673164030281405432 tw1026663365782796637 tw13888179971095881915 tw7949539691819295157 tw16939495117771924079 tw8614282477731665880 tw494275373617481241 tw1112168135470941434 tw5772413661667086538 tw13609053023578595813 tw15354842925972773978 tw1700436428389735783 tw17955920353016738731 tw15594884899577075585 tw15770901910427428113 tw9104376876604349836 tw509317585520369428 tw15843414836924694940 tw8035787213258668307 tw17542402841673089146 tw13790474874464838863 tw15688829861118532212 tw14780361023778809082 tw13316865922472266763 tw12732069545183005516 tw350688958588090273 tw12901737577658027012 tw11996808806011563473 tw10179080381176106331 tw13860468126421929775 tw15998981177933500645 tw4753777184496705531 tw15344142870418042239 tw7239308681878842514 tw11564558684545504085 tw17946245727517913508 tw6788848727947605068 tw5263273129504233728 tw8676570688072624030 tw8230802514724197188 tw18189738334316911972 tw3690358508933186802 tw4337593917458621271 tw13443556478318013535 tw13958144061924588436 tw5268174612161646834 tw12047063668763061406 tw15925580527103826432 tw10127888701601677763 tw16321187520109490696 tw1592901493674660532 tw6389690772780899002 tw14161770843630033212 tw8549995660223380550 tw10751946449561031335 tw11394654772084364903 tw2911712878314536377 tw1326740392028871422 tw7583398063128456615 tw10179273169524587643 tw2260069778954266521 tw2240714035069294003 tw9346336295724107565 tw9357327013587062505 tw10585400414021866069 tw8814895411279088450 tw1146511944758923310 tw6325437216781802526 tw3780504488668848365 tw17208525308440726350 tw8554181202873393552 tw17839111194387288489 tw12111218748630889501 tw14215785384969708362 tw15887818317685287968 tw14053054494302261455 tw1550372597242776255 tw9212484604628525923 tw7804481688959586713 tw17686409623651789701 tw5491344113396574472 tw12717520813778778631 tw10609478419043271179 tw14777472506833747784 tw14334035024730259782 tw6341933991066918994 tw134997167310919457 tw10341591811988609080 tw17448677898966164989 tw1576145899952622958 tw2483929849713623435 tw13541939369433042755 tw16172817414671269350 tw12857246027301791215 tw5940319052441246177 tw9822193634580581236 tw10230142962215445117 tw587797992038868934 tw7831821425415397105 tw14563787713623222230 tw3030081254794949764 tw17658647576459829638 tw12716769851681322458 tw14553158179020027694 tw15511755231692853372 tw17489935131763579074 tw1018270184304875801 tw17540452371969707171 tw13953367250074050312 tw18322346263584293904 tw5289692118888395535 tw2941555617332337302 tw16066029071104754214 tw15537525319825013038 tw16692660946651529771 tw3829957120478418373 tw13853022059806766519 tw10220372606599692127 tw17020268538831629203 tw7603450122372275471 tw4648869997247910058 tw7746591099941411001 tw961095578567798137 tw13892469138180501373 tw16948887170387032149 tw4941226073954647886 tw8059881112522613911 tw12067185904293878086 tw9886862679141227721 tw17103928631667625455 tw14571603315199702400 tw6938007439818241852 tw16846469237083141073 tw14848418662081220150 tw12756831234572272815 tw10877517729404936475 tw3498266930902130458 tw4319032264419569533 tw4450779163534466425 tw13213284901709173007 tw12287235603991387792 tw9539327085216540921 tw12710329452792678918 tw11062085443229491722 tw9078823971790078296 tw2893841004373004061 tw5813333545698575320 tw4966434884111395516 tw15066720846399984201 tw576689253685724262 tw273881408858386029 tw2016294436608922385 tw5932204204371469969 tw9309260702524049267 tw12987803747745044065 tw7071323619974192517 tw17342496122305859804 tw5060033591480509588 tw6366348735370510583 tw9235354919126967840 tw17618172137524848130 tw3955190022246838337 tw9804158478816821929 tw6109604853174737332 tw14050834436137413689 tw1353940978628797829 tw8234149423716743547 tw7408287497016947237 tw3257340562640185235 tw287831158163205549 tw12682251123919733831 tw926987556268280352 tw15146786691366651435 tw2169309173198990603 tw3749340834124498141 tw337218761402550098 tw1899443649363513676 tw15803053303583172880 tw15522876772679847050 tw1269717099434675438 tw4867252211365637054 tw5764259329118251897 tw11470859503689129371 tw6056299310804556985 tw2833916076213951547 tw7190249190725771634 tw15319525708818216267 tw10989294181388140832 tw16419255510172454892 tw15301179028348942575 tw218933887300052608 tw817910650312489695 tw1361551595902322171 tw2299046501844225065 tw666218556048634853 tw522497443135952458 tw14851708844514876179 tw11408557230480704648 tw15420480988628581482 tw14054590830193333509 tw13650952116391532938 tw3303360466577577137 tw11085345212220295313 tw13008767280270483318 tw17864548782046191245 tw5223692807613215594 tw5962452393392006325 tw12248473725860740195 tw12854904577657633859 tw8119126733271024403 tw406398214014147392 tw3715382621379514712 tw8552790110857826597 tw6736874752761631022 tw7973281292220165283 tw5113852547231727694 tw15536254597076871165 tw10432633253792768291 tw4206593324000932510 tw8025574384557910494 tw281185016270265313 tw15409647500936978148 tw12170911083529192136 tw5422248602049356943 tw8775411015095896463 tw10105074328869640601 tw7954565428101377066 tw9922975564812719105 tw6716936927819732930 tw8275876067611992718 tw14834980567693915978 tw891811155086440261 tw15005017666364665974 tw1151982362175411157 tw12587838634780438239 tw4015316144341015342 tw2133625897961549640 tw7390827975087682061 tw3719409586132698516 tw8278904532461066063 tw240488864928683163 tw8626351794665795812 tw17430341988491211914 tw11108577834814915144 tw16030380281249987777 tw14522820982907543214 tw10401806657522541820 tw10221719666280551031 tw15186008633950743975 tw14989275680506209339 tw8065524598370730635 tw3798442129358229701 tw2199230519287854181 tw6452566736508284631 tw451866836197628288 tw14793228443296540455 tw10720849130447363967 tw1609105040266198952 tw615942997491917289 tw14118609753988320640 tw17275382720699909014 tw2443512284767503081 tw1761085568281946658 tw3431465620364838058 tw13476114861137630869 tw15867602844283349977 tw18024532094399275715 tw12636950356153395293 tw10456839726288907646 tw10604370587806156319 tw5730485821755540077 tw2428901848187902184 tw1702986518995099497 tw3652527888045792824 tw1560095545679849086 tw1963498295218828090 tw18164443453231924283 tw14244541917574953618 tw2212912815638886670 tw17237223902660804885 tw5255964909423957598 tw16817511829242293567 tw12003784038370450200 tw1924710272387260505 tw11241623170289692905 tw12161170871889850472 tw16520785037456495703 tw9281225668702584015 tw13904548082099944358 tw10615467855645954051 tw7456058699379192019 tw4926779080131018805 tw3561742919771823612 tw13603653645921766875 tw5153859046143890649 tw5589236323538734645 tw111637582522629253 tw4693452716024559781 tw15835582888560139661 tw14931071076498838062 tw10040940033811437812 tw5782194829765078248 tw4886698708698809277 tw14995809639557220018 tw13913753322342596662 tw10353002433613877551 tw9294357050922168822 tw6238971841079061653 tw18350943861888685060 tw16554890246745433063 tw652407660091309054 tw8286414189375562196 tw17300890273585110878 tw13940340361238616382 tw11145046898754170347 tw7665625492316890607 tw10283888694964377594 tw4014880833960784209 tw17704416442943710545 tw6472583465481156546 tw9545193185658664196 tw4866974249137387397 tw885296192650758042 tw5890572932914054218 tw4995729277255433611 tw9269079876891315491 tw3591739013646348922 tw77198044915529176 tw8775469281277543731 tw7815044316634414516 tw7805593166467107032 tw3804007629700545615 tw2493568327322633106 tw2696377663558700647 tw5937901049497246351 tw18416128332805038682 tw5395256253852858510 tw4111375342838894809 tw8405522624896210638 tw2727928527020026388 tw4350507038229813742 tw17460834714954192189 tw10753818837531204934 tw14969982345740709407 tw11261516439258846967 tw4619807511070338315 tw2824424792793260230 tw15070522198634369565 tw5410371519569279824 tw17472673949944265527 tw8601314486252841160 tw15221418444653037936 tw9594450435040566329 tw13070862856457128016 tw9411249046083913897 tw2819481492056811872 tw593328180724630935 tw16261399044344321935 tw4833791915732864090 tw17347170399765621411 tw4872746933097337366 tw2699066355854223258 tw9157250748698027224 tw9572105541604329050 tw13146333396074248903 tw2312632384790555923 tw16702903748002132307 tw4963263209911451146:True)
open PySem PySem.W PyProof.Rows
set_option maxRecDepth 100000 in
set_option maxHeartbeats 0 in
theorem PySem.Challenge.cw_guessroom_k57_say_asker_refuses_holds : PySem.Challenge.rw_guessroom_k57_say_asker_refuses.Holds := by
  w_on; o_law; k_head; (case hw => w_witness2)
  k_fill
  refine Mine.walk (l := PySem.Challenge.rw_guessroom_k57_say_asker_refuses) rfl rfl (fun w h Y => PySem.W.kIn_of Y) ?F
  case F =>
    intro w mg fa h KX G hmg
    refine' Mine.all_mk KX G hmg ?aC_j7 ?pg_j7 ?hd_j7 ?po_j7 ?sa_j7 ?mk_j7 ?kc_j7 ?n_letters_Book ?n_marks_Book ?aC_j9 ?aC_jj ?aC_ja ?aC_j1 ?pg_j1 ?hd_j1 ?po_j1 ?sa_j1 ?mk_j1 ?kc_j1 ?n_book_SayHunt ?n_ends_SayHunt ?n_gaps_SayHunt ?n_guess_SayHunt ?n_letters_SayHunt ?n_most_SayHunt ?n_ways_SayHunt ?n_wish_SayHunt ?n_wrong_SayHunt ?aC_j4 ?pg_j4 ?hd_j4 ?po_j4 ?sa_j4 ?mk_j4 ?kc_j4 ?n_hunt_SayAsker ?n_letters_SayAsker ?q_j28 ?a_j11 ?i_j11 ?l_j11 ?c_j11 ?k_j11 ?a_jq ?i_jq ?l_jq ?c_jq ?k_jq ?a_j1s ?l_j1s ?c_j1s ?k_j1s ?a_j21 ?l_j21 ?c_j21 ?k_j21 ?a_j1o ?l_j1o ?c_j1o ?k_j1o ?a_j22 ?l_j22 ?c_j22 ?k_j22 ?a_j1p ?l_j1p ?c_j1p ?k_j1p ?a_j17 ?i_j17 ?l_j17 ?c_j17 ?k_j17 ?a_j1n ?i_j1n ?l_j1n ?c_j1n ?k_j1n ?a_ji ?i_ji ?l_ji ?c_ji ?k_ji ?a_j25 ?l_j25 ?c_j25 ?k_j25 ?a_j1j ?i_j1j ?l_j1j ?c_j1j ?k_j1j ?a_j24 ?l_j24 ?c_j24 ?k_j24 ?a_jx ?i_jx ?l_jx ?c_jx ?k_jx ?a_j23 ?l_j23 ?c_j23 ?k_j23 ?a_j26 ?l_j26 ?c_j26 ?k_j26 ?a_jc ?i_jc ?l_jc ?c_jc ?k_jc ?a_j10 ?l_j10 ?c_j10 ?k_j10 ?a_j27 ?l_j27 ?c_j27 ?k_j27 ?a_j1r ?l_j1r ?c_j1r ?k_j1r ?a_jp ?i_jp ?l_jp ?c_jp ?k_jp ?a_j14 ?i_j14 ?l_j14 ?c_j14 ?k_j14 ?a_j1x ?l_j1x ?c_j1x ?k_j1x ?a_j1f ?l_j1f ?c_j1f ?k_j1f ?a_j1c ?l_j1c ?c_j1c ?k_j1c ?a_jg ?i_jg ?l_jg ?c_jg ?k_jg ?a_j18 ?i_j18 ?l_j18 ?c_j18 ?k_j18 ?a_j1g ?l_j1g ?c_j1g ?k_j1g ?a_jh ?i_jh ?l_jh ?c_jh ?k_jh ?a_je ?i_je ?l_je ?c_je ?k_je ?a_j1y ?l_j1y ?c_j1y ?k_j1y ?a_jd ?i_jd ?l_jd ?c_jd ?k_jd ?a_jo ?i_jo ?l_jo ?c_jo ?k_jo ?a_j12 ?i_j12 ?l_j12 ?c_j12 ?k_j12 ?a_jk ?i_jk ?l_jk ?c_jk ?k_jk ?a_j1b ?i_j1b ?l_j1b ?c_j1b ?k_j1b ?a_jt ?i_jt ?l_jt ?c_jt ?k_jt ?a_j16 ?l_j16 ?c_j16 ?k_j16 ?a_j1q ?l_j1q ?c_j1q ?k_j1q ?a_j19 ?i_j19 ?l_j19 ?c_j19 ?k_j19 ?a_jr ?i_jr ?l_jr ?c_jr ?k_jr ?a_j1l ?l_j1l ?c_j1l ?k_j1l ?a_jb ?i_jb ?l_jb ?c_jb ?k_jb ?a_jy ?i_jy ?l_jy ?c_jy ?k_jy ?a_jm ?i_jm ?l_jm ?c_jm ?k_jm ?a_j1h ?l_j1h ?c_j1h ?k_j1h ?a_j1k ?i_j1k ?l_j1k ?c_j1k ?k_j1k ?sg_jz ?rd_jz ?a_jz ?l_jz ?c_jz ?k_jz ?sg_j15 ?rd_j15 ?a_j15 ?l_j15 ?c_j15 ?k_j15 ?a_jf ?i_jf ?l_jf ?c_jf ?k_jf ?a_j1e ?i_j1e ?l_j1e ?c_j1e ?k_j1e ?a_jv ?i_jv ?l_jv ?c_jv ?k_jv ?a_j1a ?i_j1a ?l_j1a ?c_j1a ?k_j1a ?a_js ?i_js ?l_js ?c_js ?k_js ?a_j1z ?l_j1z ?c_j1z ?k_j1z ?a_j1t ?l_j1t ?c_j1t ?k_j1t ?a_j1u ?l_j1u ?c_j1u ?k_j1u ?a_j1v ?l_j1v ?c_j1v ?k_j1v ?a_j1d ?l_j1d ?c_j1d ?k_j1d ?a_j1w ?l_j1w ?c_j1w ?k_j1w ?a_j1m ?l_j1m ?c_j1m ?k_j1m ?a_j13 ?i_j13 ?l_j13 ?c_j13 ?k_j13 ?a_jn ?i_jn ?l_jn ?c_jn ?k_jn ?a_jw ?i_jw ?l_jw ?c_jw ?k_jw ?a_jl ?i_jl ?l_jl ?c_jl ?k_jl ?a_j20 ?l_j20 ?c_j20 ?k_j20 ?a_j1i ?l_j1i ?c_j1i ?k_j1i ?a_ju ?l_ju ?c_ju ?k_ju ?a_j29 ?l_j29 ?c_j29 ?k_j29 ?z_ValueError ?z_all ?z_enumerate ?z_isinstance ?z_len ?z_list ?z_max ?z_range ?z_tuple ?z_zip ?m_j8 ?m_j5 ?m_j6 ?m_j3 ?m_j2 ?m_j0 ?x_j5 ?ga_j5 ?hk_j5 ?cl_j5 ?ca_j5 ?mo_j5 ?mb_j5 ?e_j5 ?v_j5 ?ee_j5 ?k_j5_j8 ?k_j5_j5 ?k_j5_j6 ?k_j5_j3 ?k_j5_j2 ?k_j5_j0 ?x_j6 ?ga_j6 ?hk_j6 ?cl_j6 ?ca_j6 ?mo_j6 ?mb_j6 ?e_j6 ?v_j6 ?ee_j6 ?k_j6_j8 ?k_j6_j5 ?k_j6_j6 ?k_j6_j3 ?k_j6_j2 ?k_j6_j0 ?x_j3 ?ga_j3 ?hk_j3 ?cl_j3 ?ca_j3 ?mo_j3 ?mb_j3 ?e_j3 ?v_j3 ?ee_j3 ?k_j3_j8 ?k_j3_j5 ?k_j3_j6 ?k_j3_j3 ?k_j3_j2 ?k_j3_j0 ?x_j2 ?ga_j2 ?hk_j2 ?cl_j2 ?ca_j2 ?mo_j2 ?mb_j2 ?e_j2 ?v_j2 ?ee_j2 ?k_j2_j8 ?k_j2_j5 ?k_j2_j6 ?k_j2_j3 ?k_j2_j2 ?k_j2_j0 ?x_j0 ?ga_j0 ?hk_j0 ?cl_j0 ?ca_j0 ?mo_j0 ?mb_j0 ?e_j0 ?v_j0 ?ee_j0 ?k_j0_j8 ?k_j0_j5 ?k_j0_j6 ?k_j0_j3 ?k_j0_j2 ?k_j0_j0 ?kk_SayAsker_Asker ?ka_SayAsker ?ko_SayAsker ?gs ?tk
    (case aC_j7 => k_is)
    (case pg_j7 => k_is)
    (case hd_j7 => k_is)
    (case po_j7 => k_is)
    (case sa_j7 => k_is)
    (case mk_j7 => k_is)
    (case kc_j7 => k_is)
    (case n_letters_Book => k_is)
    (case n_marks_Book => k_is)
    (case aC_j9 => k_is)
    (case aC_jj => k_is)
    (case aC_ja => k_is)
    (case aC_j1 => k_is)
    (case pg_j1 => k_is)
    (case hd_j1 => k_is)
    (case po_j1 => k_is)
    (case sa_j1 => k_is)
    (case mk_j1 => k_is)
    (case kc_j1 => k_is)
    (case n_book_SayHunt => k_is)
    (case n_ends_SayHunt => k_is)
    (case n_gaps_SayHunt => k_is)
    (case n_guess_SayHunt => k_is)
    (case n_letters_SayHunt => k_is)
    (case n_most_SayHunt => k_is)
    (case n_ways_SayHunt => k_is)
    (case n_wish_SayHunt => k_is)
    (case n_wrong_SayHunt => k_is)
    (case aC_j4 => k_is)
    (case pg_j4 => k_is)
    (case hd_j4 => k_is)
    (case po_j4 => k_is)
    (case sa_j4 => k_is)
    (case mk_j4 => k_is)
    (case kc_j4 => k_is)
    (case n_hunt_SayAsker => k_is)
    (case n_letters_SayAsker => k_is)
    (case q_j28 => k_is)
    (case a_j11 => k_is)
    (case i_j11 => k_is)
    (case l_j11 => k_is)
    (case c_j11 => k_is)
    (case k_j11 => k_is)
    (case a_jq => k_is)
    (case i_jq => k_is)
    (case l_jq => k_is)
    (case c_jq => k_is)
    (case k_jq => k_is)
    (case a_j1s => k_is)
    (case l_j1s => k_is)
    (case c_j1s => k_is)
    (case k_j1s => k_is)
    (case a_j21 => k_is)
    (case l_j21 => k_is)
    (case c_j21 => k_is)
    (case k_j21 => k_is)
    (case a_j1o => k_is)
    (case l_j1o => k_is)
    (case c_j1o => k_is)
    (case k_j1o => k_is)
    (case a_j22 => k_is)
    (case l_j22 => k_is)
    (case c_j22 => k_is)
    (case k_j22 => k_is)
    (case a_j1p => k_is)
    (case l_j1p => k_is)
    (case c_j1p => k_is)
    (case k_j1p => k_is)
    (case a_j17 => k_is)
    (case i_j17 => k_is)
    (case l_j17 => k_is)
    (case c_j17 => k_is)
    (case k_j17 => k_is)
    (case a_j1n => k_is)
    (case i_j1n => k_is)
    (case l_j1n => k_is)
    (case c_j1n => k_is)
    (case k_j1n => k_is)
    (case a_ji => k_is)
    (case i_ji => k_is)
    (case l_ji => k_is)
    (case c_ji => k_is)
    (case k_ji => k_is)
    (case a_j25 => k_is)
    (case l_j25 => k_is)
    (case c_j25 => k_is)
    (case k_j25 => k_is)
    (case a_j1j => k_is)
    (case i_j1j => k_is)
    (case l_j1j => k_is)
    (case c_j1j => k_is)
    (case k_j1j => k_is)
    (case a_j24 => k_is)
    (case l_j24 => k_is)
    (case c_j24 => k_is)
    (case k_j24 => k_is)
    (case a_jx => k_is)
    (case i_jx => k_is)
    (case l_jx => k_is)
    (case c_jx => k_is)
    (case k_jx => k_is)
    (case a_j23 => k_is)
    (case l_j23 => k_is)
    (case c_j23 => k_is)
    (case k_j23 => k_is)
    (case a_j26 => k_is)
    (case l_j26 => k_is)
    (case c_j26 => k_is)
    (case k_j26 => k_is)
    (case a_jc => k_is)
    (case i_jc => k_is)
    (case l_jc => k_is)
    (case c_jc => k_is)
    (case k_jc => k_is)
    (case a_j10 => k_is)
    (case l_j10 => k_is)
    (case c_j10 => k_is)
    (case k_j10 => k_is)
    (case a_j27 => k_is)
    (case l_j27 => k_is)
    (case c_j27 => k_is)
    (case k_j27 => k_is)
    (case a_j1r => k_is)
    (case l_j1r => k_is)
    (case c_j1r => k_is)
    (case k_j1r => k_is)
    (case a_jp => k_is)
    (case i_jp => k_is)
    (case l_jp => k_is)
    (case c_jp => k_is)
    (case k_jp => k_is)
    (case a_j14 => k_is)
    (case i_j14 => k_is)
    (case l_j14 => k_is)
    (case c_j14 => k_is)
    (case k_j14 => k_is)
    (case a_j1x => k_is)
    (case l_j1x => k_is)
    (case c_j1x => k_is)
    (case k_j1x => k_is)
    (case a_j1f => k_is)
    (case l_j1f => k_is)
    (case c_j1f => k_is)
    (case k_j1f => k_is)
    (case a_j1c => k_is)
    (case l_j1c => k_is)
    (case c_j1c => k_is)
    (case k_j1c => k_is)
    (case a_jg => k_is)
    (case i_jg => k_is)
    (case l_jg => k_is)
    (case c_jg => k_is)
    (case k_jg => k_is)
    (case a_j18 => k_is)
    (case i_j18 => k_is)
    (case l_j18 => k_is)
    (case c_j18 => k_is)
    (case k_j18 => k_is)
    (case a_j1g => k_is)
    (case l_j1g => k_is)
    (case c_j1g => k_is)
    (case k_j1g => k_is)
    (case a_jh => k_is)
    (case i_jh => k_is)
    (case l_jh => k_is)
    (case c_jh => k_is)
    (case k_jh => k_is)
    (case a_je => k_is)
    (case i_je => k_is)
    (case l_je => k_is)
    (case c_je => k_is)
    (case k_je => k_is)
    (case a_j1y => k_is)
    (case l_j1y => k_is)
    (case c_j1y => k_is)
    (case k_j1y => k_is)
    (case a_jd => k_is)
    (case i_jd => k_is)
    (case l_jd => k_is)
    (case c_jd => k_is)
    (case k_jd => k_is)
    (case a_jo => k_is)
    (case i_jo => k_is)
    (case l_jo => k_is)
    (case c_jo => k_is)
    (case k_jo => k_is)
    (case a_j12 => k_is)
    (case i_j12 => k_is)
    (case l_j12 => k_is)
    (case c_j12 => k_is)
    (case k_j12 => k_is)
    (case a_jk => k_is)
    (case i_jk => k_is)
    (case l_jk => k_is)
    (case c_jk => k_is)
    (case k_jk => k_is)
    (case a_j1b => k_is)
    (case i_j1b => k_is)
    (case l_j1b => k_is)
    (case c_j1b => k_is)
    (case k_j1b => k_is)
    (case a_jt => k_is)
    (case i_jt => k_is)
    (case l_jt => k_is)
    (case c_jt => k_is)
    (case k_jt => k_is)
    (case a_j16 => k_is)
    (case l_j16 => k_is)
    (case c_j16 => k_is)
    (case k_j16 => k_is)
    (case a_j1q => k_is)
    (case l_j1q => k_is)
    (case c_j1q => k_is)
    (case k_j1q => k_is)
    (case a_j19 => k_is)
    (case i_j19 => k_is)
    (case l_j19 => k_is)
    (case c_j19 => k_is)
    (case k_j19 => k_is)
    (case a_jr => k_is)
    (case i_jr => k_is)
    (case l_jr => k_is)
    (case c_jr => k_is)
    (case k_jr => k_is)
    (case a_j1l => k_is)
    (case l_j1l => k_is)
    (case c_j1l => k_is)
    (case k_j1l => k_is)
    (case a_jb => k_is)
    (case i_jb => k_is)
    (case l_jb => k_is)
    (case c_jb => k_is)
    (case k_jb => k_is)
    (case a_jy => k_is)
    (case i_jy => k_is)
    (case l_jy => k_is)
    (case c_jy => k_is)
    (case k_jy => k_is)
    (case a_jm => k_is)
    (case i_jm => k_is)
    (case l_jm => k_is)
    (case c_jm => k_is)
    (case k_jm => k_is)
    (case a_j1h => k_is)
    (case l_j1h => k_is)
    (case c_j1h => k_is)
    (case k_j1h => k_is)
    (case a_j1k => k_is)
    (case i_j1k => k_is)
    (case l_j1k => k_is)
    (case c_j1k => k_is)
    (case k_j1k => k_is)
    (case sg_jz => k_is)
    (case rd_jz => k_is)
    (case a_jz => k_is)
    (case l_jz => k_is)
    (case c_jz => k_is)
    (case k_jz => k_is)
    (case sg_j15 => k_is)
    (case rd_j15 => k_is)
    (case a_j15 => k_is)
    (case l_j15 => k_is)
    (case c_j15 => k_is)
    (case k_j15 => k_is)
    (case a_jf => k_is)
    (case i_jf => k_is)
    (case l_jf => k_is)
    (case c_jf => k_is)
    (case k_jf => k_is)
    (case a_j1e => k_is)
    (case i_j1e => k_is)
    (case l_j1e => k_is)
    (case c_j1e => k_is)
    (case k_j1e => k_is)
    (case a_jv => k_is)
    (case i_jv => k_is)
    (case l_jv => k_is)
    (case c_jv => k_is)
    (case k_jv => k_is)
    (case a_j1a => k_is)
    (case i_j1a => k_is)
    (case l_j1a => k_is)
    (case c_j1a => k_is)
    (case k_j1a => k_is)
    (case a_js => k_is)
    (case i_js => k_is)
    (case l_js => k_is)
    (case c_js => k_is)
    (case k_js => k_is)
    (case a_j1z => k_is)
    (case l_j1z => k_is)
    (case c_j1z => k_is)
    (case k_j1z => k_is)
    (case a_j1t => k_is)
    (case l_j1t => k_is)
    (case c_j1t => k_is)
    (case k_j1t => k_is)
    (case a_j1u => k_is)
    (case l_j1u => k_is)
    (case c_j1u => k_is)
    (case k_j1u => k_is)
    (case a_j1v => k_is)
    (case l_j1v => k_is)
    (case c_j1v => k_is)
    (case k_j1v => k_is)
    (case a_j1d => k_is)
    (case l_j1d => k_is)
    (case c_j1d => k_is)
    (case k_j1d => k_is)
    (case a_j1w => k_is)
    (case l_j1w => k_is)
    (case c_j1w => k_is)
    (case k_j1w => k_is)
    (case a_j1m => k_is)
    (case l_j1m => k_is)
    (case c_j1m => k_is)
    (case k_j1m => k_is)
    (case a_j13 => k_is)
    (case i_j13 => k_is)
    (case l_j13 => k_is)
    (case c_j13 => k_is)
    (case k_j13 => k_is)
    (case a_jn => k_is)
    (case i_jn => k_is)
    (case l_jn => k_is)
    (case c_jn => k_is)
    (case k_jn => k_is)
    (case a_jw => k_is)
    (case i_jw => k_is)
    (case l_jw => k_is)
    (case c_jw => k_is)
    (case k_jw => k_is)
    (case a_jl => k_is)
    (case i_jl => k_is)
    (case l_jl => k_is)
    (case c_jl => k_is)
    (case k_jl => k_is)
    (case a_j20 => k_is)
    (case l_j20 => k_is)
    (case c_j20 => k_is)
    (case k_j20 => k_is)
    (case a_j1i => k_is)
    (case l_j1i => k_is)
    (case c_j1i => k_is)
    (case k_j1i => k_is)
    (case a_ju => k_is)
    (case l_ju => k_is)
    (case c_ju => k_is)
    (case k_ju => k_is)
    (case a_j29 => k_is)
    (case l_j29 => k_is)
    (case c_j29 => k_is)
    (case k_j29 => k_is)
    (case z_ValueError => k_is)
    (case z_all => k_is)
    (case z_enumerate => k_is)
    (case z_isinstance => k_is)
    (case z_len => k_is)
    (case z_list => k_is)
    (case z_max => k_is)
    (case z_range => k_is)
    (case z_tuple => k_is)
    (case z_zip => k_is)
    (case m_j8 => k_is)
    (case m_j5 => k_is)
    (case m_j6 => k_is)
    (case m_j3 => k_is)
    (case m_j2 => k_is)
    (case m_j0 => k_is)
    (case x_j5 => k_exc)
    (case ga_j5 => k_is)
    (case hk_j5 => k_is)
    (case cl_j5 => k_is)
    (case ca_j5 => k_is)
    (case mo_j5 => k_is)
    (case mb_j5 => k_is)
    (case e_j5 => kts_exm)
    (case v_j5 => kit_is)
    (case ee_j5 => kts_exm)
    (case k_j5_j8 => kit_is)
    (case k_j5_j5 => kit_is)
    (case k_j5_j6 => kit_is)
    (case k_j5_j3 => kit_is)
    (case k_j5_j2 => kit_is)
    (case k_j5_j0 => kit_is)
    (case x_j6 => k_exc)
    (case ga_j6 => k_is)
    (case hk_j6 => k_is)
    (case cl_j6 => k_is)
    (case ca_j6 => k_is)
    (case mo_j6 => k_is)
    (case mb_j6 => k_is)
    (case e_j6 => kts_exm)
    (case v_j6 => kit_is)
    (case ee_j6 => kts_exm)
    (case k_j6_j8 => kit_is)
    (case k_j6_j5 => kit_is)
    (case k_j6_j6 => kit_is)
    (case k_j6_j3 => kit_is)
    (case k_j6_j2 => kit_is)
    (case k_j6_j0 => kit_is)
    (case x_j3 => k_exc)
    (case ga_j3 => k_is)
    (case hk_j3 => k_is)
    (case cl_j3 => k_is)
    (case ca_j3 => k_is)
    (case mo_j3 => k_is)
    (case mb_j3 => k_is)
    (case e_j3 => kts_exm)
    (case v_j3 => kit_is)
    (case ee_j3 => kts_exm)
    (case k_j3_j8 => kit_is)
    (case k_j3_j5 => kit_is)
    (case k_j3_j6 => kit_is)
    (case k_j3_j3 => kit_is)
    (case k_j3_j2 => kit_is)
    (case k_j3_j0 => kit_is)
    (case x_j2 => k_exc)
    (case ga_j2 => k_is)
    (case hk_j2 => k_is)
    (case cl_j2 => k_is)
    (case ca_j2 => k_is)
    (case mo_j2 => k_is)
    (case mb_j2 => k_is)
    (case e_j2 => kts_exm)
    (case v_j2 => kit_is)
    (case ee_j2 => kts_exm)
    (case k_j2_j8 => kit_is)
    (case k_j2_j5 => kit_is)
    (case k_j2_j6 => kit_is)
    (case k_j2_j3 => kit_is)
    (case k_j2_j2 => kit_is)
    (case k_j2_j0 => kit_is)
    (case x_j0 => k_exc)
    (case ga_j0 => k_is)
    (case hk_j0 => k_is)
    (case cl_j0 => k_is)
    (case ca_j0 => k_is)
    (case mo_j0 => k_is)
    (case mb_j0 => k_is)
    (case e_j0 => kts_exm)
    (case v_j0 => kit_is)
    (case ee_j0 => kts_exm)
    (case k_j0_j8 => kit_is)
    (case k_j0_j5 => kit_is)
    (case k_j0_j6 => kit_is)
    (case k_j0_j3 => kit_is)
    (case k_j0_j2 => kit_is)
    (case k_j0_j0 => kit_is)
    (case kk_SayAsker_Asker => kit_is)
    (case ka_SayAsker => k_is)
    (case ko_SayAsker => k_is)
    (case gs => k_is)
    (case tk => k_is)
