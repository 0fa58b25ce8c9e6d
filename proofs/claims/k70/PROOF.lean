import PyProof.Rows.All
import Wide.All
import OpenK.AllK
import Wide.FinOn
import Lean
import PyProof.EqAt
import PyProof.EqKinds
import PyProof.TupleCall
import KE.KRevIter
import PyProof.ListRange
import PyProof.TupleOfGen
import PyProof.Draws
import PyProof.EnumMake
import PyProof.EnumFor
import PyProof.NeKinds
import KE.KDictList
import PyProof.Rows.TupDisplay
import PyProof.ZipIter
import PyProof.Rows.ZipGen
import KE.KItemsList
import PyProof.Rows.SumAny
import PyProof.StrWalks
import PyProof.StrCalls
import PyProof.StrCalls3
import PyProof.StrLawsFirst
import PyProof.StrLawsIn
import PyProof.SliceStr2
import PyProof.StrBlockI
import PyProof.Rows.StrWeight2
import PyProof.ListNew
import PyProof.DictRoadsH
import PyProof.WalkInts
import PyProof.Rows.MinMaxN
import KE.KDictLaws
import PyProof.StrCalls2
import PyProof.StrLawsChain
import KE.KIntText
import KE.KxText
import KE.KMinKey
import KE.KPairComp
import PyProof.MaxThree
import PyProof.DictValues
import PySem.Challenge.RW_guessroom_k70_whole_paper
set_option Elab.async false
set_option linter.all false
set_option maxRecDepth 100000
namespace L2
open PySem PySem.Spec PyProof.Rows
abbrev Key:=Sum Int Str
def UY:Key->Value->Bool
 |.inl k,v=>Value.isInt k v
 |.inr x,v=>Value.isStrOf x v
def keyH (w:World):Key->Int
 |.inl k=>hashInt k
 |.inr x=>hashStr w x
theorem B6:∀{k:Key} {v:Value},UY k v=true->(∃i t,k=Sum.inl i/\v=Value.int i t)\/(∃x t,k=Sum.inr x/\v=Value.str x t)
 |.inl i,v,h=>by
  obtain⟨t,e⟩:=Value.isInt_shape (k:=i) (v:=v) h
  exact .inl ⟨i,t,rfl,e⟩
 |.inr x,v,h=>by
  obtain⟨t,e⟩:=Value.isStrOf_shape (x:=x) (v:=v) h
  exact .inr ⟨x,t,rfl,e⟩
theorem XO (i:Int)(t:Tok):UY (.inl i) (.int i t)=true:=by simp[UY,Value.isInt]
theorem XQ (x:Str)(t:Tok):UY (.inr x) (.str x t)=true:=by simp[UY,Value.isStrOf]
theorem CH_ (a b:Int):decide ((Sum.inl a:Key)=Sum.inl b)=(a==b):=by
 by_cases e:a=b
 ·subst e;simp
 ·have h:¬ (Sum.inl a:Key)=Sum.inl b:=fun q=>e (Sum.inl.inj q)
  rw[decide_eq_false h]
  exact (beq_eq_false_iff_ne.mpr e).symm
theorem CI_ (a b:Str):decide ((Sum.inr a:Key)=Sum.inr b)=decide (a=b):=by
 by_cases e:a=b
 ·subst e;simp
 ·have h:¬ (Sum.inr a:Key)=Sum.inr b:=fun q=>e (Sum.inr.inj q)
  rw[decide_eq_false h,decide_eq_false e]
theorem CJ_ (a:Int)(b:Str):decide ((Sum.inl a:Key)=Sum.inr b)=false:=decide_eq_false (fun q=>nomatch q)
theorem CK_ (a:Str)(b:Int):decide ((Sum.inr a:Key)=Sum.inl b)=false:=decide_eq_false (fun q=>nomatch q)
def Cd (prog:Program)(w:World):PySem.KeyKind prog w Key where
 is:=UY
 hash:=keyH w
 inj:=fun v a b ha hb=>by
  rcases B6 ha with ⟨i,t,rfl,rfl⟩|⟨x,t,rfl,rfl⟩
  ·rcases B6 hb with ⟨j,u,rfl,e⟩|⟨y,u,rfl,e⟩
   ·injection e with e1 _;rw[e1]
   ·exact nomatch e
  ·rcases B6 hb with ⟨j,u,rfl,e⟩|⟨y,u,rfl,e⟩
   ·exact nomatch e
   ·injection e with e1 _;rw[e1]
 byValue:=fun k v h=>by
  rcases B6 h with ⟨i,t,rfl,rfl⟩|⟨x,t,rfl,rfl⟩<;>rfl
 pyHash:=fun hv h=>by
  rcases B6 hv with ⟨i,t,rfl,rfl⟩|⟨x,t,rfl,rfl⟩
  ·exact wpAny_pyHash_int h
  ·exact wpAny_pyHash_str h
 eqBool:=fun hu hv h=>by
  rcases B6 hu with ⟨i,t,rfl,rfl⟩|⟨x,t,rfl,rfl⟩
  ·rcases B6 hv with ⟨j,u,rfl,rfl⟩|⟨y,u,rfl,rfl⟩
   ·rw[CH_]at h;exact wpAny_eqBool_int h
   ·rw[CJ_]at h;exact SeqAt.EqAt.int_str i t y u _ _ _ _ h
  ·rcases B6 hv with ⟨j,u,rfl,rfl⟩|⟨y,u,rfl,rfl⟩
   ·rw[CK_]at h;exact SeqAt.EqAt.str_int x t j u _ _ _ _ h
   ·rw[CI_]at h;exact wpAny_eqBool_str h
 «strs» := fun k x t v h=>by
  rcases B6 h with ⟨i,u,rfl,e⟩|⟨y,u,rfl,e⟩
  ·exact nomatch e
  ·injection e with e1 _
   subst e1
   cases v<;>rfl
theorem UZ (prog:Program)(w:World)(i:Int)(t:Tok):(Cd prog w).is (.inl i) (.int i t)=true:=XO i t
theorem U0 (prog:Program)(w:World)(x:Str)(t:Tok):(Cd prog w).is (.inr x) (.str x t)=true:=XQ x t
inductive V where
 | non|bl (b:Bool)|int (i:Int)|str (x:Str)|byt (b:Array UInt8)|flt (b:UInt64)|ref (a:Addr)|ty (n:String)
 deriving DecidableEq
def RelV:V->Value->Prop
 |.non,u=>u=Value.none
 |.bl b,u=>u=Value.bool b
 |.int i,u=>∃t,u=Value.int i t
 |.str x,u=>∃t,u=Value.str x t
 |.byt b,u=>∃t,u=Value.bytes b t
 |.flt b,u=>∃t,u=Value.float b t
 |.ref a,u=>u=Value.ref a
 |.ty n,u=>u=Value.type n
abbrev Vals:List V->List Value->Prop:=Paired RelV
theorem Vals.length {xs:List V}{us:List Value}(r:Vals xs us):xs.length=us.length:=Paired.length r
theorem Vals.get:∀{xs:List V} {us:List Value} {i:Nat} {x:V},Vals xs us->xs[i]?=some x->∃u,us[i]?=some u/\RelV x u
 |_,_,_,_,.nil,e=>by simp at e
 |_,_,0,_,.cons r _,e=>by simp at e;subst e;exact⟨_,rfl,r⟩
 |_,_,i+1,x,.cons _ t,e=>by
  obtain⟨u,h1,h2⟩:=Vals.get (i:=i) (x:=x) t (by simpa using e)
  exact⟨u,by simpa using h1,h2⟩
theorem Vals.set {x:V}{u:Value}(r:RelV x u):∀{xs:List V} {us:List Value} (i:Nat),Vals xs us->Vals (xs.set i x) (us.set i u)
 |_,_,_,.nil=>.nil
 |_,_,0,.cons _ t=>.cons r t
 |_,_,i+1,.cons q t=>.cons q (Vals.set r i t)
theorem Vals.append:∀{xs ys:List V} {us ws:List Value},Vals xs us->Vals ys ws->Vals (xs++ys) (us++ws)
 |_,_,_,_,.nil,s=>s
 |_,_,_,_,.cons r t,s=>.cons r (Vals.append t s)
theorem Vals.take:∀{xs:List V} {us:List Value} (n:Nat),Vals xs us->Vals (xs.take n) (us.take n)
 |_,_,0,_=>.nil
 |_,_,_+1,.nil=>.nil
 |_,_,n+1,.cons r t=>.cons r (Vals.take n t)
theorem Vals.drop:∀{xs:List V} {us:List Value} (n:Nat),Vals xs us->Vals (xs.drop n) (us.drop n)
 |_,_,0,r=>r
 |_,_,_+1,.nil=>.nil
 |_,_,n+1,.cons _ t=>Vals.drop n t
def RelO:Option V->Option Value->Prop
 |some v,some u=>RelV v u
 |none,none=>True
 |_,_=>False
def KV {κ:Type}:List (κ×V)->List (κ×Value)->Prop:=Paired fun (p:κ×V) (q:κ×Value)=>p.1=q.1/\RelV p.2 q.2
def kV:Key->V
 |.inl i=>.int i
 |.inr x=>.str x
inductive HO where
 | lst (xs:List V)
 | tup (xs:List V)
 | dK (kvs:List (Key×V))|dT (kvs:List (List Key×V))
 | set (S:Int->Bool) (n:Nat)
 | ins (C dx:Addr) (fs:List (Str×V))
 | own (x:Addr)
 | xd (fs:List (Str×V))
 | met (f x:Addr)
 | rng (lo hi:Int)
 | frz (o:Obj) (u:HO)
 | tbl (ps:Array Value)
 | ext (φ:Heap->Prop)
abbrev Hp:=Addr->Option HO
def upd (H:Hp)(a:Addr)(o:HO):Hp:=fun b=>if b=a then some o else H b
theorem Ac {H:Hp}{a:Addr}{o:HO}:upd H a o a=some o:=by unfold upd;rw[if_pos rfl]
theorem Av {H:Hp}{a b:Addr}{o:HO}(h:b≠a):upd H a o b=H b:=by unfold upd;rw[if_neg h]
theorem BL_ {H:Hp}{a:Addr}{o u:HO}:upd (upd H a o) a u=upd H a u:=by
 funext b;unfold upd;split<;>rfl
theorem Eh_ {H:Hp}{a b:Addr}{o u:HO}(h:H a=some o)(h':H b=some u)(d:o≠u):a≠b:=by
 intro e;subst e;rw[h]at h';exact d (Option.some.inj h')
theorem BP {H:Hp}{a b:Addr}{o:HO}(h:H a=some o)(h':H b=none):a≠b:=by
 intro e;subst e;rw[h]at h';cases h'
section
variable (P:Program) (w:World)
def Bk (H:Hp)(h:Heap)(a:Addr):HO->Prop
 |.lst xs=>xs.length<=sizeLine/\∃(its:List Value) (n:Nat),Vals xs its/\h.get? a=some {cls:=.type "list",data:=.seq its.toArray n}
 |.tup xs=>xs.length<=sizeLine/\∃its:List Value,Vals xs its/\IsTup h a its.toArray
 |.dK kvs=>kvs.length<=sizeLine/\(a==sysModules)=false/\∃vs,KV kvs vs/\h.DictOf (Cd P w) a vs
 |.dT kvs=>kvs.length<=sizeLine/\(a==sysModules)=false/\∃xs:List (List Key×Addr×Value),
   Paired (fun (p:List Key×V) (q:List Key×Addr×Value)=>p.1=q.1/\H q.2.1=some (.tup (p.1.map kV))/\RelV p.2 q.2.2) kvs xs /\
   ∃o es ep,h.get? a=some o/\o.ExactDict/\o.data=.dict es ep/\es.toList=xs.map (entryOfKey (tupleKind (Cd P w)))/\(xs.map (·.1)).Nodup
 |.set S n=>h.SetOf (intKind P w) a S n
 |.ins C dx fs=>H dx=some (.own a)/\fs.length<=1000/\dx≠a/\h.get? a=some (PySem.W.instObj C dx) /\
   ∃mA,h.Ns1 dx mA/\(∀f,RelO (fs.lookup f) (mA f))/\PySem.Within mA (fs.map (·.1))
 |.own _=>∃o,h.get? a=some o
 |.xd fs=>∃mA,h.Ns1 a mA/\∀f,RelO (fs.lookup f) (mA f)
 |.rng lo hi=>∃t u v,h.get? a=some {cls:=.type "range",data:=.fields #[.int lo t,.int hi u,.int 1 v]}
 |.frz o u=>h.get? a=some o/\Bk H h a u
 |.tbl ps=>h.get? a=some {cls:=.none,data:=.fields ps}
 |.met f x=>h.get? a=some (PySem.W.methodObj (.ref f) (.ref x))
 |.ext φ=>φ h/\(∃o,h.get? a=some o)/\∀h1 h2:Heap,φ h1->(∀o,h1.get? a=some o->h2.get? a=some o)->φ h2
def HOk (H:Hp)(h:Heap):Prop:=∀a o,H a=some o->Bk P w H h a o
end
section
variable {P:Program} {w:World} {H H':Hp} {h h':Heap} {a:Addr} {o:HO}
theorem Bk.lt (x:Bk P w H h a o):a<h.objs.size:=by
 cases o with
 |lst xs=>obtain⟨_,_,_,_,e⟩:=x;exact Heap.lt_size e
 |tup xs=>obtain⟨_,_,_,p⟩:=x;exact p.lt
 |dK kvs=>obtain⟨_,_,_,_,o,_,_,e,_⟩:=x;exact Heap.lt_size e
 |dT kvs=>obtain⟨_,_,_,_,o,_,_,e,_⟩:=x;exact Heap.lt_size e
 |set S n=>obtain⟨o,_,_,_,e,_⟩:=x;exact Heap.lt_size e
 |ins C dx fs=>obtain⟨_,_,_,e,_⟩:=x;exact Heap.lt_size e
 |own y=>obtain⟨_,e⟩:=x;exact Heap.lt_size e
 |xd fs=>obtain⟨_,⟨_,_,_,e,_⟩,_⟩:=x;exact Heap.lt_size e
 |rng lo hi=>obtain⟨_,_,_,e⟩:=x;exact Heap.lt_size e
 |frz ob u=>obtain⟨e,_⟩:=x;exact Heap.lt_size e
 |tbl ps=>exact Heap.lt_size (show h.get? a=some _ from x)
 |met f y=>exact Heap.lt_size (show h.get? a=some _ from x)
 |ext φ=>obtain⟨_,⟨_,e⟩,_⟩:=x;exact Heap.lt_size e
theorem Paired.mapP {α β:Type}{F G:α->β->Prop}:∀{l₁:List α} {l₂:List β},Paired F l₁ l₂->(∀a b,F a b->G a b)->Paired G l₁ l₂
 |_,_,.nil,_=>.nil
 |_,_,.cons r t,f=>.cons (f _ _ r) (Paired.mapP t f)
theorem Bk.stay (x:Bk P w H h a o)(k:∀b u,(b=a\/H b=some (.own a))->h.get? b=some u->h'.get? b=some u)
  (ho:∀b,H b=some (.own a)->H' b=some (.own a)) (ht:∀b xs,H b=some (.tup xs)->H' b=some (.tup xs)):Bk P w H' h' a o:=by
 induction o with
 |lst xs=>obtain⟨z,its,n,r,e⟩:=x;exact⟨z,its,n,r,k _ _ (.inl rfl) e⟩
 |tup xs=>obtain⟨z,its,r,ob,e,c⟩:=x;exact⟨z,its,r,ob,k _ _ (.inl rfl) e,c⟩
 |dK kvs=>obtain⟨z,y,vs,r,ob,es,ep,e,c⟩:=x;exact⟨z,y,vs,r,ob,es,ep,k _ _ (.inl rfl) e,c⟩
 |dT kvs=>
  obtain⟨z,y,xs,r,ob,es,ep,e,c⟩:=x
  exact⟨z,y,xs,Paired.mapP r fun p q z=>⟨z.1,ht _ _ z.2.1,z.2.2⟩,ob,es,ep,k _ _ (.inl rfl) e,c⟩
 |set S n=>obtain⟨ob,es,ep,t,e,c⟩:=x;exact⟨ob,es,ep,t,k _ _ (.inl rfl) e,c⟩
 |ins C dx fs=>
  obtain⟨d,z,ne,e,mA,⟨od,es,ep,e2,c⟩,r⟩:=x
  exact⟨ho _ d,z,ne,k _ _ (.inl rfl) e,mA,⟨od,es,ep,k _ _ (.inr d) e2,c⟩,r⟩
 |own y=>obtain⟨ob,e⟩:=x;exact⟨ob,k _ _ (.inl rfl) e⟩
 |xd fs=>obtain⟨mA,⟨od,es,ep,e,c⟩,r⟩:=x;exact⟨mA,⟨od,es,ep,k _ _ (.inl rfl) e,c⟩,r⟩
 |rng lo hi=>obtain⟨t,u,v,e⟩:=x;exact⟨t,u,v,k _ _ (.inl rfl) e⟩
 |frz ob u ih=>obtain⟨e,q⟩:=x;exact⟨k _ _ (.inl rfl) e,ih q⟩
 |tbl ps=>
  have e:h.get? a=some {cls:=.none,data:=.fields ps}:=x
  show h'.get? a=some {cls:=.none,data:=.fields ps}
  exact k a _ (.inl rfl) e
 |met f y=>
  have e:h.get? a=some (PySem.W.methodObj (.ref f) (.ref y)):=x
  show h'.get? a=some (PySem.W.methodObj (.ref f) (.ref y))
  exact k a _ (.inl rfl) e
 |ext φ=>obtain⟨p,⟨o,e⟩,st⟩:=x;exact⟨st _ _ p fun o q=>k _ _ (.inl rfl) q,⟨o,k _ _ (.inl rfl) e⟩,st⟩
theorem HOk.lt (x:HOk P w H h)(e:H a=some o):a<h.objs.size:=(x a o e).lt
theorem HOk.fresh (x:HOk P w H h)(e:h.objs.size<=a):H a=none:=by
 cases q:H a with
 |none=>rfl
 |some u=>exact absurd (Nat.lt_of_lt_of_le (x.lt q) e) (Nat.lt_irrefl _)
theorem HOk.kept (x:HOk P w H h)(k:∀b u,h.get? b=some u->h'.get? b=some u):HOk P w H h':=fun a o e=>
 (x a o e).stay (fun b u _ q=>k b u q) (fun _ q=>q) fun _ _ q=>q
theorem HOk.laid (x:HOk P w H h)(k:∀b u,h.get? b=some u->h'.get? b=some u)(hp:h.objs.size<=a)(new:Bk P w (upd H a o) h' a o):HOk P w (upd H a o) h':=fun b u e=>by
 have hn:=x.fresh hp
 by_cases hb:b=a
 ·subst hb;rw[Ac]at e;cases e;exact new
 ·rw[Av hb]at e
  exact (x b u e).stay (fun c v _ q=>k c v q) (fun c q=>by rw[Av (BP q hn)];exact q) fun c xs q=>by rw[Av (BP q hn)];exact q
end
def Rd (H:Hp)(a:Addr)(u:HO):Prop:=H a=some u \/ ∃o,H a=some (.frz o u)
theorem Rd.ok {P:Program}{w:World}{H:Hp}{h:Heap}{a:Addr}{u:HO}(r:Rd H a u)(x:HOk P w H h):Bk P w H h a u:=by
 rcases r with r|⟨o,r⟩
 ·exact x a u r
 ·obtain⟨_,q⟩:=x a _ r
  exact q
def Mut:Option HO->Prop
 |some (.lst _)=>True
 |some (.dK _)=>True
 |some (.dT _)=>True
 |some (.set _ _)=>True
 |some (.ins _ _ _)=>True
 |some (.ext _)=>True
 |_=>False
section
variable {P:Program} {w:World} {H:Hp} {h h':Heap} {x e:Addr} {o':HO}
theorem HOk.write (ok:HOk P w H h)(mu:Mut (H x))(he:e=x\/H e=some (.own x))(k:∀b u,b≠e->h.get? b=some u->h'.get? b=some u)(heo:∃u,h'.get? e=some u)
  (new:Bk P w (upd H x o') h' x o'):HOk P w (upd H x o') h':=fun b u q=>by
 have nown:∀c y,H c=some (.own y)->c≠x:=fun c y r z=>by subst z;rw[r]at mu;exact mu
 have ntup:∀c xs,H c=some (.tup xs)->c≠x:=fun c xs r z=>by subst z;rw[r]at mu;exact mu
 by_cases hb:b=x
 ·subst hb;rw[Ac]at q;cases q;exact new
 ·rw[Av hb]at q
  by_cases hbe:b=e
  ·have q':H b=some (.own x):=by
    rcases he with z|z
    ·exact absurd (hbe.trans z) hb
    ·rw[hbe];exact z
   rw[q]at q';cases q'
   obtain⟨v,hv⟩:=heo
   exact⟨v,by rw[hbe];exact hv⟩
  ·refine (ok b u q).stay (fun c v hc r=>k c v ?_ r) (fun c r=>by rw[Av (nown c b r)];exact r) fun c xs r=>by rw[Av (ntup c xs r)];exact r
   rcases hc with rfl|hc
   ·exact hbe
   ·rintro rfl
    rcases he with z|z
    ·exact nown c b hc z
    ·rw[hc]at z;cases z;exact hb rfl
end
structure Un (fs ex:List Addr)(H H':Hp)(h h':Heap):Prop where
 keep:∀b o,h.get? b=some o->H b=none->b∉fs->b∉ex->h'.get? b=some o
 slot:∀b o,h.get? b=some o->H b=none->b∈fs->b∉ex->∃sl,h'.get? b=some {o with slots:=sl}
 free:∀b o,h.get? b=some o->H b=none->b∉ex->H' b=none
 there:∀b o,h.get? b=some o->b∉ex->∃o',h'.get? b=some o'
 tups:∀b xs,H b=some (.tup xs)->H' b=some (.tup xs)
 frzs:∀b o u,H b=some (.frz o u)->H' b=some (.frz o u)
 tbls:∀b ps,H b=some (.tbl ps)->∃more,H' b=some (.tbl (ps++more))
section
variable {fs fs' ex ex':List Addr} {H H1 H2:Hp} {h h1 h2 h':Heap} {a x e:Addr} {o:HO}
theorem Un.any (u:Un fs ex H H1 h h1){b:Addr}{ob:Obj}(q:h.get? b=some ob)(n:H b=none)(hx:b∉ex):∃sl,h1.get? b=some {ob with slots:=sl}:=by
 by_cases hb:b∈fs
 ·exact u.slot b ob q n hb hx
 ·exact⟨ob.slots,u.keep b ob q n hb hx⟩
theorem Un.kept (k:∀b u,h.get? b=some u->h'.get? b=some u):Un fs ex H H h h' :=
 ⟨fun b ob q _ _ _=>k b ob q,fun b ob q _ _ _=>⟨ob.slots,k b ob q⟩,fun _ _ _ n _=>n,fun b ob q _=>⟨ob,k b ob q⟩,fun _ _ q=>q,fun _ _ _ q=>q,fun _ ps q=>⟨#[],by rw[q];simp⟩⟩
theorem Un.refl:Un fs ex H H h h:=Un.kept fun _ _ q=>q
theorem Un.laid (k:∀b u,h.get? b=some u->h'.get? b=some u)(hp:h.objs.size<=a)(hn:H a=none):Un fs ex H (upd H a o) h h' where
 keep:=fun b u q _ _ _=>k b u q
 slot:=fun b u q _ _ _=>⟨u.slots,k b u q⟩
 free:=fun b u q n _=>by rw[Av (Nat.ne_of_lt (Nat.lt_of_lt_of_le (Heap.lt_size q) hp))];exact n
 there:=fun b u q _=>⟨u,k b u q⟩
 tups:=fun b xs q=>by rw[Av (BP q hn)];exact q
 frzs:=fun b u xs q=>by rw[Av (BP q hn)];exact q
 tbls:=fun b ps q=>⟨#[],by rw[Av (BP q hn),q];simp⟩
theorem Un.write (mu:Mut (H x))(he:e=x\/H e=some (.own x))(k:∀b u,b≠e->h.get? b=some u->h'.get? b=some u)(heo:∃u,h'.get? e=some u):Un fs ex H (upd H x o) h h':=by
 have hx:∀b,H b=none->b≠x:=fun b n z=>by subst z;rw[n]at mu;exact mu
 have hb:∀b,H b=none->b≠e:=fun b n z=>by
  subst z
  rcases he with r|r
  ·exact hx b n r
  ·rw[n]at r;cases r
 have hm:∀b u,H b=some u->¬ Mut (some u)->b≠x:=fun b u q nm z=>by subst z;rw[q]at mu;exact nm mu
 refine⟨fun b u q n _ _=>k b u (hb b n) q,fun b u q n _ _=>⟨u.slots,k b u (hb b n) q⟩,fun b u q n _=>by rw[Av (hx b n)];exact n,fun b u q _=>?_,
  fun b xs q=>by rw[Av (hm b _ q fun z=>z)];exact q,fun b u xs q=>by rw[Av (hm b _ q fun z=>z)];exact q,fun b ps q=>⟨#[],by rw[Av (hm b _ q fun z=>z),q];simp⟩⟩
 by_cases hbe:b=e
 ·subst hbe;exact heo
 ·exact⟨u,k b u hbe q⟩
end
def trk (h:Heap)(H:Hp):List Addr:=(List.range h.objs.size).filter fun a=>(H a).isSome
def hidT (h:Heap)(H:Hp):Heap:=PySem.W.hideAll h (trk h H)
theorem XR (h:Heap)(H:Hp):(hidT h H).objs.size=h.objs.size:=PySem.W.hideAll_size _ _
theorem Zw {h:Heap}{H:Hp}{b:Addr}{o:Obj}(e:h.get? b=some o)(n:H b=none):(hidT h H).get? b=some o:=
 PySem.W.hideAll_get _ e fun hm=>by
  have q:(H b).isSome=true:=(List.mem_filter.mp hm).2
  rw[n]at q;simp at q
theorem BM_ {h:Heap}{H:Hp}{b:Addr}{o:Obj}(e:(hidT h H).get? b=some o):h.get? b=some o/\H b=none:=by
 have e':h.get? b=some o:=PySem.W.of_hideAll (trk h H) e
 refine⟨e',?_⟩
 cases q:H b with
 |none=>rfl
 |some x=>
  have hm:b∈trk h H:=List.mem_filter.mpr ⟨List.mem_range.mpr (Heap.lt_size e'),by simp[q]⟩
  have z:(hidT h H).get? b=none:=PySem.W.hideAll_none (trk h H) hm
  rw[z]at e;cases e
def BN_ (g h:Heap)(L:Addr):List (Addr×Obj):=(List.range h.objs.size).filterMap fun a=>if a=L\/(g.get? a).isSome=true then none else (h.get? a).map fun o=>(a,o)
def rest (g h:Heap)(L d:Addr):List (Addr×Obj):=(BN_ g h L).filter fun p=>decide (p.1≠d)
end L2
namespace L2
open PySem PySem.Spec PyProof.Rows
structure Mod (K:PySem.W.Frag)(mg:Str->Option Value)(base:Heap):Prop where
 kin:K.In base
 glob:base.Ns mainGlobals mg
 blt:∃mb,base.Ns builtinsNs mb/\∀x:Str,x ≠ "__name__" -> mb x=bootBuiltins x
 nolimit:base.NoLimit
structure Cx where
 prog:Program
 w:World
 K:PySem.W.Frag
 mg:Str->Option Value
 base:Heap
 A:Around
 N:List Str
 s₀:Shared
 H₀:Hp
 env:Env
 outer:List Env
 stack:List Env
 ex:List Addr
 fn:Str->Bool
 calm:Bool
 pn:List (Addr×Obj)
 xe:Value->Shared->Prop
def frs (l:List Env):List Addr:=l.filterMap (·.frame)
abbrev Cx.fs (X:Cx):List Addr:=frs X.outer
def Vis (sc:Scope)(x:Str):Prop:=sc.names.lookup x=some .local\/sc.names.lookup x=some .cell\/sc.names.lookup x=some .free
def Loc (sc:Scope)(x:Str):Prop:=sc.names.lookup x=some .local\/sc.names.lookup x=some .cell
def Look (env:Env)(h:Heap)(m:Str->Option Value)(x:Str)(u:Value):Prop:=
 (env.kindOf x=some .local/\m x=some u)\/((env.kindOf x=some .cell\/env.kindOf x=some .free)/\∃c,env.cells.lookup x=some c/\h.IsCell c (some u))
structure Cx.Ok (X:Cx):Prop where
 mod:Mod X.K X.mg X.base
 kind:X.env.scope.kind=.function
 glob:X.env.globals=mainGlobals
 blt:X.env.builtins=builtinsNs
 above:X.s₀.heap.objs.size<=X.env.locals
 inj:∀x y c,X.env.cells.lookup x=some c->X.env.cells.lookup y=some c->x=y
 has:∀x,(X.env.kindOf x=some .cell\/X.env.kindOf x=some .free)->∃c,X.env.cells.lookup x=some c
 cab:∀x c,X.fn x=true->X.env.cells.lookup x=some c->X.s₀.heap.objs.size<=c
 hd:X.calm=true->X.A.handled=none
 frames:X.A.frames=some X.stack
 stk:X.stack=X.outer\/(X.stack=X.env::X.outer/\X.env.frame=some X.env.locals)
 exf:∀b∈X.ex,b≠X.env.locals/\∀x c,X.env.cells.lookup x=some c->c≠b
 bs:∀b o,X.base.get? b=some o->X.s₀.heap.get? b=some o/\X.H₀ b=none
 bsz:X.base.objs.size<=X.s₀.heap.objs.size
 noex:∀b o,X.base.get? b=some o->b∉X.ex
 exfs:∀b∈X.ex,b∉X.fs
 funs:X.s₀.heap.FunFrames X.base X.outer
 frf:∀b∈X.fs,X.H₀ b=none
structure Inv (X:Cx)(pins:List (Addr×Obj))(σ:List (Option V))(H:Hp)(s:Shared):Prop where
 ok:X.Ok
 os:s.os=X.s₀.os
 bare:AllBare s.gens
 base:Un X.fs X.ex X.H₀ H X.s₀.heap s.heap
 loc:∃m,s.heap.Ns X.env.locals m/\∀(i:Nat) (x:Str) (v:V),X.N[i]?=some x->σ[i]?=some (some v)->Vis X.env.scope x->∃u,RelV v u/\Look X.env s.heap m x u
 cell:∀x c,X.env.cells.lookup x=some c->∃v,s.heap.IsCell c v
 free:H X.env.locals=none
 freeC:∀x c,X.env.cells.lookup x=some c->H c=none
 pin:∀p∈X.pn++pins,s.heap.get? p.1=some p.2/\H p.1=none/\p.1≠X.env.locals/\p.1∉X.fs/\∀v,p.2.data ≠ .cell v
 hok:HOk X.prog X.w H s.heap
 len:σ.length=X.N.length
section
variable {X:Cx} {pins:List (Addr×Obj)} {σ:List (Option V)} {H H':Hp} {s:Shared} {h':Heap}
theorem Cx.Ok.nofr (ok:X.Ok){b:Addr}{o:Obj}(e:X.base.get? b=some o):b∉X.fs:=fun hb=>by
 have:=(ok.funs.mem hb).1
 rw[e]at this;cases this
theorem Inv.bs (I:Inv X pins σ H s):∀b o,X.base.get? b=some o->s.heap.get? b=some o/\H b=none:=fun b o e=>
 ⟨I.base.keep b o (I.ok.bs b o e).1 (I.ok.bs b o e).2 (I.ok.nofr e) (I.ok.noex b o e),I.base.free b o (I.ok.bs b o e).1 (I.ok.bs b o e).2 (I.ok.noex b o e)⟩
theorem Inv.bk (I:Inv X pins σ H s):∀b o,X.base.get? b=some o->s.heap.get? b=some o:=fun b o e=>(I.bs b o e).1
theorem Inv.mod (I:Inv X pins σ H s):Mod X.K X.mg X.base:=I.ok.mod
theorem Inv.kIn (I:Inv X pins σ H s):X.K.In s.heap:=I.ok.mod.kin.keeps I.bk
theorem Inv.lt (I:Inv X pins σ H s):X.env.locals<s.heap.objs.size:=let ⟨_,hn,_⟩:=I.loc;hn.lt
theorem Inv.sz (I:Inv X pins σ H s):X.s₀.heap.objs.size<=s.heap.objs.size:=Nat.le_trans I.ok.above (Nat.le_of_lt I.lt)
theorem Inv.nofs (I:Inv X pins σ H s){a:Addr}(h:s.heap.objs.size<=a):a∉X.fs:=fun hb=>by
 obtain⟨_,o,ho,_⟩:=I.ok.funs.mem hb
 exact absurd (Nat.lt_of_lt_of_le (Heap.lt_size ho) (Nat.le_trans I.sz h)) (Nat.lt_irrefl _)
theorem Inv.cne (I:Inv X pins σ H s):∀x c,X.env.cells.lookup x=some c->c≠X.env.locals:=fun x c e z=>by
 obtain⟨v,o,ho,hd⟩:=I.cell x c e
 obtain⟨m,⟨o',es,ep,ho',hd',_⟩,_⟩:=I.loc
 rw[z,ho']at ho;cases ho;rw[hd']at hd;cases hd
theorem Inv.funs (I:Inv X pins σ H s):s.heap.FunFrames X.base X.outer:=by
 have all:∀(l:List Env),(∀b∈frs l,b∈X.fs)->X.s₀.heap.FunFrames X.base l->s.heap.FunFrames X.base l:=by
  intro l
  induction l with
  |nil=>intro _ _;trivial
  |cons env r ih=>
   intro hs hl
   obtain⟨hk,⟨L,o,hf,hn,ho,hd⟩,hr⟩:=hl
   have hL:L∈X.fs:=hs L (by unfold frs;rw[List.filterMap_cons,hf];exact List.mem_cons_self)
   obtain⟨sl,e⟩:=I.base.slot L o ho (I.ok.frf L hL) hL fun z=>I.ok.exfs L z hL
   exact⟨hk,⟨L,_,hf,hn,e,hd⟩,ih (fun b hb=>hs b (by unfold frs;rw[List.filterMap_cons,hf];exact List.mem_cons_of_mem _ hb)) hr⟩
 exact all X.outer (fun _ hb=>hb) I.ok.funs
theorem Inv.stack (I:Inv X pins σ H s):s.heap.FunFrames X.base X.stack:=by
 rcases I.ok.stk with e|⟨e,hf⟩
 ·rw[e];exact I.funs
 ·rw[e]
  obtain⟨m,hn,_⟩:=I.loc
  refine .cons (by rw[I.ok.kind];decide) hf hn ?_ I.funs
  exact Heap.get?_none_of_le (Nat.le_trans I.ok.bsz I.ok.above)
theorem Inv.stkSub (I:Inv X pins σ H s):∀b∈frs X.stack,b∈X.env.locals::X.fs:=fun b hb=>by
 rcases I.ok.stk with e|⟨e,hf⟩
 ·rw[e]at hb;exact List.mem_cons_of_mem _ hb
 ·rw[e]at hb
  unfold frs at hb
  rw[List.filterMap_cons,hf]at hb
  exact hb
theorem Inv.stkFree (I:Inv X pins σ H s):∀b∈frs X.stack,H b=none:=fun b hb=>by
 rcases List.mem_cons.mp (I.stkSub b hb) with e|hb
 ·rw[e];exact I.free
 ·obtain⟨_,o,ho,_⟩:=I.ok.funs.mem hb
  exact I.base.free b o ho (I.ok.frf b hb) fun z=>I.ok.exfs b z hb
theorem Inv.step {g':Array GenState}{t':Nat}{d':Drawn}{ch:List Addr}(I:Inv X pins σ H s)
  (hch:∀b∈ch,(b∈X.ex\/X.s₀.heap.objs.size<=b)/\b≠X.env.locals/\(∀x c,X.env.cells.lookup x=some c->c≠b)/\∀p∈X.pn++pins,p.1≠b)
  (keep:∀b o,b≠X.env.locals->b∉X.fs->b∉ch->s.heap.get? b=some o->H b=none->h'.get? b=some o)
  (slot:∀b o,b≠X.env.locals->b∈X.fs->b∉ch->s.heap.get? b=some o->H b=none->∃sl,h'.get? b=some {o with slots:=sl}) (free:∀b o,b∉ch->s.heap.get? b=some o->H b=none->H' b=none)
  (there:∀b o,b∉ch->s.heap.get? b=some o->∃o',h'.get? b=some o')
  (tups:∀b xs,H b=some (.tup xs)->H' b=some (.tup xs)) (frzs:∀b o u,H b=some (.frz o u)->H' b=some (.frz o u)) (tbls:∀b ps,H b=some (.tbl ps)->∃more,H' b=some (.tbl (ps++more)))
  (ns:∀m,s.heap.Ns X.env.locals m->h'.Ns X.env.locals m) (hok:HOk X.prog X.w H' h') (hg:AllBare g'):
  Inv X pins σ H' {s with heap:=h',gens:=g',drawn:=d',toks:=t' }:=by
 have neL:∀b o,X.s₀.heap.get? b=some o->b≠X.env.locals:=fun b o e=>Nat.ne_of_lt (Nat.lt_of_lt_of_le (Heap.lt_size e) I.ok.above)
 have neC:∀b o,X.s₀.heap.get? b=some o->b∉X.ex->b∉ch:=fun b o e hx hb=>by
  rcases (hch b hb).1 with z|z
  ·exact hx z
  ·exact absurd (Nat.lt_of_lt_of_le (Heap.lt_size e) z) (Nat.lt_irrefl _)
 have cellK:∀x c,X.env.cells.lookup x=some c->∀v,s.heap.IsCell c v->h'.IsCell c v:=fun x c e v ⟨o,ho,hd⟩=>by
  have nch:c∉ch:=fun z=>(hch c z).2.2.1 x c e rfl
  by_cases hc:c∈X.fs
  ·obtain⟨sl,q⟩:=slot c o (I.cne x c e) hc nch ho (I.freeC x c e)
   exact⟨_,q,hd⟩
  ·exact⟨o,keep c o (I.cne x c e) hc nch ho (I.freeC x c e),hd⟩
 refine⟨I.ok,I.os,hg,⟨fun b o e n hb hx=>?_,fun b o e n hb hx=>?_,fun b o e n hx=>?_,fun b o e hx=>?_,fun b xs e=>tups b xs (I.base.tups b xs e),fun b o xs e=>frzs b o xs (I.base.frzs b o xs e),fun b ps e=>?_⟩,?_,fun x c e=>?_,?_,fun x c e=>?_,fun p hp=>?_,hok,I.len⟩
 ·exact keep b o (neL b o e) hb (neC b o e hx) (I.base.keep b o e n hb hx) (I.base.free b o e n hx)
 ·obtain⟨sl,e1⟩:=I.base.slot b o e n hb hx
  obtain⟨sl',e2⟩:=slot b _ (neL b o e) hb (neC b o e hx) e1 (I.base.free b o e n hx)
  exact⟨sl',e2⟩
 ·obtain⟨o',e1⟩:=I.base.there b o e hx
  exact free b o' (neC b o e hx) e1 (I.base.free b o e n hx)
 ·obtain⟨o',e1⟩:=I.base.there b o e hx
  exact there b o' (neC b o e hx) e1
 ·obtain⟨m1,e1⟩:=I.base.tbls b ps e
  obtain⟨m2,e2⟩:=tbls b _ e1
  exact⟨m1++m2,by rw[e2,Array.append_assoc]⟩
 ·obtain⟨m,hn,hl⟩:=I.loc
  refine⟨m,ns m hn,fun i x v e1 e2 e3=>?_⟩
  obtain⟨u,r,l⟩:=hl i x v e1 e2 e3
  refine⟨u,r,?_⟩
  rcases l with l|⟨k,c,e,z⟩
  ·exact .inl l
  ·exact .inr ⟨k,c,e,cellK x c e _ z⟩
 ·obtain⟨v,z⟩:=I.cell x c e
  exact⟨v,cellK x c e v z⟩
 ·obtain⟨m,⟨o,_,_,ho,_⟩,_⟩:=I.loc
  exact free _ o (fun z=>(hch _ z).2.1 rfl) ho I.free
 ·obtain⟨v,o,ho,hd⟩:=I.cell x c e
  exact free c o (fun z=>(hch c z).2.2.1 x c e rfl) ho (I.freeC x c e)
 ·obtain⟨e,n,ne,nf,d⟩:=I.pin p hp
  have nch:p.1∉ch:=fun z=>(hch p.1 z).2.2.2 p hp rfl
  exact⟨keep p.1 p.2 ne nf nch e n,free p.1 p.2 nch e n,ne,nf,d⟩
theorem Inv.un {t':Nat}(I:Inv X pins σ H s)(u:Un X.fs [] H H' s.heap h')(hok:HOk X.prog X.w H' h'):Inv X pins σ H' {s with heap:=h',toks:=t' }:=by
 obtain⟨m,⟨o,es,ep,ho,r⟩,_⟩:=id I.loc
 obtain⟨sl,hL⟩:=u.any ho I.free (by simp)
 exact I.step (g':=s.gens) (d':=s.drawn) (ch:=[]) (fun _ z=>nomatch z) (fun b o _ hb _ e n=>u.keep b o e n hb (by simp)) (fun b o _ hb _ e n=>u.slot b o e n hb (by simp)) (fun b o _ e n=>u.free b o e n (by simp)) (fun b o _ e=>u.there b o e (by simp)) u.tups u.frzs u.tbls (fun m' hm=>by
  obtain⟨o',es',ep',ho',r'⟩:=hm
  rw[ho]at ho';cases ho'
  exact⟨_,es',ep',hL,r'⟩) hok I.bare
theorem Inv.call {g':Array GenState}{t':Nat}{d':Drawn}{ch:List Addr}(I:Inv X pins σ H s)(u:Un (frs X.stack) ch H H' s.heap h')(hok:HOk X.prog X.w H' h')(hg:AllBare g')
  (hch:∀b∈ch,(b∈X.ex\/X.s₀.heap.objs.size<=b)/\b≠X.env.locals/\(∀x c,X.env.cells.lookup x=some c->c≠b)/\∀p∈X.pn++pins,p.1≠b):
  Inv X pins σ H' {s with heap:=h',gens:=g',drawn:=d',toks:=t' }:=by
 obtain⟨m,⟨o,es,ep,ho,r⟩,_⟩:=id I.loc
 obtain⟨sl,hL⟩:=u.any ho I.free fun z=>(hch _ z).2.1 rfl
 exact I.step (ch:=ch) hch (fun b o hL hb hc e n=>u.keep b o e n (fun z=>(List.mem_cons.mp (I.stkSub b z)).elim hL hb) hc) (fun b o _ _ hc e n=>u.any e n hc) (fun b o hc e n=>u.free b o e n hc) (fun b o hc e=>u.there b o e hc) u.tups u.frzs u.tbls (fun m' hm=>by
  obtain⟨o',es',ep',ho',r'⟩:=hm
  rw[ho]at ho';cases ho'
  exact⟨_,es',ep',hL,r'⟩) hok hg
theorem Inv.turned {t':Nat}{it:Addr}(I:Inv X pins σ H s)(k:∀b o,b≠it->s.heap.get? b=some o->h'.get? b=some o)(hn:H it=none)(hL:it≠X.env.locals)
  (h1:it∈X.ex\/X.s₀.heap.objs.size<=it) (h2:∀x c,X.env.cells.lookup x=some c->c≠it) (h3:∀p∈X.pn++pins,p.1≠it):Inv X pins σ H {s with heap:=h',toks:=t' }:=by
 have nit:∀b u,H b=some u->b≠it:=fun b u e z=>by rw[z,hn]at e;cases e
 refine I.step (g':=s.gens) (d':=s.drawn) (ch:=[it]) (fun b hb=>?_) (fun b o _ _ hc e _=>k b o (fun z=>hc (by simp[z])) e) (fun b o _ _ hc e _=>⟨o.slots,k b o (fun z=>hc (by simp[z])) e⟩) (fun _ _ _ _ n=>n)
  (fun b o hc e=>⟨o,k b o (fun z=>hc (by simp[z])) e⟩) (fun _ _ e=>e) (fun _ _ _ e=>e) (fun b ps e=>⟨#[],by rw[e];simp⟩) (fun m hm=>?_) (fun b u e=>?_) I.bare
 ·have e:b=it:=by simpa using hb
  subst e
  exact⟨h1,hL,h2,h3⟩
 ·obtain⟨o,es,ep,ho,r⟩:=hm
  exact⟨o,es,ep,k _ o (Ne.symm hL) ho,r⟩
 ·refine (I.hok b u e).stay (fun c v hc q=>k c v ?_ q) (fun _ q=>q) fun _ _ q=>q
  rcases hc with z|z
  ·rw[z];exact nit b u e
  ·exact nit c _ z
theorem Inv.tok (I:Inv X pins σ H s)(t:Nat):Inv X pins σ H {s with toks:=t}:=I.un (h':=s.heap) (t':=t) Un.refl I.hok
theorem Inv.kept {t':Nat}(I:Inv X pins σ H s)(k:∀b u,s.heap.get? b=some u->h'.get? b=some u):Inv X pins σ H {s with heap:=h',toks:=t' }:=I.un (Un.kept k) (I.hok.kept k)
theorem Inv.laid {a:Addr}{o:HO}{t':Nat}(I:Inv X pins σ H s)(k:∀b u,s.heap.get? b=some u->h'.get? b=some u)(hp:s.heap.objs.size<=a)(new:Bk X.prog X.w (upd H a o) h' a o):
  Inv X pins σ (upd H a o) {s with heap:=h',toks:=t' }:=I.un (Un.laid k hp (I.hok.fresh hp)) (I.hok.laid k hp new)
theorem Inv.write {x e:Addr}{o:HO}{t':Nat}(I:Inv X pins σ H s)(mu:Mut (H x))(he:e=x\/H e=some (.own x))(k:∀b u,b≠e->s.heap.get? b=some u->h'.get? b=some u)(heo:∃u,h'.get? e=some u)
  (new:Bk X.prog X.w (upd H x o) h' x o):Inv X pins σ (upd H x o) {s with heap:=h',toks:=t' }:=I.un (Un.write mu he k heo) (I.hok.write mu he k heo new)
theorem Inv.pins_of {pins':List (Addr×Obj)}(I:Inv X pins σ H s)(h:∀p∈pins',s.heap.get? p.1=some p.2/\H p.1=none/\p.1≠X.env.locals/\p.1∉X.fs/\∀v,p.2.data ≠ .cell v):Inv X pins' σ H s:=
 ⟨I.ok,I.os,I.bare,I.base,I.loc,I.cell,I.free,I.freeC,fun p hp=>(List.mem_append.mp hp).elim (fun z=>I.pin p (List.mem_append_left _ z)) (h p),I.hok,I.len⟩
theorem VQ {N:List Str}(hN:N.Nodup){i j:Nat}{x:Str}(a:N[i]?=some x)(b:N[j]?=some x):i=j:=by
 obtain⟨h1,e1⟩:=List.getElem?_eq_some_iff.mp a
 obtain⟨h2,e2⟩:=List.getElem?_eq_some_iff.mp b
 exact (List.getElem_inj hN).mp (e1.trans e2.symm)
theorem MK {M:Model}{A:Around}{E:Value->Shared->Prop}{i:Nat}{x:Str}{v:V}{u:Value}{Q:Unit->Shared->Prop}(I:Inv X pins σ H s)(hN:X.N.Nodup)(hi:X.N[i]?=some x)(hx:Loc X.env.scope x)(r:RelV v u)
  (h:∀s',Inv X pins (σ.set i (some v)) H s'->(∃a,Heap.SameBut a s.heap s'.heap/\(a=X.env.locals\/X.env.cells.lookup x=some a))->Q () s') (hf:X.fn x=true\/X.env.scope.names.lookup x=some .local:=by first|exact .inl rfl|exact .inr rfl|assumption):wpAny M A (storeName X.env x u) Q E s:=by
 obtain⟨m,hn,hl⟩:=id I.loc
 have hcls:(X.env.scope.kind == .class||(X.env.scope.kind == .module&&X.env.locals != X.env.globals))=false:=by rw[I.ok.kind];rfl
 have hiσ:i<σ.length:=by rw[I.len];exact (List.getElem?_eq_some_iff.mp hi).1
 have cne:=I.cne
 have tracked:∀{a:Addr} {h':Heap},(∃o,s.heap.get? a=some o/\H a=none)->Heap.SameBut a s.heap h'->HOk X.prog X.w H h':=fun {a h'} ha hs b ob e=>by
  obtain⟨_,_,hfree⟩:=ha
  refine (I.hok b ob e).stay (fun c w' hc q=>(hs.2 c ?_).trans q) (fun _ q=>q) fun _ _ q=>q
  rintro rfl
  rcases hc with rfl|hc
  ·rw[hfree]at e;cases e
  ·rw[hfree]at hc;cases hc
 rcases hx with hk|hk
 ·refine wpAny_storeName_local hk hn (fun h' hn' hs=>?_) hcls
  obtain⟨oL,_,_,hoL,_⟩:=id hn
  refine h _ ⟨I.ok,I.os,I.bare,⟨fun b o e n hb hx=>?_,fun b o e n hb hx=>?_,I.base.free,fun b o e hx=>?_,I.base.tups,I.base.frzs,I.base.tbls⟩,⟨_,hn',fun j y v' e1 e2 e3=>?_⟩,fun y c e=>?_,I.free,I.freeC,fun p hp=>?_,tracked ⟨oL,hoL,I.free⟩ hs,by simpa using I.len⟩ ⟨_,hs,.inl rfl⟩
  ·exact (hs.2 b (Nat.ne_of_lt (Nat.lt_of_lt_of_le (Heap.lt_size e) I.ok.above))).trans (I.base.keep b o e n hb hx)
  ·obtain⟨sl,e1⟩:=I.base.slot b o e n hb hx
   exact⟨sl,(hs.2 b (Nat.ne_of_lt (Nat.lt_of_lt_of_le (Heap.lt_size e) I.ok.above))).trans e1⟩
  ·obtain⟨o',e1⟩:=I.base.there b o e hx
   exact⟨o',(hs.2 b (Nat.ne_of_lt (Nat.lt_of_lt_of_le (Heap.lt_size e) I.ok.above))).trans e1⟩
  ·by_cases hj:j=i
   ·subst hj
    rw[hi]at e1;cases e1
    rw[List.getElem?_set_self hiσ]at e2
    cases e2
    exact⟨u,r,.inl ⟨hk,by simp⟩⟩
   ·rw[List.getElem?_set_ne (Ne.symm hj)]at e2
    obtain⟨u',r',q⟩:=hl j y v' e1 e2 e3
    refine⟨u',r',?_⟩
    rcases q with ⟨k,e⟩|⟨k,c,e,z⟩
    ·refine .inl ⟨k,?_⟩
     have:y≠x:=fun e=>hj (VQ hN e1 (e ▸ hi))
     simp[this,e]
    ·exact .inr ⟨k,c,e,z.sameBut hs (cne y c e)⟩
  ·obtain⟨w',z⟩:=I.cell y c e
   exact⟨w',z.sameBut hs (cne y c e)⟩
  ·obtain⟨e,n,ne,nf,d⟩:=I.pin p hp
   exact⟨(hs.2 p.1 ne).trans e,n,ne,nf,d⟩
 ·have hfn:X.fn x=true:=by
   rcases hf with z|z
   ·exact z
   ·rw[z]at hk;cases hk
  obtain⟨c,hc⟩:=I.ok.has x (.inl hk)
  obtain⟨w',z⟩:=I.cell x c hc
  refine wpAny_storeName_cell I.ok.kind hk hc z (fun h' hc' hs=>?_)
  obtain⟨oc,hoc,hocd⟩:=id z
  refine h {s with heap:=h' } ⟨I.ok,I.os,I.bare,⟨fun b o e n hb hx=>?_,fun b o e n hb hx=>?_,I.base.free,fun b o e hx=>?_,I.base.tups,I.base.frzs,I.base.tbls⟩,⟨m,hn.sameBut hs (Ne.symm (cne x c hc)),fun j y v' e1 e2 e3=>?_⟩,fun y c' e=>?_,I.free,I.freeC,fun p hp=>?_,tracked ⟨oc,hoc,I.freeC x c hc⟩ hs,by simpa using I.len⟩ ⟨c,hs,.inr hc⟩
  ·exact (hs.2 b (Nat.ne_of_lt (Nat.lt_of_lt_of_le (Heap.lt_size e) (I.ok.cab x c hfn hc)))).trans (I.base.keep b o e n hb hx)
  ·obtain⟨sl,e1⟩:=I.base.slot b o e n hb hx
   exact⟨sl,(hs.2 b (Nat.ne_of_lt (Nat.lt_of_lt_of_le (Heap.lt_size e) (I.ok.cab x c hfn hc)))).trans e1⟩
  ·obtain⟨o',e1⟩:=I.base.there b o e hx
   exact⟨o',(hs.2 b (Nat.ne_of_lt (Nat.lt_of_lt_of_le (Heap.lt_size e) (I.ok.cab x c hfn hc)))).trans e1⟩
  ·by_cases hj:j=i
   ·subst hj
    rw[hi]at e1;cases e1
    rw[List.getElem?_set_self hiσ]at e2
    cases e2
    exact⟨u,r,.inr ⟨.inl hk,c,hc,hc'⟩⟩
   ·rw[List.getElem?_set_ne (Ne.symm hj)]at e2
    obtain⟨u',r',q⟩:=hl j y v' e1 e2 e3
    refine⟨u',r',?_⟩
    rcases q with q|⟨k,c',e,z'⟩
    ·exact .inl q
    ·refine .inr ⟨k,c',e,z'.sameBut hs ?_⟩
     rintro rfl
     exact hj (VQ hN e1 (I.ok.inj _ _ _ e hc ▸ hi))
  ·by_cases hcc:c'=c
   ·subst hcc;exact⟨_,hc'⟩
   ·obtain⟨w2,z2⟩:=I.cell y c' e
    exact⟨w2,z2.sameBut hs hcc⟩
  ·obtain⟨e,n,ne,nf,d⟩:=I.pin p hp
   refine⟨(hs.2 p.1 ?_).trans e,n,ne,nf,d⟩
   intro q
   rw[q,hoc]at e
   have q':oc=p.2:=Option.some.inj e
   exact d w' (by rw[<-q'];exact hocd)
theorem PH {M:Model}{A:Around}{E:Value->Shared->Prop}{i:Nat}{x:Str}{v:V}{u:Value}{Q:Unit->Shared->Prop}(I:Inv X pins σ H s)(hN:X.N.Nodup)(hi:X.N[i]?=some x)(hx:Loc X.env.scope x)(r:RelV v u)
  (h:∀s',Inv X pins (σ.set i (some v)) H s'->Q () s') (hf:X.fn x=true\/X.env.scope.names.lookup x=some .local:=by first|exact .inl rfl|exact .inr rfl|assumption):wpAny M A (storeName X.env x u) Q E s:=
 MK I hN hi hx r (fun s' I' _=>h s' I') hf
theorem Inv.call' {s':Shared}{ch:List Addr}(I:Inv X pins σ H s)(ho:s'.os=s.os)(u:Un (frs X.stack) ch H H' s.heap s'.heap)(hok:HOk X.prog X.w H' s'.heap)(hg:AllBare s'.gens)
  (hch:∀b∈ch,(b∈X.ex\/X.s₀.heap.objs.size<=b)/\b≠X.env.locals/\(∀x c,X.env.cells.lookup x=some c->c≠b)/\∀p∈X.pn++pins,p.1≠b):Inv X pins σ H' s':=by
 obtain⟨h',g',d',t',o'⟩:=s'
 have e:o'=s.os:=ho
 subst e
 exact I.call (g':=g') (t':=t') (d':=d') u hok hg hch
end
abbrev XK:=Value->Option Addr->Hp->Prop
abbrev St:=List (Option V)
abbrev VK:=V->Hp->Prop
abbrev TE:=St->Hp->VK->Prop
abbrev TT:=St->Hp->(Bool->Hp->Prop)->Prop
abbrev TA:=St->Hp->(List V->Hp->Prop)->Prop
structure Ends where
 nx:St->Hp->Prop
 rt:VK
 bk:St->Hp->Prop:=fun _ _=>False
 ct:St->Hp->Prop:=fun _ _=>False
abbrev TS:=Ends->St->Hp->Prop
def EP (X:Cx)(pins:List (Addr×Obj))(σ:St)(Q:VK)(u:Value)(s':Shared):Prop:=∃v H',Inv X pins σ H' s'/\RelV v u/\Q v H'
def TP (X:Cx)(pins:List (Addr×Obj))(σ:St)(Q:Bool->Hp->Prop)(b:Bool)(s':Shared):Prop:=∃H',Inv X pins σ H' s'/\Q b H'
def AP (X:Cx)(pins:List (Addr×Obj))(σ:St)(Q:List V->Hp->Prop)(us:List Value)(s':Shared):Prop:=∃vs H',Inv X pins σ H' s'/\Vals vs us/\Q vs H'
def SP (X:Cx)(pins:List (Addr×Obj))(D:Ends)(f:Flow)(s':Shared):Prop:=
 match f with
 |.next=>∃σ' H',Inv X pins σ' H' s'/\D.nx σ' H'
 |.brk=>∃σ' H',Inv X pins σ' H' s'/\D.bk σ' H'
 |.cont=>∃σ' H',Inv X pins σ' H' s'/\D.ct σ' H'
 |.ret u=>∃v σ' H',Inv X pins σ' H' s'/\RelV v u/\D.rt v H'
def PE (X:Cx)(e:Expr)(t:TE):Prop:=
 ∀(pins:List (Addr×Obj)) (s:Shared) (σ:St) (H:Hp) (Q:VK),Inv X pins σ H s->t σ H Q->wpAny (model X.prog X.w) X.A (eval e X.env) (EP X pins σ Q) X.xe s
def PT (X:Cx)(e:Expr)(t:TT):Prop:=
 ∀(pins:List (Addr×Obj)) (s:Shared) (σ:St) (H:Hp) (Q:Bool->Hp->Prop),Inv X pins σ H s->t σ H Q->wpAny (model X.prog X.w) X.A (isTrue e X.env (eval e X.env)) (TP X pins σ Q) X.xe s
def PW (X:Cx)(e:Expr)(t:TT):Prop:=
 ∀(whole:Sem Value) (pins:List (Addr×Obj)) (s:Shared) (σ:St) (H:Hp) (Q:Bool->Hp->Prop),Inv X pins σ H s->t σ H Q->wpAny (model X.prog X.w) X.A (isTrue e X.env whole) (TP X pins σ Q) X.xe s
theorem PW.pt {X:Cx}{e:Expr}{t:TT}(h:PW X e t):PT X e t:=h _
def PA (X:Cx)(es:List Expr)(t:TA):Prop:=
 ∀(pos:Pos) (pins:List (Addr×Obj)) (s:Shared) (σ:St) (H:Hp) (Q:List V->Hp->Prop),Inv X pins σ H s->t σ H Q->wpAny (model X.prog X.w) X.A (spliced (backTo pos (starEach es X.env))) (AP X pins σ Q) X.xe s
def PS (X:Cx)(st:Stmt)(t:TS):Prop:=
 ∀(pins:List (Addr×Obj)) (s:Shared) (σ:St) (H:Hp) (D:Ends),Inv X pins σ H s->t D σ H->wpAny (model X.prog X.w) X.A (exec st X.env) (SP X pins D) X.xe s
def PSs (X:Cx)(st:List Stmt)(t:TS):Prop:=
 ∀(pins:List (Addr×Obj)) (s:Shared) (σ:St) (H:Hp) (D:Ends),Inv X pins σ H s->t D σ H->wpAny (model X.prog X.w) X.A (execs st X.env) (SP X pins D) X.xe s
theorem thn {α:Type}{t:Sem α}{Q Q':α->Shared->Prop}{M:Model}{A:Around}{E:Value->Shared->Prop}{s:Shared}(h:wpAny M A t Q E s)(hQ:∀a s,Q a s->Q' a s):wpAny M A t Q' E s:=wpAny_mono h hQ fun _ _ x=>x
end L2
namespace L2
open PySem PySem.Spec PyProof.Rows
section
variable {X:Cx}
def tVar (i:Nat):TE:=fun σ H Q=>∃v,σ[i]?=some (some v)/\Q v H
def tC (v:V):TE:=fun _ H Q=>Q v H
theorem CL_ {i:Nat}{x:Str}{pos:Pos}(hN:X.N[i]?=some x)(hv:Vis X.env.scope x)(hd:(x==("__debug__" : Str))=false:=by decide)(hcd:(x==("__classdict__" : Str))=false:=by decide):PE X (.Name x pos) (tVar i):=by
 intro pins s σ H Q I h
 obtain⟨v,e,h⟩:=h
 obtain⟨m,hn,hl⟩:=I.loc
 obtain⟨u,r,l⟩:=hl i x v hN e hv
 have fin:EP X pins σ Q u s:=⟨v,H,I,r,h⟩
 rcases l with ⟨hk,hm⟩|⟨hk,c,hc,hcell⟩
 ·exact wpAny_Name (wpAny_loadName_local I.ok.kind hk hn hm fin) hd
 ·rcases hk with hk|hk
  ·exact wpAny_Name (wpAny_loadName_cell I.ok.kind hk hc hcell fin) hd
  ·exact wpAny_Name (wpAny_loadName_free I.ok.kind hk hc hcell fin hcd) hd
theorem Ag {i j pos}:PE X (.Constant (.int i) j pos) (tC (.int i)):=fun _ _ _ H _ I h=>wpAny_Constant_int ⟨.int i,H,I.tok _,⟨_,rfl⟩,h⟩
theorem Gn {b j pos}:PE X (.Constant (.bool b) j pos) (tC (.bl b)):=fun _ _ _ H _ I h=>Constant_bool ⟨.bl b,H,I,rfl,h⟩
theorem Tg {j pos}:PE X (.Constant .none j pos) (tC .non):=fun _ _ _ H _ I h=>Constant_none ⟨.non,H,I,rfl,h⟩
theorem AL_ {x j pos}:PE X (.Constant (.str x) j pos) (tC (.str x)):=fun _ _ _ H _ I h=>Calls.Constant_str ⟨.str x,H,I.tok _,⟨_,rfl⟩,h⟩
def Gl (X:Cx)(x:Str):Prop:=X.env.kindOf x=some .globalImplicit
theorem XS {E:Value->Shared->Prop}{pins:List (Addr×Obj)}{s:Shared}{σ:St}{H:Hp}{x:Str}{u:Value}{pos:Pos}{Q:Value->Shared->Prop}(I:Inv X pins σ H s)(hg:Gl X x)(hm:X.mg x=some u)(h:Q u s)
  (hd:(x==("__debug__" : Str))=false:=by decide):wpAny (model X.prog X.w) X.A (eval (.Name x pos) X.env) Q E s:=
 Calls.Name_function_global I.ok.kind hg (Calls.loadGlobal_global (by rw[I.ok.glob];exact I.mod.glob.keeps I.bk) hm h) hd
theorem Jl {E:Value->Shared->Prop}{pins:List (Addr×Obj)}{s:Shared}{σ:St}{H:Hp}{x:Str}{u:Value}{pos:Pos}{Q:Value->Shared->Prop}(I:Inv X pins σ H s)(hg:Gl X x)(hm:X.mg x=none)(hv:bootBuiltins x=some u)(h:Q u s)
  (hn:x ≠ "__name__" := by decide) (hd:(x==("__debug__" : Str))=false:=by decide):wpAny (model X.prog X.w) X.A (eval (.Name x pos) X.env) Q E s:=by
 obtain⟨mb,h1,h2⟩:=I.mod.blt
 exact Calls.Name_function_global I.ok.kind hg (Calls.loadGlobal_builtin (by rw[I.ok.glob];exact I.mod.glob.keeps I.bk) hm (by rw[I.ok.blt];exact h1.keeps I.bk) ((h2 x hn).trans hv) h) hd
theorem Hw {x:Str}{v:V}{u:Value}{pos:Pos}(hg:Gl X x)(hm:X.mg x=none)(hv:bootBuiltins x=some u)(r:RelV v u)(hn:x ≠ "__name__" := by decide)(hd:(x==("__debug__" : Str))=false:=by decide):PE X (.Name x pos) (tC v):=
 fun _ _ _ H _ I h=>Jl I hg hm hv ⟨v,H,I,r,h⟩ hn hd
variable {a b:Expr} {ta tb:TE} {pos:Pos}
def tB (t:TE):TT:=fun σ H Q=>t σ H fun x H1=>∃c,x=.bl c/\Q c H1
theorem Eu {e:Expr}{t:TE}(h:PE X e t)(he:∀whole,isTrue e X.env whole=(do let v <- whole;standAt e.pos;holding [v] (truthy v)):=by intro _;rfl):PT X e (tB t):=by
 intro pins s σ H Q I hw
 refine isTrue_plain (thn (h pins s σ H _ I hw) fun v s1 ⟨x,H1,I1,r1,q1⟩=>?_) (he _)
 obtain⟨d,rfl,q⟩:=q1
 cases r1
 exact wpAny_truthy_bool ⟨H1,I1,q⟩
variable {tA tB':TT} {rest:List Expr}
def tOr (t u:TT):TT:=fun σ H Q=>t σ H fun c H1=>if c=true then Q true H1 else u σ H1 Q
def tNot (t:TT):TT:=fun σ H Q=>t σ H fun c H1=>Q (!c) H1
theorem J1 (ha:PT X a tA):PW X (.BoolOp .Or [a] pos) tA:=by
 intro wh pins s σ H Q I h
 refine isTrue_or (thn (ha pins s σ H Q I h) fun c s1 e=>?_)
 cases c with
 |false=>exact isTrue_or_nil e
 |true=>exact e
theorem L7 (ha:PT X a tA)(hb:PW X (.BoolOp .Or (b::rest) pos) tB'):PW X (.BoolOp .Or (a::b::rest) pos) (tOr tA tB'):=by
 intro wh pins s σ H Q I h
 refine isTrue_or (thn (ha pins s σ H _ I h) fun c s1 ⟨H1,I1,q1⟩=>?_)
 cases c with
 |true=>exact⟨H1,I1,q1⟩
 |false=>exact hb wh pins s1 σ H1 Q I1 q1
theorem Fl (ha:PT X a tA):PT X (.UnaryOp .Not a pos) (tNot tA):=by
 intro pins s σ H Q I h
 exact isTrue_not (ha pins s σ H (fun c H1=>Q (!c) H1) I h)
def CM_ (ta tb:TE):TE:=fun σ H Q=>ta σ H fun x H1=>∃c,x=.bl c/\if c=true then tb σ H1 Q else Q (.bl false) H1
def CN_ (ta:TE):TE:=fun σ H Q=>ta σ H fun x H1=>∃c,x=.bl c/\Q (.bl (!c)) H1
theorem CO_ {op}{t:TE}(h:PE X a t):PE X (.BoolOp op [a] pos) t:=fun pins s σ H Q I hw=>BoolOp_one (h pins s σ H Q I hw)
theorem CP_ (ha:PE X a ta)(hb:PE X (.BoolOp .And (b::rest) pos) tb):PE X (.BoolOp .And (a::b::rest) pos) (CM_ ta tb):=by
 intro pins s σ H Q I h
 refine BoolOp_and (thn (ha pins s σ H _ I h) fun v s1 ⟨x,H1,I1,r1,q1⟩=>?_)
 obtain⟨c,rfl,q1⟩:=q1
 cases r1
 refine wpAny_truthy_bool ?_
 cases c with
 |true=>exact hb pins s1 σ H1 Q I1 q1
 |false=>exact⟨.bl false,H1,I1,rfl,q1⟩
theorem CQ_ (ha:PE X a ta):PE X (.UnaryOp .Not a pos) (CN_ ta):=by
 intro pins s σ H Q I h
 refine UnaryOp_ (thn (ha pins s σ H _ I h) fun v s1 ⟨x,H1,I1,r1,q1⟩=>?_)
 obtain⟨c,rfl,q1⟩:=q1
 cases r1
 exact not_of (wpAny_truthy_bool ⟨.bl (!c),H1,I1,rfl,q1⟩)
def tIf (t:TT)(ta tb:TE):TE:=fun σ H Q=>t σ H fun c H1=>if c=true then ta σ H1 Q else tb σ H1 Q
theorem VR {c:Expr}(hc:PT X c tA)(ha:PE X a ta)(hb:PE X b tb):PE X (.IfExp c a b pos) (tIf tA ta tb):=by
 intro pins s σ H Q I h
 refine wpAny_IfExp (thn (hc pins s σ H _ I h) fun d s1 ⟨H1,I1,q1⟩=>?_)
 cases d with
 |true=>exact ha pins s1 σ H1 Q I1 q1
 |false=>exact hb pins s1 σ H1 Q I1 q1
end
end L2
namespace L2
open PySem PySem.Spec PyProof.Rows
def SqL (K:PySem.W.Frag)(H:Hp)(a:Addr)(xs:List V):Prop:=
 Rd H a (.lst xs) \/
  ∃(o:Obj) (its:Array Value) (n:Nat),K.lookup a=some o/\o.cls=.type "list" /\ o.dict=none/\o.data=.seq its n/\its.size<=sizeLine/\Vals xs its.toList
def SqT (K:PySem.W.Frag)(H:Hp)(a:Addr)(xs:List V):Prop:=
 Rd H a (.tup xs) \/
  ∃(o:Obj) (its:Array Value) (n:Nat),K.lookup a=some o/\o.cls=.type "tuple" /\ o.data=.seq its n/\its.size<=sizeLine/\Vals xs its.toList
def absV:Value->Option V
 |.none=>some .non
 |.bool b=>some (.bl b)
 |.int i _=>some (.int i)
 |.str x _=>some (.str x)
 |.bytes b _=>some (.byt b)
 |.float b _=>some (.flt b)
 |.ref a=>some (.ref a)
 |.type n=>some (.ty n)
 |_=>none
theorem RelV.abs {x:V}{u:Value}(r:RelV x u):absV u=some x:=by
 cases x with
 |non=>cases r;rfl
 |bl _=>cases r;rfl
 |int _=>obtain⟨t,rfl⟩:=r;rfl
 |str _=>obtain⟨t,rfl⟩:=r;rfl
 |byt _=>obtain⟨t,rfl⟩:=r;rfl
 |flt _=>obtain⟨t,rfl⟩:=r;rfl
 |ref _=>cases r;rfl
 |ty _=>cases r;rfl
theorem RelV.inj {x y:V}{u:Value}(r:RelV x u)(q:RelV y u):x=y:=Option.some.inj (r.abs.symm.trans q.abs)
theorem Vals.inj:∀{xs ys:List V} {us:List Value},Vals xs us->Vals ys us->xs=ys
 |_,_,_,.nil,.nil=>rfl
 |_,_,_,.cons r t,.cons r' t'=>by rw[r.inj r',Vals.inj t t']
section
variable {X:Cx} {pins:List (Addr×Obj)} {σ:St} {H:Hp} {s:Shared} {a:Addr} {xs ys:List V}
theorem SqL.of {K:PySem.W.Frag}(h:H a=some (.lst xs)):SqL K H a xs:=.inl (.inl h)
theorem SqT.of {K:PySem.W.Frag}(h:H a=some (.tup xs)):SqT K H a xs:=.inl (.inl h)
theorem Inv.list (I:Inv X pins σ H s)(h:SqL X.K H a xs):∃its:List Value,Vals xs its/\PlainL s.heap a its.toArray/\xs.length<=sizeLine:=by
 rcases h with h|⟨o,its,n,hk,hc,hd,hs,hz,r⟩
 ·obtain⟨z,its,n,r,e⟩:=h.ok I.hok
  exact⟨its,r,⟨_,n,e,rfl,rfl,rfl⟩,z⟩
 ·refine⟨its.toList,r,⟨o,n,I.kIn a o hk,hc,hd,by simpa using hs⟩,?_⟩
  have e:=r.length
  simp only[Array.length_toList]at e
  omega
theorem Inv.tuple (I:Inv X pins σ H s)(h:SqT X.K H a xs):∃its:List Value,Vals xs its/\IsTup s.heap a its.toArray/\xs.length<=sizeLine:=by
 rcases h with h|⟨o,its,n,hk,hc,hs,hz,r⟩
 ·obtain⟨z,its,r,p⟩:=h.ok I.hok
  exact⟨its,r,p,z⟩
 ·refine⟨its.toList,r,⟨o,I.kIn a o hk,hc,n,by simpa using hs⟩,?_⟩
  have e:=r.length
  simp only[Array.length_toList]at e
  omega
theorem Inv.list_inj (I:Inv X pins σ H s)(h:SqL X.K H a xs)(h':SqL X.K H a ys):xs=ys:=by
 obtain⟨its,r,⟨o,n,e,_,_,d⟩,_⟩:=I.list h
 obtain⟨its',r',⟨o',n',e',_,_,d'⟩,_⟩:=I.list h'
 rw[e]at e';cases e'
 rw[d]at d'
 injection d' with d1 _
 have:its=its':=by simpa using congrArg Array.toList d1
 subst this
 exact r.inj r'
theorem Inv.tuple_inj (I:Inv X pins σ H s)(h:SqT X.K H a xs)(h':SqT X.K H a ys):xs=ys:=by
 obtain⟨its,r,⟨o,e,_,n,d⟩,_⟩:=I.tuple h
 obtain⟨its',r',⟨o',e',_,n',d'⟩,_⟩:=I.tuple h'
 rw[e]at e';cases e'
 rw[d]at d'
 injection d' with d1 _
 have:its=its':=by simpa using congrArg Array.toList d1
 subst this
 exact r.inj r'
end
abbrev Cx.wish (X:Cx)(E:Value->Shared->Prop):Cx:={X with xe:=E}
abbrev Cx.nox (X:Cx):Cx:=X.wish fun _ _=>False
theorem Cx.Ok.wish {X:Cx}(ok:X.Ok)(E:Value->Shared->Prop):(X.wish E).Ok:=
 ⟨ok.mod,ok.kind,ok.glob,ok.blt,ok.above,ok.inj,ok.has,ok.cab,ok.hd,ok.frames,ok.stk,ok.exf,ok.bs,ok.bsz,ok.noex,ok.exfs,ok.funs,ok.frf⟩
theorem Cx.Ok.unwish {X:Cx}{E:Value->Shared->Prop}(ok:(X.wish E).Ok):X.Ok:=
 ⟨ok.mod,ok.kind,ok.glob,ok.blt,ok.above,ok.inj,ok.has,ok.cab,ok.hd,ok.frames,ok.stk,ok.exf,ok.bs,ok.bsz,ok.noex,ok.exfs,ok.funs,ok.frf⟩
section
variable {X:Cx} {pins:List (Addr×Obj)} {σ:St} {H:Hp} {s:Shared} {E:Value->Shared->Prop}
theorem Inv.wish (I:Inv X pins σ H s)(E:Value->Shared->Prop):Inv (X.wish E) pins σ H s:=⟨I.ok.wish E,I.os,I.bare,I.base,I.loc,I.cell,I.free,I.freeC,I.pin,I.hok,I.len⟩
theorem Inv.unwish (I:Inv (X.wish E) pins σ H s):Inv X pins σ H s:=⟨I.ok.unwish,I.os,I.bare,I.base,I.loc,I.cell,I.free,I.freeC,I.pin,I.hok,I.len⟩
theorem SP.unwish {D:Ends}{f:Flow}{s':Shared}(h:SP (X.wish E) pins D f s'):SP X pins D f s':=by
 cases f with
 |next=>obtain⟨σ',H',I,q⟩:=h;exact⟨σ',H',I.unwish,q⟩
 |brk=>obtain⟨σ',H',I,q⟩:=h;exact⟨σ',H',I.unwish,q⟩
 |cont=>obtain⟨σ',H',I,q⟩:=h;exact⟨σ',H',I.unwish,q⟩
 |ret u=>obtain⟨v,σ',H',I,r,q⟩:=h;exact⟨v,σ',H',I.unwish,r,q⟩
theorem PSs.nox {st:List Stmt}{t:TS}(h:PSs X.nox st t):PSs X st t:=fun pins s σ H D I hw=>
 wpAny_mono (h pins s σ H D (I.wish _) hw) (fun _ _ q=>q.unwish) fun _ _ z=>False.elim z
end
section
variable {X:Cx} {st:Stmt} {rest:List Stmt} {t u:TS} {e:Expr} {te:TE} {pos:Pos}
def CR_:TS:=fun D σ H=>D.nx σ H
def tSeq (t u:TS):TS:=fun D σ H=>t {D with nx:=u D} σ H
theorem Bb:PSs X [] CR_:=fun _ _ σ H _ I h=>wpAny_execs_nil ⟨σ,H,I,h⟩
theorem Ad (h1:PS X st t)(h2:PSs X rest u):PSs X (st::rest) (tSeq t u):=by
 intro pins s σ H D I h
 refine wpAny_execs_cons (thn (h1 pins s σ H {D with nx:=u D} I h) fun f s1 q=>?_)
 cases f with
 |next=>
  obtain⟨σ',H',I',q⟩:=q
  exact h2 pins s1 σ' H' D I' q
 |ret v=>exact q
 |brk=>exact q
 |cont=>exact q
theorem Af (h1:PS X st t):PSs X [st] t:=by
 intro pins s σ H D I h
 refine wpAny_execs_cons (thn (h1 pins s σ H D I h) fun f s1 q=>?_)
 cases f with
 |next=>exact wpAny_execs_nil q
 |ret v=>exact q
 |brk=>exact q
 |cont=>exact q
theorem Inv.quiet {pins:List (Addr×Obj)}{σ:St}{H:Hp}{s:Shared}(I:Inv X pins σ H s):interactive X.env=false:=by simp[interactive,I.ok.kind]
def CS_ (te:TE):TS:=fun D σ H=>te σ H fun _ H1=>D.nx σ H1
theorem DO (he:PE X e te)(hs:swapsWith e none pos.line X.env=pure false:=by rfl):PS X (.Expr e pos) (CS_ te):=by
 intro pins s σ H D I h
 exact wpAny_Expr_any (thn (he pins s σ H _ I h) fun v s1 ⟨x,H1,I1,r1,q1⟩=>⟨σ,H1,I1,q1⟩) I.quiet hs
def tRet (te:TE):TS:=fun D σ H=>te σ H D.rt
theorem Aq (he:PE X e te):PS X (.Return (some e) pos) (tRet te):=by
 intro pins s σ H D I h
 exact wpAny_Return_some (thn (he pins s σ H _ I h) fun v s1 ⟨x,H1,I1,r1,q1⟩=>⟨x,σ,H1,I1,r1,q1⟩)
def tIfS (c:TT)(t u:TS):TS:=fun D σ H=>c σ H fun b H1=>if b=true then t D σ H1 else u D σ H1
theorem Et {c:Expr}{a b:List Stmt}{tc:TT}(hc:PT X c tc)(ha:PSs X a t)(hb:PSs X b u):PS X (.If c a b pos) (tIfS tc t u):=by
 intro pins s σ H D I h
 refine wpAny_If (thn (hc pins s σ H _ I h) fun d s1 ⟨H1,I1,q1⟩=>?_)
 cases d with
 |true=>exact ha pins s1 σ H1 D I1 q1
 |false=>exact hb pins s1 σ H1 D I1 q1
end
abbrev TG:=V->St->Hp->(St->Hp->Prop)->Prop
abbrev TGs:=List V->St->Hp->(St->Hp->Prop)->Prop
def PG (X:Cx)(target:Expr)(t:TG):Prop:=
 ∀(pins:List (Addr×Obj)) (s:Shared) (σ:St) (H:Hp) (v:V) (u:Value) (Q:St->Hp->Prop),Inv X pins σ H s->RelV v u->t v σ H Q ->
  wpAny (model X.prog X.w) X.A (assign target X.env u) (fun _ s'=>∃σ' H',Inv X pins σ' H' s'/\Q σ' H') X.xe s
def PGs (X:Cx)(ts:List Expr)(t:TGs):Prop:=
 ∀(pins:List (Addr×Obj)) (s:Shared) (σ:St) (H:Hp) (vs:List V) (us:List Value) (Q:St->Hp->Prop),Inv X pins σ H s->Vals vs us->t vs σ H Q ->
  wpAny (model X.prog X.w) X.A (assignInOrder ((assignEach ts X.env).map (·.2)) us) (fun _ s'=>∃σ' H',Inv X pins σ' H' s'/\Q σ' H') X.xe s
abbrev TSet:=V->V->V->Hp->(Hp->Prop)->Prop
def PSet (X:Cx)(t:TSet):Prop:=
 ∀(pins:List (Addr×Obj)) (s:Shared) (σ:St) (H:Hp) (o i v:V) (ov iv u:Value) (Q:Hp->Prop),Inv X pins σ H s->RelV o ov->RelV i iv->RelV v u->t o i v H Q ->
  wpAny (model X.prog X.w) X.A (setItem ov iv u) (fun _ s'=>∃H',Inv X pins σ H' s'/\Q H') X.xe s
abbrev TIp:=V->V->Hp->VK->Prop
def PIp (X:Cx)(op:Operator)(t:TIp):Prop:=
 ∀(pins:List (Addr×Obj)) (s:Shared) (σ:St) (H:Hp) (x y:V) (v u:Value) (Q:VK),Inv X pins σ H s->RelV x v->RelV y u->t x y H Q ->
  wpAny (model X.prog X.w) X.A (inplaceOp op v u) (EP X pins σ Q) X.xe s
section
variable {X:Cx} {pos:Pos}
def J2 (i:Nat):TG:=fun v σ H Q=>Q (σ.set i (some v)) H
theorem Ak {i:Nat}{x:Str}(hN:X.N.Nodup)(hi:X.N[i]?=some x)(hx:Loc X.env.scope x)(hf:X.fn x=true\/X.env.scope.names.lookup x=some .local:=by first|exact .inl rfl|exact .inr rfl|assumption):PG X (.Name x pos) (J2 i):=by
 intro pins s σ H v u Q I r h
 exact wpAny_assign_Name (PH I hN hi hx r (fun s' I'=>⟨_,H,I',h⟩) hf)
def gNil:TGs:=fun vs σ H Q=>vs=[]/\Q σ H
def CT_ (t:TG)(u:TGs):TGs:=fun vs σ H Q=>∃v r,vs=v::r/\t v σ H fun σ' H'=>u r σ' H' Q
theorem K4:PGs X [] gNil:=by
 intro pins s σ H vs us Q I r h
 obtain⟨e,h⟩:=h
 subst e
 cases r
 exact assignInOrder_nil ⟨σ,H,I,h⟩
theorem DL {e:Expr}{es:List Expr}{t:TG}{u:TGs}(h1:PG X e t)(h2:PGs X es u)
  (hs:(assignEach (e::es) X.env).map (·.2)=assign e X.env::(assignEach es X.env).map (·.2):=by rfl):PGs X (e::es) (CT_ t u):=by
 intro pins s σ H vs us Q I r h
 obtain⟨v,vr,e1,h⟩:=h
 subst e1
 cases r with
 |cons r rr=>
  rw[hs]
  refine assignInOrder_cons (thn (h1 pins s σ H _ _ _ I r h) fun _ s1 ⟨σ1,H1,I1,q1⟩=>?_)
  exact h2 pins s1 σ1 H1 _ _ Q I1 rr q1
def gTup (K:PySem.W.Frag)(n:Nat)(t:TGs):TG:=fun v σ H Q=>∃a xs,v=.ref a/\SqT K H a xs/\xs.length=n/\t xs σ H Q
theorem VS {es:List Expr}{k:Nat}{t:TGs}{n:Nat}(hc:X.calm=true)(h:PGs X es t)
  (hn:(assignEach es X.env).length=n:=by rfl) (hst:(assignEach es X.env).findIdx? (·.1)=none:=by rfl):PG X (.Tuple es k pos) (gTup X.K n t):=by
 intro pins s σ H v u Q I r hw
 obtain⟨a,xs,e1,hq,hl,hw⟩:=hw
 subst e1
 cases r
 obtain⟨its,rv,ht,hz⟩:=I.tuple hq
 refine assign_Tuple_tuple (I.ok.hd hc) ht (by simp[hn,<-hl,rv.length]) hst fun h' hx=>?_
 have I1:Inv X pins σ H {s with heap:=h' }:=I.kept (t':=s.toks) fun b o e=>hx b o (Nat.ne_of_lt (Heap.lt_size e)) e
 exact h pins _ σ H xs _ Q I1 (by simpa using rv) hw
def gSub (to ti:TE)(t:TSet):TG:=fun v σ H Q=>to σ H fun o H1=>ti σ H1 fun i H2=>t o i v H2 fun H3=>Q σ H3
theorem CU_ {o i:Expr}{to ti:TE}{t:TSet}(ho:PE X o to)(hi:PE X i ti)(hs:PSet X t)
  (ha:∀v,assign (.Subscript o i pos) X.env v=(do
   let ov <- holding [v] (eval o X.env)
   let iv <- holding [v,ov] (eval i X.env)
   standAt pos
   holding [v,ov,iv] (setItem ov iv v)
   release [v,ov,iv] []):=by intro _;rfl):PG X (.Subscript o i pos) (gSub to ti t):=by
 intro pins s σ H v u Q I r h
 rw[ha]
 refine wpAny_bind (wpAny_holding (thn (ho pins s σ H _ I h) fun ov s1 ⟨x,H1,I1,r1,q1⟩=>?_))
 refine wpAny_bind (wpAny_holding (thn (hi pins s1 σ H1 _ I1 q1) fun iv s2 ⟨y,H2,I2,r2,q2⟩=>?_))
 refine wpAny_bind (wpAny_standAt (wpAny_bind (wpAny_holding (thn (hs pins s2 σ H2 x y v ov iv u _ I2 r1 r2 r q2) fun _ s3 ⟨H3,I3,q3⟩=>?_))))
 exact wpAny_release ⟨σ,H3,I3,q3⟩
def tAsg (te:TE)(g:TG):TS:=fun D σ H=>te σ H fun x H1=>g x σ H1 D.nx
theorem CV_ {tg e:Expr}{te:TE}{g:TG}(he:PE X e te)(hg:PG X tg g)(hs:swapsWithSole [tg] e pos.line X.env=pure false:=by rfl)(hw:swappedStores [tg] e X.env=pure none:=by rfl)
  (h1:(assignEach [tg] X.env).map (·.2)=[assign tg X.env]:=by rfl):PS X (.Assign [tg] e pos) (tAsg te g):=by
 intro pins s σ H D I h
 refine wpAny_Assign_stores (thn (he pins s σ H _ I h) fun v s1 ⟨x,H1,I1,r1,q1⟩=>?_) hs hw
 rw[h1]
 exact thn (hg pins s1 σ H1 x v _ I1 r1 q1) fun _ s2 q=>q
theorem Ai {i:Nat}{x:Str}{e:Expr}{te:TE}{pos':Pos}(hN:X.N.Nodup)(hi:X.N[i]?=some x)(hx:Loc X.env.scope x)(he:PE X e te)(hs:swapsWith e (some (.Name x pos')) pos.line X.env=pure false:=by rfl)(hf:X.fn x=true\/X.env.scope.names.lookup x=some .local:=by first|exact .inl rfl|exact .inr rfl|assumption):
  PS X (.Assign [.Name x pos'] e pos) (tAsg te (J2 i)):=by
 intro pins s σ H D I h
 refine wpAny_Assign_Name (thn (he pins s σ H _ I h) fun v s1 ⟨y,H1,I1,r1,q1⟩=>?_) hs
 exact PH I1 hN hi hx r1 (fun s2 I2=>⟨_,H1,I2,q1⟩) hf
def tAug (i:Nat)(te:TE)(ti:TIp):TS:=fun D σ H=>∃x,σ[i]?=some (some x)/\te σ H fun y H1=>ti x y H1 fun z H2=>D.nx (σ.set i (some z)) H2
theorem CW_ {i:Nat}{x:Str}{e:Expr}{te:TE}{op:Operator}{ti:TIp}{pos':Pos}(hN:X.N.Nodup)(hi:X.N[i]?=some x)(hx:Loc X.env.scope x)(he:PE X e te)(ho:PIp X op ti)(hf:X.fn x=true\/X.env.scope.names.lookup x=some .local:=by first|exact .inl rfl|exact .inr rfl|assumption):
  PS X (.AugAssign (.Name x pos') op e pos) (tAug i te ti):=by
 intro pins s σ H D I h
 obtain⟨v,e1,h⟩:=h
 obtain⟨m,hn,hl⟩:=I.loc
 have vis:Vis X.env.scope x:=by rcases hx with k|k;exact .inl k;exact .inr (.inl k)
 obtain⟨u,r,l⟩:=hl i x v hi e1 vis
 refine wpAny_AugAssign_Name ?_
 have go:wpAny (model X.prog X.w) X.A (eval e X.env) (fun w s₂=>wpAny (model X.prog X.w) X.A (inplaceOp op u w) (fun r s₃=>wpAny (model X.prog X.w) X.A (storeName X.env x r) (fun _=>SP X pins D .next) X.xe s₃) X.xe s₂) X.xe s:=by
  refine thn (he pins s σ H _ I h) fun w s1 ⟨y,H1,I1,r1,q1⟩=>?_
  refine thn (ho pins s1 σ H1 v y u w _ I1 r r1 q1) fun z s2 ⟨zv,H2,I2,r2,q2⟩=>?_
  exact PH I2 hN hi hx r2 (fun s3 I3=>⟨_,H2,I3,q2⟩) hf
 rcases l with ⟨hk,hm⟩|⟨hk,c,hc,hcell⟩
 ·exact wpAny_loadName_local I.ok.kind hk hn hm go
 ·rcases hk with hk|hk
  ·exact wpAny_loadName_cell I.ok.kind hk hc hcell go
  ·rcases hx with k|k
   ·have:X.env.scope.names.lookup x=some .free:=hk
    rw[k]at this;cases this
   ·have:X.env.scope.names.lookup x=some .free:=hk
    rw[k]at this;cases this
def ipI (f:Int->Int->Int):TIp:=fun x y H Q=>∃i j,x=.int i/\y=.int j/\Q (.int (f i j)) H
theorem CX_:PIp X .Add (ipI fun i j=>i+j):=by
 intro pins s σ H x y v u Q I r1 r2 h
 obtain⟨i,j,e1,e2,q⟩:=h
 subst e1;subst e2
 obtain⟨t,rfl⟩:=r1
 obtain⟨t',rfl⟩:=r2
 exact iadd_int ⟨.int _,H,I.tok _,⟨_,rfl⟩,q⟩
end
section
variable {X:Cx} {pos:Pos}
def AM_ (c:TT)(tb:TS):TS:=fun D σ H=>∃W:Nat->St->Hp->Prop,(∃m,W m σ H)/\∀m σ H,W m σ H ->
 c σ H fun b H1=>if b=true then ∃N:St->Hp->Prop,(∀σ' H',N σ' H'->∃m',m'<m/\W m' σ' H')/\tb {D with nx:=N,ct:=N,bk:=D.nx} σ H1 else D.nx σ H1
theorem PJ {c:Expr}{body:List Stmt}{tc:TT}{tb:TS}(hp:PassesOwn (model X.prog X.w) X.A X.env X.xe)(hc:PT X c tc)(hb:PSs X body tb):PS X (.While c body [] pos) (AM_ tc tb):=by
 intro pins s σ H D I h
 obtain⟨W,⟨m0,w0⟩,turn⟩:=h
 refine wpAny_While (codeAny_whileLoop (fun n s'=>∃σ' H',Inv X pins σ' H' s'/\W n σ' H') ?_ m0 ⟨σ,H,I,w0⟩)
 rintro n s1 ⟨σ1,H1,I1,w1⟩
 refine wpAny_passesOwn hp (thn (hc pins s1 σ1 H1 _ I1 (turn n σ1 H1 w1)) fun b s2 ⟨H2,I2,q2⟩=>?_)
 cases b with
 |true=>
  obtain⟨N,hN,q2⟩:=q2
  rw[if_pos rfl]
  refine wpAny_passesOwn hp (thn (hb pins s2 σ1 H2 _ I2 q2) fun f s3 q3=>?_)
  cases f with
  |next=>
   obtain⟨σ3,H3,I3,n3⟩:=q3
   obtain⟨m',hm,w3⟩:=hN σ3 H3 n3
   exact⟨m',hm,σ3,H3,I3,w3⟩
  |cont=>
   obtain⟨σ3,H3,I3,n3⟩:=q3
   obtain⟨m',hm,w3⟩:=hN σ3 H3 n3
   exact⟨m',hm,σ3,H3,I3,w3⟩
  |brk=>exact q3
  |ret v=>exact q3
 |false=>
  rw[if_neg Bool.false_ne_true]
  exact wpAny_execs_nil ⟨σ1,H2,I2,q2⟩
end
structure It where
 go:Nat->Hp->Prop
 yld:Nat->Hp->V->Hp->Prop
 stop:Nat->Hp->Prop
def FpOk (X:Cx)(pins:List (Addr×Obj))(H:Hp)(b:Addr):Prop:=
 H b=none/\b≠X.env.locals/\b∉X.fs/\(b∈X.ex\/X.s₀.heap.objs.size<=b)/\(∀x c,X.env.cells.lookup x=some c->c≠b)/\∀p∈X.pn++pins,p.1≠b
theorem Inv.fpOk {X:Cx}{pins:List (Addr×Obj)}{σ:St}{H H':Hp}{s:Shared}{b:Addr}(I:Inv X pins σ H s)(hb:s.heap.objs.size<=b)(hn:H' b=none):FpOk X pins H' b:=by
 refine⟨hn,Nat.ne_of_gt (Nat.lt_of_lt_of_le I.lt hb),I.nofs hb,.inr (Nat.le_trans I.sz hb),fun x c e z=>?_,fun p hp z=>?_⟩
 ·obtain⟨v,q⟩:=I.cell x c e
  exact absurd (Nat.lt_of_lt_of_le q.lt (by rw[z];exact hb)) (Nat.lt_irrefl _)
 ·exact absurd (Nat.lt_of_lt_of_le (Heap.lt_size (I.pin p hp).1) (by rw[z];exact hb)) (Nat.lt_irrefl _)
structure Turn (P:Program)(w:World)(K:PySem.W.Frag)(tg:Expr)(J:It)(fp:List Addr)(it:Addr)(tn:Nat->Heap->Prop):Prop where
 mem:it∈fp
 obj:∀i h,tn i h->∀b∈fp,∃o,h.get? b=some o/\∀v,o.data ≠ .cell v
 keep:∀i h h',tn i h->(∀b∈fp,∀o,h.get? b=some o->h'.get? b=some o)->tn i h'
 item:∀(X:Cx),X.prog=P->X.w=w->X.K=K->X.calm=true->∀(i:Nat) (pins:List (Addr×Obj)) (s:Shared) (σ:St) (H:Hp) (E:Value->Shared->Prop),Inv X pins σ H s->(∀b∈fp,FpOk X pins H b)->tn i s.heap->J.go i H ->
  wpAny (model P w) X.A (pyNext (.ref it)) (fun r s1=>∃u,r=some u /\
   wpAny (model P w) X.A (letOwnedTupleGo tg (.ref it) u) (fun _ s2=>∃x H',Inv X pins σ H' s2/\RelV x u/\J.yld i H x H'/\tn (i+1) s2.heap/\∀b∈fp,H' b=none) E s1) E s
 done:∀(X:Cx),X.prog=P->X.w=w->X.K=K->X.calm=true->∀(i:Nat) (pins:List (Addr×Obj)) (s:Shared) (σ:St) (H:Hp) (E:Value->Shared->Prop),Inv X pins σ H s->(∀b∈fp,FpOk X pins H b)->tn i s.heap->J.stop i H ->
  wpAny (model P w) X.A (pyNext (.ref it)) (fun r s1=>r=none/\Inv X pins σ H s1) E s
 self:∀(A:Around) (i:Nat) (s:Shared) (Q:Value->Shared->Prop) (E:Value->Shared->Prop),tn i s.heap->Q (.ref it) s->wpAny (model P w) A (pyIter (.ref it)) Q E s
abbrev TI:=St->Hp->(It->Hp->Prop)->Prop
def PIE (X:Cx)(pins:List (Addr×Obj))(σ:St)(tg:Expr)(R:It->Hp->Prop)(itv:Value)(s2:Shared):Prop:=
 ∃(it:Addr) (fp:List Addr) (tn:Nat->Heap->Prop) (J:It) (H':Hp),itv=.ref it/\Inv X pins σ H' s2/\Turn X.prog X.w X.K tg J fp it tn/\tn 0 s2.heap/\(∀b∈fp,FpOk X pins H' b)/\R J H'
def PI (X:Cx)(tg iter:Expr)(wi:TI):Prop:=
 ∀(pins:List (Addr×Obj)) (s:Shared) (σ:St) (H:Hp) (R:It->Hp->Prop),Inv X pins σ H s->wi σ H R ->
  wpAny (model X.prog X.w) X.A (eval iter X.env) (fun v s1=>wpAny (model X.prog X.w) X.A (pyIter v) (PIE X pins σ tg R) X.xe s1) X.xe s
theorem XT {M:Model}{A:Around}{E:Value->Shared->Prop}{s:Shared}{tg:Expr}{it:Addr}{u:Value}{o:Obj}{n:String}{vs:Array Value}{Q:Unit->Shared->Prop}(ho:s.heap.get? it=some o)(hc:o.cls=.type n)(hd:o.data=.fields vs)
    (hn:["enumerate","zip","dict_itemiterator","dict_reverseitemiterator","odict_iterator","itertools.zip_longest","itertools.pairwise"].contains n=false) (hQ:Q () s):wpAny M A (letOwnedTupleGo tg (.ref it) u) Q E s:=by
  unfold letOwnedTupleGo
  cases tg<;>first
    | exact wpAny_pure hQ
    | (cases u<;>first
        | exact wpAny_pure hQ
        | (refine wpAny_bind (wpAny_load ho ?_)
           rw[hc,hd]
           show wpAny M A (if (["enumerate","zip","dict_itemiterator","dict_reverseitemiterator","odict_iterator","itertools.zip_longest","itertools.pairwise"].contains n&&vs[0]? == some (rawInt _))=true then _ else _) Q E s
           rw[if_neg (by intro h;rw[hn,Bool.false_and]at h;cases h)]
           exact wpAny_pure hQ))
def Itl (K:PySem.W.Frag)(a:Addr):It:=
 ⟨fun i H=>∃xs x,SqL K H a xs/\xs[i]?=some x,fun i H x H'=>H'=H/\∀xs,SqL K H a xs->xs[i]?=some x,fun i H=>∃xs,SqL K H a xs/\xs.length<=i⟩
def Itt (K:PySem.W.Frag)(a:Addr):It:=
 ⟨fun i H=>∃xs x,SqT K H a xs/\xs[i]?=some x,fun i H x H'=>H'=H/\∀xs,SqT K H a xs->xs[i]?=some x,fun i H=>∃xs,SqT K H a xs/\xs.length<=i⟩
def Itr (lo:Int)(n:Nat):It:=⟨fun i _=>i<n,fun i H x H'=>H'=H/\x=.int (lo+i),fun i _=>n<=i⟩
theorem Th {P:Program}{w:World}{K:PySem.W.Frag}{tg:Expr}(a it:Addr):Turn P w K tg (Itl K a) [it] it (fun i h=>h.IsListIter it a i) where
 mem:=by simp
 obj:=fun i h st b hb=>by
  have e:b=it:=by simpa using hb
  subst e
  obtain⟨o,e,c,d⟩:=st
  exact⟨o,e,fun v z=>by rw[d]at z;cases z⟩
 keep:=fun i h h' st k=>st.at fun o e=>k it (by simp) o e
 item:=by
  intro X hP hw hK hc i pins s σ H E I hf st hg
  subst hP hw hK
  obtain⟨xs,x,hq,hx⟩:=hg
  obtain⟨its,rv,p,hz⟩:=I.list hq
  obtain⟨u,hu,ru⟩:=rv.get hx
  obtain⟨f0,f1,f2,f3,f4,f5⟩:=hf it (by simp)
  refine wpAny_pyNext_list_item st p.isList (x:=u) (by simpa using hu) fun h' st' sb=>?_
  have I1:Inv X pins σ H {s with heap:=h' }:=I.turned (t':=s.toks) (fun b o hb e=>(sb.2 b hb).trans e) f0 f1 f3 f4 f5
  obtain⟨o,e,c,d⟩:=id st'
  exact⟨u,rfl,XT (s:={s with heap:=h' }) e c d (by decide) ⟨x,H,I1,ru,⟨rfl,fun ys hy=>by rw[I.list_inj hy hq];exact hx⟩,st',fun b hb=>(hf b hb).1⟩⟩
 done:=by
  intro X hP hw hK hc i pins s σ H E I hf st hg
  subst hP hw hK
  obtain⟨xs,hq,hx⟩:=hg
  obtain⟨its,rv,p,hz⟩:=I.list hq
  obtain⟨f0,f1,f2,f3,f4,f5⟩:=hf it (by simp)
  have hl:=rv.length
  exact wpAny_pyNext_list_end (I.ok.hd hc) st p.isList (by simp;omega) fun h' eb=>⟨rfl,I.turned (t':=s.toks) (fun b o hb e=>eb b o hb e) f0 f1 f3 f4 f5⟩
 self:=fun _ _ _ _ _ st h=>wpAny_pyIter_listiter st h
theorem OZ {P:Program}{w:World}{K:PySem.W.Frag}{tg:Expr}(a it:Addr):Turn P w K tg (Itt K a) [it] it (fun i h=>h.IsTupleIter it a i) where
 mem:=by simp
 obj:=fun i h st b hb=>by
  have e:b=it:=by simpa using hb
  subst e
  obtain⟨o,e,c,d⟩:=st
  exact⟨o,e,fun v z=>by rw[d]at z;cases z⟩
 keep:=fun i h h' st k=>st.at fun o e=>k it (by simp) o e
 item:=by
  intro X hP hw hK hc i pins s σ H E I hf st hg
  subst hP hw hK
  obtain⟨xs,x,hq,hx⟩:=hg
  obtain⟨its,rv,p,hz⟩:=I.tuple hq
  obtain⟨u,hu,ru⟩:=rv.get hx
  obtain⟨f0,f1,f2,f3,f4,f5⟩:=hf it (by simp)
  refine wpAny_pyNext_tuple_item st (show s.heap.IsTuple a its.toArray from p) (x:=u) (by simpa using hu) fun h' st' sb=>?_
  have I1:Inv X pins σ H {s with heap:=h' }:=I.turned (t':=s.toks) (fun b o hb e=>(sb.2 b hb).trans e) f0 f1 f3 f4 f5
  obtain⟨o,e,c,d⟩:=id st'
  exact⟨u,rfl,XT (s:={s with heap:=h' }) e c d (by decide) ⟨x,H,I1,ru,⟨rfl,fun ys hy=>by rw[I.tuple_inj hy hq];exact hx⟩,st',fun b hb=>(hf b hb).1⟩⟩
 done:=by
  intro X hP hw hK hc i pins s σ H E I hf st hg
  subst hP hw hK
  obtain⟨xs,hq,hx⟩:=hg
  obtain⟨its,rv,p,hz⟩:=I.tuple hq
  obtain⟨f0,f1,f2,f3,f4,f5⟩:=hf it (by simp)
  have hl:=rv.length
  exact wpAny_pyNext_tuple_end (I.ok.hd hc) st (show s.heap.IsTuple a its.toArray from p) (by simp;omega) fun h' eb=>⟨rfl,I.turned (t':=s.toks) (fun b o hb e=>eb b o hb e) f0 f1 f3 f4 f5⟩
 self:=fun _ _ _ _ _ st h=>wpAny_pyIter_tupleiter st h
theorem Wy {P:Program}{w:World}{K:PySem.W.Frag}{tg:Expr}(it:Addr)(lo:Int)(n:Nat):Turn P w K tg (Itr lo n) [it] it (fun i h=>IsRangeIter h it (lo+(i:Nat)*1) ((n:Int)-(i:Nat)) 1) where
 mem:=by simp
 obj:=fun i h st b hb=>by
  have e:b=it:=by simpa using hb
  subst e
  exact⟨_,st,fun v z=>by
   have z':Data.fields _=Data.cell v:=z
   cases z'⟩
 keep:=fun i h h' st k=>k it (by simp) _ st
 item:=by
  intro X hP hw hK hc i pins s σ H E I hf st hg
  subst hP hw hK
  obtain⟨f0,f1,f2,f3,f4,f5⟩:=hf it (by simp)
  have W:=Walks.range (prog:=X.prog) (w:=X.w) (I.ok.hd hc) it lo 1 n
  refine W.item i s _ _ hg st fun v h' tk hv st' kk=>?_
  obtain⟨t,rfl⟩:=hv
  have I1:Inv X pins σ H {s with heap:=h',toks:=tk}:=I.turned (fun b o hb e=>kk b o (by simpa using hb) e) f0 f1 f3 f4 f5
  refine⟨_,rfl,XT (s:={s with heap:=h',toks:=tk}) (n := "range_iterator") st' rfl rfl (by decide) ⟨.int (lo+i),H,I1,⟨t,?_⟩,⟨rfl,rfl⟩,st',fun b hb=>(hf b hb).1⟩⟩
  rw[Int.mul_one]
 done:=by
  intro X hP hw hK hc i pins s σ H E I hf st hg
  subst hP hw hK
  obtain⟨f0,f1,f2,f3,f4,f5⟩:=hf it (by simp)
  exact wpAny_pyNext_range_end (I.ok.hd hc) st (by have:n<=i:=hg;omega) fun h' eb=>⟨rfl,I.turned (t':=s.toks) (fun b o hb e=>eb b o hb e) f0 f1 f3 f4 f5⟩
 self:=fun _ _ _ _ _ st h=>wpAny_pyIter_rangeiter st h
end L2
namespace L2
open PySem PySem.Spec PyProof.Rows
section
variable {X:Cx} {tg:Expr}
def BO_ (K:PySem.W.Frag)(tl:TE):TI:=fun σ H R=>tl σ H fun x H1=>∃a,x=.ref a/\(∃xs,SqL K H1 a xs)/\R (Itl K a) H1
def iTup (K:PySem.W.Frag)(tl:TE):TI:=fun σ H R=>tl σ H fun x H1=>∃a,x=.ref a/\(∃xs,SqT K H1 a xs)/\R (Itt K a) H1
theorem Fm {l:Expr}{tl:TE}(hl:PE X l tl):PI X tg l (BO_ X.K tl):=by
 intro pins s σ H R I h
 refine thn (hl pins s σ H _ I h) fun v s1 ⟨x,H1,I1,r1,q1⟩=>?_
 obtain⟨a,e,⟨xs,hq⟩,q⟩:=q1
 subst e
 cases r1
 obtain⟨its,rv,p,hz⟩:=I1.list hq
 refine wpAny_pyIter_list p.isList ?_
 refine⟨s1.heap.objs.size,[s1.heap.objs.size],_,_,H1,rfl,I1.kept (t':=s1.toks) fun b o e=>Heap.get?_push_of_some _ e,Th a _,⟨_,Heap.get?_push_size _ rfl,rfl,rfl⟩,fun b hb=>?_,q⟩
 have e:b=s1.heap.objs.size:=by simpa using hb
 subst e
 exact I1.fpOk (Nat.le_refl _) (I1.hok.fresh (Nat.le_refl _))
theorem Jm {l:Expr}{tl:TE}(hl:PE X l tl):PI X tg l (iTup X.K tl):=by
 intro pins s σ H R I h
 refine thn (hl pins s σ H _ I h) fun v s1 ⟨x,H1,I1,r1,q1⟩=>?_
 obtain⟨a,e,⟨xs,hq⟩,q⟩:=q1
 subst e
 cases r1
 obtain⟨its,rv,p,hz⟩:=I1.tuple hq
 refine wpAny_pyIter_tuple (show s1.heap.IsTuple a its.toArray from p) ?_
 refine⟨s1.heap.objs.size,[s1.heap.objs.size],_,_,H1,rfl,I1.kept (t':=s1.toks) fun b o e=>Heap.get?_push_of_some _ e,OZ a _,⟨_,Heap.get?_push_size _ rfl,rfl,rfl⟩,fun b hb=>?_,q⟩
 have e:b=s1.heap.objs.size:=by simpa using hb
 subst e
 exact I1.fpOk (Nat.le_refl _) (I1.hok.fresh (Nat.le_refl _))
theorem VT {pins:List (Addr×Obj)}{σ:St}{H:Hp}{s:Shared}{R:It->Hp->Prop}{E:Value->Shared->Prop}{lo hi:Int}{t u v:Tok}{tk:Nat}(I:Inv X pins σ H s)(h1 : -(2 ^ 62)<=lo)(h2:lo<2 ^ 62)(h3 : -(2 ^ 62)<=hi)(h4:hi<2 ^ 62)
  (q:R (Itr lo (hi-lo).toNat) H):wpAny (model X.prog X.w) X.A (pyIter (.ref s.heap.objs.size)) (PIE X pins σ tg R) E {s with heap:=s.heap.push {cls:=.type "range",data:=.fields #[.int lo t,.int hi u,.int 1 v]},toks:=tk}:=by
 refine wpAny_pyIter_range (IsRange.new ..) (small_one h1 h2 h3 h4) ?_
 have I1:Inv X pins σ H {s with heap:=s.heap.push {cls:=.type "range",data:=.fields #[.int lo t,.int hi u,.int 1 v]},toks:=tk}:=I.kept fun b o e=>Heap.get?_push_of_some _ e
 refine⟨(s.heap.push {cls:=.type "range",data:=.fields #[.int lo t,.int hi u,.int 1 v]}).objs.size,[(s.heap.push {cls:=.type "range",data:=.fields #[.int lo t,.int hi u,.int 1 v]}).objs.size],_,_,H,rfl,
  I1.kept (t':=tk) fun b o e=>Heap.get?_push_of_some _ e,Wy _ lo (hi-lo).toNat,?_,fun b hb=>?_,q⟩
 ·have e1:lo+((0:Nat):Int)*1=lo:=by simp
  have e2:(((hi-lo).toNat:Nat):Int)-((0:Nat):Int)=Builtin.Range.rangeSize lo hi 1:=by rw[rangeSize_one];split<;>omega
  show IsRangeIter _ _ (lo+((0:Nat):Int)*1) ((((hi-lo).toNat:Nat):Int)-((0:Nat):Int)) 1
  rw[e1,e2]
  exact Heap.get?_push_size _ rfl
 ·have e:b=(s.heap.push {cls:=.type "range",data:=.fields #[.int lo t,.int hi u,.int 1 v]}).objs.size:=by simpa using hb
  subst e
  exact I1.fpOk (Nat.le_refl _) (I1.hok.fresh (Nat.le_refl _))
def CY_ (ta:TA):TI:=fun σ H R=>ta σ H fun vs H1=>∃j:Int,vs=[.int j] /\ -(2 ^ 62)<=j/\j<2 ^ 62/\R (Itr 0 j.toNat) H1
def CZ_ (ta:TA):TI:=fun σ H R=>ta σ H fun vs H1=>∃i j:Int,vs=[.int i,.int j]/\(-(2 ^ 62)<=i/\i<2 ^ 62 /\ -(2 ^ 62)<=j/\j<2 ^ 62)/\R (Itr i (j-i).toNat) H1
theorem A0 {a:Expr}{ta:TA}{p pos:Pos}(hg:Gl X "range")(hm:X.mg "range"=none)(ha:PA X [a] ta)(hs:starEach [a] X.env=[(false,eval a X.env)]:=by rfl):PI X tg (.Call (.Name "range" p) [a] [] pos) (CY_ ta):=by
 intro pins s σ H R I h
 refine Call_ (Jl I hg hm boot_range (PyProof.Rows.callWith_type1 (thn (ha pos pins s σ H _ I h) fun us s1 ⟨vs,H1,I1,r1,q1⟩=>?_) hs rfl))
 obtain⟨j,e,q1,q2,q⟩:=q1
 subst e
 cases r1 with
 |cons r rr=>
  cases rr
  obtain⟨t,rfl⟩:=r
  exact call_range_1 (VT I1 (by omega) (by omega) q1 q2 (by simpa using q))
theorem XU {a b:Expr}{ta:TA}{p pos:Pos}(hg:Gl X "range")(hm:X.mg "range"=none)(ha:PA X [a,b] ta)(hs:starEach [a,b] X.env=[(false,eval a X.env),(false,eval b X.env)]:=by rfl)(hs2:starEach [b] X.env=[(false,eval b X.env)]:=by rfl):
  PI X tg (.Call (.Name "range" p) [a,b] [] pos) (CZ_ ta):=by
 intro pins s σ H R I h
 refine Call_ (Jl I hg hm boot_range (PyProof.Rows.callWith_type1 (thn (ha pos pins s σ H _ I h) fun us s1 ⟨vs,H1,I1,r1,q1⟩=>?_) (by rw[hs,hs2]) (by rw[hs2];rfl)))
 obtain⟨i,j,e,⟨q1,q2,q3,q4⟩,q⟩:=q1
 subst e
 cases r1 with
 |cons r rr=>
  cases rr with
  |cons r' rr=>
   cases rr
   obtain⟨t,rfl⟩:=r
   obtain⟨t',rfl⟩:=r'
   exact call_range_2 (VT I1 q1 q2 q3 q4 q)
def tFor (wi:TI)(g:TG)(tb:TS):TS:=fun D σ H=>wi σ H fun J H1=>∃W:Nat->Nat->St->Hp->Prop,(∃m,W 0 m σ H1)/\∀i m σ H,W i m σ H ->
 (J.stop i H/\D.nx σ H)\/(J.go i H/\∃N:St->Hp->Prop,(∀σ' H',N σ' H'->∃m',m'<m/\W (i+1) m' σ' H')/\∀x H',J.yld i H x H'->g x σ H' fun σ2 H2=>tb {D with nx:=N,ct:=N,bk:=D.nx} σ2 H2)
def O0 (fp:List Addr)(h:Heap):List (Addr×Obj):=fp.filterMap fun b=>(h.get? b).map fun o=>(b,o)
theorem Fg {fp:List Addr}{h:Heap}{b:Addr}{o:Obj}(hb:b∈fp)(e:h.get? b=some o):(b,o)∈O0 fp h:=List.mem_filterMap.mpr ⟨b,hb,by rw[e];rfl⟩
theorem XW {fp:List Addr}{h:Heap}{p:Addr×Obj}(hp:p∈O0 fp h):p.1∈fp/\h.get? p.1=some p.2:=by
 obtain⟨b,hb,e⟩:=List.mem_filterMap.mp hp
 cases q:h.get? b with
 |none=>rw[q]at e;cases e
 |some o=>
  rw[q]at e
  have e':(b,o)=p:=Option.some.inj e
  subst e'
  exact⟨hb,q⟩
theorem Inv.pinned {pins:List (Addr×Obj)}{σ:St}{H:Hp}{s:Shared}{fp:List Addr}(I:Inv X pins σ H s)(hf:∀b∈fp,FpOk X pins H b)(ho:∀b∈fp,∃o,s.heap.get? b=some o/\∀v,o.data ≠ .cell v):Inv X (pins++O0 fp s.heap) σ H s:=
 I.pins_of fun p hp=>(List.mem_append.mp hp).elim (fun z=>I.pin p (List.mem_append_right _ z)) fun z=>by
  obtain⟨hb,e⟩:=XW z
  obtain⟨f0,f1,f2,_⟩:=hf p.1 hb
  obtain⟨o,e',d⟩:=ho p.1 hb
  rw[e]at e';cases e'
  exact⟨e,f0,f1,f2,d⟩
theorem Inv.unpinned {pins pl:List (Addr×Obj)}{σ:St}{H:Hp}{s:Shared}(I:Inv X (pins++pl) σ H s):Inv X pins σ H s:=I.pins_of fun p hp=>I.pin p (List.mem_append_right _ (List.mem_append_left _ hp))
theorem CM {iter:Expr}{body:List Stmt}{wi:TI}{g:TG}{tb:TS}{pos:Pos}(hp:PassesOwn (model X.prog X.w) X.A X.env X.xe)(hc:X.calm=true)(hi:PI X tg iter wi)(hg:PG X tg g)(hb:PSs X body tb)
  (hs:∀x,foldedSetIterable iter X.env x=pure x:=by intro _;rfl):PS X (.For tg iter body [] pos) (tFor wi g tb):=by
 intro pins s σ H D I h
 refine wpAny_For (thn (hi pins s σ H _ I h) fun v s1 h1=>thn h1 fun itv s2 h2=>?_) hs
 obtain⟨it,fp,tn,J,H2,e,I2,T,st2,f2,W,⟨m0,w0⟩,turn⟩:=h2
 subst e
 -- what stays true of the iterator's objects through the loop
 have stat:∀{H':Hp},(∀b∈fp,H' b=none)->∀b∈fp,FpOk X pins H' b:=fun hn b hb=>⟨hn b hb,(f2 b hb).2⟩
 refine codeAny_forLoop_any (fun n s'=>∃i σ' H',Inv X pins σ' H' s'/\tn i s'.heap/\(∀b∈fp,H' b=none)/\W i n σ' H') ?_ m0 ⟨0,σ,H2,I2,st2,fun b hb=>(f2 b hb).1,w0⟩
 rintro n s3 ⟨i,σ3,H3,I3,st3,fr3,w3⟩
 rcases turn i n σ3 H3 w3 with ⟨stop,qn⟩|⟨go,N,hN,step⟩
 ·refine wpAny_passesOwn hp (thn (T.done X rfl rfl rfl hc i pins s3 σ3 H3 X.xe I3 (stat fr3) st3 stop) fun r s4 ⟨hr,I4⟩=>?_)
  subst hr
  exact wpAny_execs_nil ⟨σ3,H3,I4,qn⟩
 ·refine wpAny_passesOwn hp (thn (T.item X rfl rfl rfl hc i pins s3 σ3 H3 X.xe I3 (stat fr3) st3 go) fun r s4 ⟨u,hr,h4⟩=>?_)
  subst hr
  refine wpAny_passesOwn hp (thn h4 fun _ s5 ⟨x,H5,I5,r5,y5,st5,fr5⟩=>?_)
  have I5':=I5.pinned (stat fr5) (T.obj _ _ st5)
  refine wpAny_passesOwn hp (thn (hg _ s5 σ3 H5 x u _ I5' r5 (step x H5 y5)) fun _ s6 ⟨σ6,H6,I6,q6⟩=>?_)
  refine wpAny_passesOwn hp (thn (hb _ s6 σ6 H6 _ I6 q6) fun f s7 q7=>?_)
  have again:∀{σ7:St} {H7:Hp},Inv X (pins++O0 fp s5.heap) σ7 H7 s7->N σ7 H7->∃m,m<n/\∃i σ' H',Inv X pins σ' H' s7/\tn i s7.heap/\(∀b∈fp,H' b=none)/\W i m σ' H':=fun {σ7 H7} I7 n7=>by
   obtain⟨m',hm,w7⟩:=hN σ7 H7 n7
   refine⟨m',hm,i+1,σ7,H7,I7.unpinned,T.keep _ _ _ st5 fun b hb o e=>(I7.pin (b,o) (List.mem_append_right _ (List.mem_append_right _ (Fg hb e)))).1,fun b hb=>?_,w7⟩
   obtain⟨o,e,d⟩:=T.obj _ _ st5 b hb
   exact (I7.pin (b,o) (List.mem_append_right _ (List.mem_append_right _ (Fg hb e)))).2.1
  cases f with
  |next=>obtain⟨σ7,H7,I7,n7⟩:=q7;exact again I7 n7
  |cont=>obtain⟨σ7,H7,I7,n7⟩:=q7;exact again I7 n7
  |brk=>obtain⟨σ7,H7,I7,q7⟩:=q7;exact⟨σ7,H7,I7.unpinned,q7⟩
  |ret v=>obtain⟨x7,σ7,H7,I7,r7,q7⟩:=q7;exact⟨x7,σ7,H7,I7.unpinned,r7,q7⟩
end
theorem Zx {K:PySem.W.Frag}{a:Addr}{xs:List V}{g:TG}{tb:TS}{D:Ends}{σ:St}{H:Hp}(Pv:Nat->St->Hp->Prop)(h0:Pv 0 σ H)(hl:∀i σ H,i<=xs.length->Pv i σ H->SqL K H a xs)
  (hs:∀i x σ H,xs[i]?=some x->Pv i σ H->g x σ H fun σ2 H2=>tb {D with nx:=Pv (i+1),ct:=Pv (i+1),bk:=D.nx} σ2 H2) (hd:∀σ H,Pv xs.length σ H->D.nx σ H):
  ∃W:Nat->Nat->St->Hp->Prop,(∃m,W 0 m σ H)/\∀i m σ H,W i m σ H ->
   ((Itl K a).stop i H/\D.nx σ H)\/((Itl K a).go i H/\∃N:St->Hp->Prop,(∀σ' H',N σ' H'->∃m',m'<m/\W (i+1) m' σ' H')/\∀x H',(Itl K a).yld i H x H'->g x σ H' fun σ2 H2=>tb {D with nx:=N,ct:=N,bk:=D.nx} σ2 H2):=by
 refine⟨fun i m σ H=>m=xs.length-i/\i<=xs.length/\Pv i σ H,⟨xs.length,by simp,Nat.zero_le _,h0⟩,?_⟩
 rintro i m σ H ⟨rfl,hi,p⟩
 have q:=hl i σ H hi p
 by_cases hlt:i<xs.length
 ·refine .inr ⟨⟨xs,xs[i],q,by simp[hlt]⟩,Pv (i+1),fun σ' H' p'=>⟨xs.length-(i+1),by omega,rfl,hlt,p'⟩,fun x H' y=>?_⟩
  obtain⟨e,y⟩:=y
  subst e
  exact hs i x σ _ (y xs q) p
 ·have e:i=xs.length:=by omega
  subst e
  exact .inl ⟨⟨xs,q,Nat.le_refl _⟩,hd σ H p⟩
theorem BP_ {K:PySem.W.Frag}{a:Addr}{xs:List V}{g:TG}{tb:TS}{D:Ends}{σ:St}{H:Hp}(Pv:Nat->St->Hp->Prop)(h0:Pv 0 σ H)(hl:∀i σ H,i<=xs.length->Pv i σ H->SqT K H a xs)
  (hs:∀i x σ H,xs[i]?=some x->Pv i σ H->g x σ H fun σ2 H2=>tb {D with nx:=Pv (i+1),ct:=Pv (i+1),bk:=D.nx} σ2 H2) (hd:∀σ H,Pv xs.length σ H->D.nx σ H):
  ∃W:Nat->Nat->St->Hp->Prop,(∃m,W 0 m σ H)/\∀i m σ H,W i m σ H ->
   ((Itt K a).stop i H/\D.nx σ H)\/((Itt K a).go i H/\∃N:St->Hp->Prop,(∀σ' H',N σ' H'->∃m',m'<m/\W (i+1) m' σ' H')/\∀x H',(Itt K a).yld i H x H'->g x σ H' fun σ2 H2=>tb {D with nx:=N,ct:=N,bk:=D.nx} σ2 H2):=by
 refine⟨fun i m σ H=>m=xs.length-i/\i<=xs.length/\Pv i σ H,⟨xs.length,by simp,Nat.zero_le _,h0⟩,?_⟩
 rintro i m σ H ⟨rfl,hi,p⟩
 have q:=hl i σ H hi p
 by_cases hlt:i<xs.length
 ·refine .inr ⟨⟨xs,xs[i],q,by simp[hlt]⟩,Pv (i+1),fun σ' H' p'=>⟨xs.length-(i+1),by omega,rfl,hlt,p'⟩,fun x H' y=>?_⟩
  obtain⟨e,y⟩:=y
  subst e
  exact hs i x σ _ (y xs q) p
 ·have e:i=xs.length:=by omega
  subst e
  exact .inl ⟨⟨xs,q,Nat.le_refl _⟩,hd σ H p⟩
theorem XX {lo:Int}{n:Nat}{g:TG}{tb:TS}{D:Ends}{σ:St}{H:Hp}(Pv:Nat->St->Hp->Prop)(h0:Pv 0 σ H)
  (hs:∀i σ H,i<n->Pv i σ H->g (.int (lo+i)) σ H fun σ2 H2=>tb {D with nx:=Pv (i+1),ct:=Pv (i+1),bk:=D.nx} σ2 H2) (hd:∀σ H,Pv n σ H->D.nx σ H):
  ∃W:Nat->Nat->St->Hp->Prop,(∃m,W 0 m σ H)/\∀i m σ H,W i m σ H ->
   ((Itr lo n).stop i H/\D.nx σ H)\/((Itr lo n).go i H/\∃N:St->Hp->Prop,(∀σ' H',N σ' H'->∃m',m'<m/\W (i+1) m' σ' H')/\∀x H',(Itr lo n).yld i H x H'->g x σ H' fun σ2 H2=>tb {D with nx:=N,ct:=N,bk:=D.nx} σ2 H2):=by
 refine⟨fun i m σ H=>m=n-i/\i<=n/\Pv i σ H,⟨n,by simp,Nat.zero_le _,h0⟩,?_⟩
 rintro i m σ H ⟨rfl,hi,p⟩
 by_cases hlt:i<n
 ·refine .inr ⟨hlt,Pv (i+1),fun σ' H' p'=>⟨n-(i+1),by omega,rfl,hlt,p'⟩,fun x H' y=>?_⟩
  obtain⟨e,y⟩:=y
  subst e y
  exact hs i σ _ hlt p
 ·have e:i=n:=by omega
  subst e
  exact .inl ⟨Nat.le_refl _,hd σ H p⟩
end L2
namespace L2
open PySem PySem.Spec PyProof.Rows
abbrev R2:=V->V->Hp->VK->Prop
def OpR (X:Cx)(f:Value->Value->Sem Value)(r:R2):Prop:=
 ∀(pins:List (Addr×Obj)) (s:Shared) (σ:St) (H:Hp) (x y:V) (v u:Value) (Q:VK),Inv X pins σ H s->RelV x v->RelV y u->r x y H Q ->
  wpAny (model X.prog X.w) X.A (f v u) (EP X pins σ Q) X.xe s
def UnR (X:Cx)(f:Value->Sem Value)(r:V->Hp->VK->Prop):Prop:=
 ∀(pins:List (Addr×Obj)) (s:Shared) (σ:St) (H:Hp) (x:V) (v:Value) (Q:VK),Inv X pins σ H s->RelV x v->r x H Q ->
  wpAny (model X.prog X.w) X.A (f v) (EP X pins σ Q) X.xe s
def Jg (X:Cx)(f:Value)(r:List V->Hp->VK->Prop):Prop:=
 ∀(pins:List (Addr×Obj)) (s:Shared) (σ:St) (H:Hp) (xs:List V) (us:List Value) (Q:VK),Inv X pins σ H s->Vals xs us->r xs H Q ->
  wpAny (model X.prog X.w) X.A (call f us) (EP X pins σ Q) X.xe s
def tOp (r:R2)(ta tb:TE):TE:=fun σ H Q=>ta σ H fun x H1=>tb σ H1 fun y H2=>r x y H2 Q
def tUn (r:V->Hp->VK->Prop)(ta:TE):TE:=fun σ H Q=>ta σ H fun x H1=>r x H1 Q
def rI (C:Int->Int->Prop)(g:Int->Int->V):R2:=fun x y H Q=>∃i j,x=.int i/\y=.int j/\C i j/\Q (g i j) H
def rI0 (g:Int->Int->V):R2:=fun x y H Q=>∃i j,x=.int i/\y=.int j/\Q (g i j) H
def rU (g:Int->V):V->Hp->VK->Prop:=fun x H Q=>∃i,x=.int i/\Q (g i) H
section
variable {X:Cx} {a b c:Expr} {ta tb tc:TE} {pos:Pos}
theorem binT (ha:PE X a ta)(hb:PE X b tb){pins:List (Addr×Obj)}{s:Shared}{σ:St}{H:Hp}{R:V->V->Hp->Prop}(I:Inv X pins σ H s)
  (h:ta σ H fun x H1=>tb σ H1 fun y H2=>R x y H2) {Q:Value->Shared->Prop} {f:Value->Value->Sem Value}
  (hf:∀v u s2 x y H2,Inv X pins σ H2 s2->RelV x v->RelV y u->R x y H2->wpAny (model X.prog X.w) X.A (f v u) Q X.xe s2):
  wpAny (model X.prog X.w) X.A (eval a X.env) (fun v s₁=>wpAny (model X.prog X.w) X.A (eval b X.env) (fun u s₂=>wpAny (model X.prog X.w) X.A (f v u) Q X.xe s₂) X.xe s₁) X.xe s:=by
 refine thn (ha pins s σ H _ I h) fun v s1 ⟨x,H1,I1,r1,q1⟩=>?_
 refine thn (hb pins s1 σ H1 _ I1 q1) fun u s2 ⟨y,H2,I2,r2,q2⟩=>?_
 exact hf v u s2 x y H2 I2 r1 r2 q2
theorem An {op:Operator}{r:R2}(ho:OpR X (binaryOp op) r)(ha:PE X a ta)(hb:PE X b tb):PE X (.BinOp a op b pos) (tOp r ta tb):=by
 intro pins s σ H Q I h
 exact wpAny_BinOp (binT ha hb I h fun v u s2 x y H2 I2 rx ry q=>ho pins s2 σ H2 x y v u Q I2 rx ry q)
theorem XY {op:UnaryOp}{r:V->Hp->VK->Prop}(ho:UnR X (unaryOp op) r)(ha:PE X a ta):PE X (.UnaryOp op a pos) (tUn r ta):=by
 intro pins s σ H Q I h
 exact UnaryOp_ (thn (ha pins s σ H _ I h) fun v s1 ⟨x,H1,I1,r1,q1⟩=>ho pins s1 σ H1 x v Q I1 r1 q1)
theorem opI {f:Value->Value->Sem Value}{C:Int->Int->Prop}{g:Int->Int->Int}
  (rule:∀(i j:Int) (t u:Tok) (s:Shared) (Q:Value->Shared->Prop) (E:Value->Shared->Prop),C i j->Q (.int (g i j) s.toks) {s with toks:=s.toks+1}->wpAny (model X.prog X.w) X.A (f (.int i t) (.int j u)) Q E s):
  OpR X f (rI C fun i j=>.int (g i j)):=by
 intro pins s σ H x y v u Q I rx ry h
 obtain⟨i,j,rfl,rfl,hc,q⟩:=h
 obtain⟨t,rfl⟩:=rx
 obtain⟨t',rfl⟩:=ry
 exact rule i j t t' s _ _ hc ⟨.int (g i j),H,I.tok _,⟨_,rfl⟩,q⟩
theorem opI0 {f:Value->Value->Sem Value}{g:Int->Int->Int}
  (rule:∀(i j:Int) (t u:Tok) (s:Shared) (Q:Value->Shared->Prop) (E:Value->Shared->Prop),Q (.int (g i j) s.toks) {s with toks:=s.toks+1}->wpAny (model X.prog X.w) X.A (f (.int i t) (.int j u)) Q E s):
  OpR X f (rI0 fun i j=>.int (g i j)):=by
 intro pins s σ H x y v u Q I rx ry h
 obtain⟨i,j,rfl,rfl,q⟩:=h
 obtain⟨t,rfl⟩:=rx
 obtain⟨t',rfl⟩:=ry
 exact rule i j t t' s _ _ ⟨.int (g i j),H,I.tok _,⟨_,rfl⟩,q⟩
theorem opB0 {f:Value->Value->Sem Value}{g:Int->Int->Bool}
  (rule:∀(i j:Int) (t u:Tok) (s:Shared) (Q:Value->Shared->Prop) (E:Value->Shared->Prop),Q (.bool (g i j)) s->wpAny (model X.prog X.w) X.A (f (.int i t) (.int j u)) Q E s):
  OpR X f (rI0 fun i j=>.bl (g i j)):=by
 intro pins s σ H x y v u Q I rx ry h
 obtain⟨i,j,rfl,rfl,q⟩:=h
 obtain⟨t,rfl⟩:=rx
 obtain⟨t',rfl⟩:=ry
 exact rule i j t t' s _ _ ⟨.bl (g i j),H,I,rfl,q⟩
def CDiv (i j:Int):Prop:=0<j/\j<1073741824
def CMul (i j:Int):Prop:=(-(2 ^ 64)<i/\i<2 ^ 64)\/(-(2 ^ 64)<j/\j<2 ^ 64)
theorem CMul.ok {i j:Int}(h:CMul i j):IntMulOk i j:=by
 rcases h with ⟨h1,h2⟩|⟨h1,h2⟩
 ·exact .of_left (intBits_le_64 h1 h2)
 ·exact .of_right (intBits_le_64 h1 h2)
theorem CN:OpR X (binaryOp .Add) (rI0 fun i j=>.int (i+j)):=opI0 fun _ _ _ _ _ _ _ q=>add_int q
theorem O1:OpR X (binaryOp .Sub) (rI0 fun i j=>.int (i-j)):=opI0 fun _ _ _ _ _ _ _ q=>sub_int q
theorem CP:OpR X (binaryOp .Mult) (rI CMul fun i j=>.int (i*j)):=opI fun _ _ _ _ _ _ _ hc q=>mul_int q hc.ok
theorem Hx:OpR X (binaryOp .FloorDiv) (rI CDiv fun i j=>.int (i / j)):=opI fun i j _ _ _ _ _ hc q=>by
 have h1:(0:Int)<j:=hc.1
 have h2:j<1073741824:=hc.2
 exact floordiv_int (by omega) (by rw[Int.fdiv_eq_ediv_of_nonneg i (by omega)];exact q) (.inl (PyProof.noPylong_small (by omega)))
theorem BR:OpR X (binaryOp .Mod) (rI (fun _ j=>0<j) fun i j=>.int (i%j)):=opI fun i j _ _ _ _ _ hc q=>by
 have h1:(0:Int)<j:=hc
 exact mod_int' (by omega) (by rw[Int.fmod_eq_emod_of_nonneg i (by omega)];exact q)
theorem unI {f:Value->Sem Value}{g:Int->Int}
  (rule:∀(i:Int) (t:Tok) (s:Shared) (Q:Value->Shared->Prop) (E:Value->Shared->Prop),Q (.int (g i) s.toks) {s with toks:=s.toks+1}->wpAny (model X.prog X.w) X.A (f (.int i t)) Q E s):
  UnR X f (rU fun i=>.int (g i)):=by
 intro pins s σ H x v Q I rx h
 obtain⟨i,rfl,q⟩:=h
 obtain⟨t,rfl⟩:=rx
 exact rule i t s _ _ ⟨.int (g i),H,I.tok _,⟨_,rfl⟩,q⟩
theorem Ti:UnR X (unaryOp .USub) (rU fun i=>.int (-i)):=unI fun _ _ _ _ _ q=>neg_int q
end
def scal:V->V->Bool
 |.non,.non=>true | .non,.int _=>true | .int _,.non=>true | .non,.bl _=>true | .bl _,.non=>true | .non,.str _=>true | .str _,.non=>true
 |.int _,.int _=>true | .bl _,.bl _=>true | .str _,.str _=>true | .byt _,.byt _=>true
 |.int _,.str _=>true | .str _,.int _=>true | .bl _,.str _=>true | .str _,.bl _=>true
 |_,_=>false
def rEq:R2:=fun x y H Q=>scal x y=true/\Q (.bl (decide (x=y))) H
def rNe:R2:=fun x y H Q=>scal x y=true/\Q (.bl (!decide (x=y))) H
theorem XZ {i j:Int}:decide (V.int i=V.int j)=(i==j):=by
 rw[Bool.eq_iff_iff]
 simp
theorem AN_ {i j:Bool}:decide (V.bl i=V.bl j)=(i==j):=by
 rw[Bool.eq_iff_iff]
 simp
theorem X0 {i j:Str}:decide (V.str i=V.str j)=(i==j):=by
 rw[Bool.eq_iff_iff]
 simp
theorem X1 {i j:Array UInt8}:decide (V.byt i=V.byt j)=(i.toList==j.toList):=by
 rw[Bool.eq_iff_iff]
 cases i
 cases j
 simp
section
variable {X:Cx} {a b c:Expr} {ta tb tc:TE} {pos:Pos}
theorem Bv {pins:List (Addr×Obj)}{σ:St}{H:Hp}{s:Shared}{Q:VK}{k k':Bool}(I:Inv X pins σ H s)(q:Q (.bl k) H)(e:k=k'):EP X pins σ Q (.bool k') s:=by
 subst e
 exact⟨.bl k,H,I,rfl,q⟩
theorem U1:OpR X (compareOp .Eq) rEq:=by
 intro pins s σ H x y v u Q I rx ry h
 obtain⟨hs,q⟩:=h
 cases x with
 |non=>
  cases rx
  cases y with
  |non=>cases ry;exact PySem.EqNone.eq_none_none (Bv I q (by simp))
  |bl j=>cases ry;exact PySem.EqNone.eq_none_bool (Bv I q (by simp))
  |int j=>obtain⟨t',rfl⟩:=ry;exact PySem.EqNone.eq_none_int (Bv I q (by simp))
  |str j=>obtain⟨t',rfl⟩:=ry;exact PySem.EqNone.eq_none_str (Bv I q (by simp))
  |_=>exact absurd (show false=true from hs) Bool.false_ne_true
 |bl i=>
  cases rx
  cases y with
  |non=>cases ry;exact PySem.EqNone.eq_bool_none (Bv I q (by simp))
  |bl j=>cases ry;exact eq_bool (Bv I q AN_)
  |str j=>obtain⟨t',rfl⟩:=ry;exact PySem.EqMixed.eq_bool_str (Bv I q (by simp))
  |_=>exact absurd (show false=true from hs) Bool.false_ne_true
 |int i=>
  obtain⟨t,rfl⟩:=rx
  cases y with
  |non=>cases ry;exact PySem.EqNone.eq_int_none (Bv I q (by simp))
  |int j=>obtain⟨t',rfl⟩:=ry;exact eq_int (Bv I q XZ)
  |str j=>obtain⟨t',rfl⟩:=ry;exact PySem.EqMixed.eq_int_str (Bv I q (by simp))
  |_=>exact absurd (show false=true from hs) Bool.false_ne_true
 |str i=>
  obtain⟨t,rfl⟩:=rx
  cases y with
  |non=>cases ry;exact PySem.EqNone.eq_str_none (Bv I q (by simp))
  |bl j=>cases ry;exact PySem.EqMixed.eq_str_bool (Bv I q (by simp))
  |int j=>obtain⟨t',rfl⟩:=ry;exact PySem.EqMixed.eq_str_int (Bv I q (by simp))
  |str j=>obtain⟨t',rfl⟩:=ry;exact eq_str (Bv I q X0)
  |_=>exact absurd (show false=true from hs) Bool.false_ne_true
 |byt i=>
  obtain⟨t,rfl⟩:=rx
  cases y with
  |byt j=>obtain⟨t',rfl⟩:=ry;exact PySem.W.eq_bytes (Bv I q X1)
  |_=>exact absurd (show false=true from hs) Bool.false_ne_true
 |_=>cases y<;>exact absurd (show false=true from hs) Bool.false_ne_true
theorem U2:OpR X (compareOp .NotEq) rNe:=by
 intro pins s σ H x y v u Q I rx ry h
 obtain⟨hs,q⟩:=h
 cases x with
 |non=>
  cases rx
  cases y with
  |non=>cases ry;exact PySem.EqNone.ne_none_none (Bv I q (by simp))
  |bl j=>cases ry;exact PySem.EqNone.ne_none_bool (Bv I q (by simp))
  |int j=>obtain⟨t',rfl⟩:=ry;exact PySem.EqNone.ne_none_int (Bv I q (by simp))
  |str j=>obtain⟨t',rfl⟩:=ry;exact PySem.EqNone.ne_none_str (Bv I q (by simp))
  |_=>exact absurd (show false=true from hs) Bool.false_ne_true
 |bl i=>
  cases rx
  cases y with
  |non=>cases ry;exact PySem.EqNone.ne_bool_none (Bv I q (by simp))
  |bl j=>cases ry;exact ne_bool (Bv I q (congrArg not AN_))
  |str j=>obtain⟨t',rfl⟩:=ry;exact PySem.EqMixed.ne_bool_str (Bv I q (by simp))
  |_=>exact absurd (show false=true from hs) Bool.false_ne_true
 |int i=>
  obtain⟨t,rfl⟩:=rx
  cases y with
  |non=>cases ry;exact PySem.EqNone.ne_int_none (Bv I q (by simp))
  |int j=>obtain⟨t',rfl⟩:=ry;exact ne_int (Bv I q (congrArg not XZ))
  |str j=>obtain⟨t',rfl⟩:=ry;exact PySem.EqMixed.ne_int_str (Bv I q (by simp))
  |_=>exact absurd (show false=true from hs) Bool.false_ne_true
 |str i=>
  obtain⟨t,rfl⟩:=rx
  cases y with
  |non=>cases ry;exact PySem.EqNone.ne_str_none (Bv I q (by simp))
  |bl j=>cases ry;exact PySem.EqMixed.ne_str_bool (Bv I q (by simp))
  |int j=>obtain⟨t',rfl⟩:=ry;exact PySem.EqMixed.ne_str_int (Bv I q (by simp))
  |str j=>obtain⟨t',rfl⟩:=ry;exact ne_str (Bv I q (congrArg not X0))
  |_=>exact absurd (show false=true from hs) Bool.false_ne_true
 |byt i=>
  obtain⟨t,rfl⟩:=rx
  cases y with
  |byt j=>obtain⟨t',rfl⟩:=ry;exact PySem.W.ne_bytes (Bv I q (congrArg not X1))
  |_=>exact absurd (show false=true from hs) Bool.false_ne_true
 |_=>cases y<;>exact absurd (show false=true from hs) Bool.false_ne_true
theorem U3:OpR X (compareOp .Lt) (rI0 fun i j=>.bl (decide (i<j))):=opB0 fun _ _ _ _ _ _ _ q=>lt_int q
theorem Ei_:OpR X (compareOp .LtE) (rI0 fun i j=>.bl (decide (i<=j))):=opB0 fun _ _ _ _ _ _ _ q=>le_int q
theorem Ej_:OpR X (compareOp .Gt) (rI0 fun i j=>.bl (decide (j<i))):=opB0 fun _ _ _ _ _ _ _ q=>gt_int q
theorem BQ_:OpR X (compareOp .GtE) (rI0 fun i j=>.bl (decide (j<=i))):=opB0 fun _ _ _ _ _ _ _ q=>ge_int q
theorem Da_:OpR X (compareOp .Is) (fun x y H Q=>y=.non/\Q (.bl (decide (x=.non))) H):=by
 intro pins s σ H x y v u Q I rx ry h
 obtain⟨rfl,q⟩:=h
 cases ry
 refine is_none_gen (Bv I q ?_)
 cases x<;>first
  | (cases rx;rfl)
  | (obtain⟨t,rfl⟩:=rx;rfl)
theorem X2:OpR X (compareOp .IsNot) (fun x y H Q=>y=.non/\Q (.bl (!decide (x=.non))) H):=by
 intro pins s σ H x y v u Q I rx ry h
 obtain⟨rfl,q⟩:=h
 cases ry
 refine isnot_none_gen (Bv I q ?_)
 cases x<;>first
  | (cases rx;rfl)
  | (obtain⟨t,rfl⟩:=rx;rfl)
theorem BM (b:Expr){op:CmpOp}(h:op ≠ .In:=by decide)(h2:op ≠ .NotIn:=by decide):behindInMarks op b=false:=by
 have e1:(op==CmpOp.In)=false:=by cases op<;>first|rfl|exact absurd rfl h
 have e2:(op==CmpOp.NotIn)=false:=by cases op<;>first|rfl|exact absurd rfl h2
 cases b<;>simp[behindInMarks,e1,e2]
theorem U4 {op:CmpOp}{r:R2}(ho:OpR X (compareOp op) r)(ha:PE X a ta)(hb:PE X b tb)(hm:behindInMarks op b=false):PE X (.Compare a [op] [b] pos) (tOp r ta tb):=by
 intro pins s σ H Q I h
 exact wpAny_Compare1 (binT ha hb I h fun v u s2 x y H2 I2 rx ry q=>ho pins s2 σ H2 x y v u Q I2 rx ry q) hm
def Db_ (t:TE):TT:=fun σ H Q=>t σ H fun x H'=>∃k,x=.bl k/\Q k H'
theorem Bc {op:CmpOp}{r:R2}(ho:OpR X (compareOp op) r)(ha:PE X a ta)(hb:PE X b tb)(hm:behindInMarks op b=false):PT X (.Compare a [op] [b] pos) (Db_ (tOp r ta tb)):=by
 intro pins s σ H Q I h
 refine wpAny_isTrue_Compare1 (thn (ha pins s σ H _ I h) fun v s1 ⟨x,H1,I1,r1,q1⟩=>thn (hb pins s1 σ H1 _ I1 q1) fun u s2 ⟨y,H2,I2,r2,q2⟩ =>
  thn (ho pins s2 σ H2 x y v u _ I2 r1 r2 q2) fun c s3 ⟨z,H3,I3,r3,k,e,q3⟩=>?_) hm
 subst e
 cases r3
 exact wpAny_truthy_bool ⟨H3,I3,q3⟩
def AO_ (r r':R2)(ta tb tc:TE):TE:=fun σ H Q=>ta σ H fun x H1=>tb σ H1 fun y H2=>r x y H2 fun z H3=>∃k,z=.bl k /\
 (if k=true then tc σ H3 fun w' H4=>r' y w' H4 Q else Q (.bl false) H3)
theorem Zy {op op':CmpOp}{r r':R2}(ho:OpR X (compareOp op) r)(ho':OpR X (compareOp op') r')(ha:PE X a ta)(hb:PE X b tb)(hc:PE X c tc)
  (hm:lastMarks [op,op'] [b,c]=false:=by with_unfolding_all rfl):PE X (.Compare a [op,op'] [b,c] pos) (AO_ r r' ta tb tc):=by
 intro pins s σ H Q I h
 refine Compare_chain (thn (ha pins s σ H _ I h) fun v s1 ⟨x,H1,I1,r1,q1⟩=>chain_link (thn (hb pins s1 σ H1 _ I1 q1) fun u s2 ⟨y,H2,I2,r2,q2⟩ =>
  thn (ho pins s2 σ H2 x y v u _ I2 r1 r2 q2) fun d s3 ⟨z,H3,I3,r3,k,e,q3⟩=>?_)) hm
 subst e
 cases r3
 refine wpAny_truthy_bool ?_
 cases k with
 |false=>exact ite_ff ⟨.bl false,H3,I3,rfl,q3⟩
 |true=>exact ite_tt (chain_last (thn (hc pins s3 σ H3 _ I3 q3) fun w' s4 ⟨z',H4,I4,r4,q4⟩=>ho' pins s4 σ H4 y z' u w' Q I4 r2 r4 q4))
theorem VU:(sizeLine:Nat)<2 ^ 63:=by rw[sizeLine_eq];decide
theorem vals1 {x:V}{us:List Value}(r:Vals [x] us):∃u,us=[u]/\RelV x u:=by
 cases r with
 |cons r1 r2=>cases r2;exact⟨_,rfl,r1⟩
theorem vals2 {x y:V}{us:List Value}(r:Vals [x,y] us):∃u w',us=[u,w']/\RelV x u/\RelV y w':=by
 cases r with
 |cons r1 r2=>
  cases r2 with
  |cons r3 r4=>cases r4;exact⟨_,_,rfl,r1,r3⟩
theorem X3 (hc:X.calm=true):Jg X (.builtin "max") (fun xs H Q=>∃i j,xs=[.int i,.int j]/\Q (.int (if j > i then j else i)) H):=by
 intro pins s σ H xs us Q I r h
 obtain⟨i,j,rfl,q⟩:=h
 obtain⟨u,w',rfl,⟨t,rfl⟩,⟨t',rfl⟩⟩:=vals2 r
 refine max_two_ints (I.ok.hd hc) fun h' tk k=>⟨_,H,I.kept k,?_,q⟩
 by_cases hj:j > i
 ·rw[if_pos hj,if_pos hj];exact⟨_,rfl⟩
 ·rw[if_neg hj,if_neg hj];exact⟨_,rfl⟩
end
end L2
namespace L2
open PySem PySem.Spec PyProof.Rows
structure ObjM (h:Heap)(x dx C:Addr)(mA:Str->Option Value):Prop where
 obj:h.get? x=some (PySem.W.instObj C dx)
 ns:h.Ns1 dx mA
 ne:dx≠x
theorem X4 {h:Heap}{dx:Addr}{mA:Str->Option Value}(n:h.Ns1 dx mA):∃od,h.get? dx=some od/\∀name,PySem.W.lookIn name od=some (mA name):=by
 obtain⟨o,es,ep,ho,hd,hk,_,hm⟩:=n
 refine⟨o,ho,fun name=>?_⟩
 have e:=hm name
 unfold nsFind findBy at e
 rw[<-Array.find?_toList]at e
 unfold PySem.W.lookIn
 rw[hd]
 dsimp only
 split
 ·rename_i y q
  rw[q]at e
  exact congrArg some e
 ·rename_i q
  rw[q]at e
  have a:es.toList.any (·.refKey)=false:=by
   rw[List.any_eq_false]
   intro y hy
   obtain⟨z,t,hkey⟩:=hk y (Array.mem_toList_iff.mp hy)
   simp[DictEntry.refKey,hkey]
  have a':¬ es.toList.any (·.refKey)=true:=by rw[a];exact Bool.false_ne_true
  rw[if_neg a']
  exact congrArg some e
theorem ObjM.look {h:Heap}{x dx C:Addr}{mA:Str->Option Value}(I:ObjM h x dx C mA):∃od,PySem.W.InstAt h x (PySem.W.instObj C dx) C (some od)/\∀name,PySem.W.lookIn name od=some (mA name):=
 let ⟨od,ho,hl⟩:=X4 I.ns
 ⟨od,⟨I.obj,rfl,rfl,ho⟩,hl⟩
theorem RelO.some_of {v:V}{o:Option Value}(r:RelO (some v) o):∃u,o=some u/\RelV v u:=by
 cases o with
 |none=>exact (show False from r).elim
 |some u=>exact⟨u,rfl,r⟩
section
variable {P:Program} {w:World} {H H':Hp} {h h':Heap} {a C dx:Addr} {fs fs':List (Str×V)}
theorem BR_ (hok:HOk P w H h)(e:H a=some (.ins C dx fs)):∃mA,ObjM h a dx C mA/\(∀f,RelO (fs.lookup f) (mA f))/\PySem.Within mA (fs.map (·.1))/\fs.length<=1000/\H dx=some (.own a):=by
 obtain⟨d,z,ne,ob,mA,n,r,q⟩:=(show Bk P w H h a (.ins C dx fs) from hok a _ e)
 exact⟨mA,⟨ob,n,ne⟩,r,q,z,d⟩
end
structure Cls (K:PySem.W.Frag)(C:Addr):Prop where
 pg:PySem.W.plainGet K C Str.empty=true
 hd:PySem.W.hasDictIn K C=true
 po:PySem.W.plainOver K C=true
 sa:PySem.W.findIn K (.ref C) "__setattr__"=some (some (.builtin "object.__setattr__"))
theorem Cls.get {K:PySem.W.Frag}{C:Addr}(c:Cls K C)(f:Str):PySem.W.plainGet K C f=true:=c.pg
section
variable {X:Cx} {pins:List (Addr×Obj)} {σ:St} {H:Hp} {s:Shared} {A:Around} {E:Value->Shared->Prop} {Q:Value->Shared->Prop} {c:Value} {b:Bool}
inductive TyOf (K:PySem.W.Frag)(H:Hp):V->Value->Prop where
 | non:TyOf K H .non (.type "NoneType")
 | bl (x:Bool):TyOf K H (.bl x) (.type "bool")
 | int (i:Int):TyOf K H (.int i) (.type "int")
 | str (x:Str):TyOf K H (.str x) (.type "str")
 | flt (x:UInt64):TyOf K H (.flt x) (.type "float")
 | lst {a:Addr} {xs:List V} (e:H a=some (.lst xs)):TyOf K H (.ref a) (.type "list")
 | frz {a:Addr} {o:Obj} {xs:List V} (e:H a=some (.frz o (.lst xs))):TyOf K H (.ref a) (.type "list")
 | tup {a:Addr} {xs:List V} (e:H a=some (.tup xs)):TyOf K H (.ref a) (.type "tuple")
 | dK {a:Addr} {kvs:List (Key×V)} (e:H a=some (.dK kvs)):TyOf K H (.ref a) (.type "dict")
 | dT {a:Addr} {kvs:List (List Key×V)} (e:H a=some (.dT kvs)):TyOf K H (.ref a) (.type "dict")
 | ins {a C dx:Addr} {fs:List (Str×V)} (e:H a=some (.ins C dx fs)) (cl:Cls K C) (ha:PySem.W.findIn K (.ref C) "__class__"=some (some (.builtin "object.__class__")))
   (hn:PySem.W.specialIn K (.builtin "object.__class__") "__get__"=some (some (.builtin "getset_descriptor.__get__"))) (htk:PySem.W.takesIn K (.builtin "object.__class__")=some true)
   (hm:PySem.W.mroIn K C (.type "object")=some true):TyOf K H (.ref a) (.ref C)
theorem X5 {x:V}{u t:Value}(I:Inv X pins σ H s)(rx:RelV x u)(ty:TyOf X.K H x t)(e:PySem.W.kitOne X.K t c=some b)(h:∀tk,Q (.bool b) {s with toks:=tk}):
  wpAny (model X.prog X.w) A (call (.builtin "isinstance") [u,c]) Q E s:=by
 cases ty with
 |non=>cases (show u=Value.none from rx);exact PySem.W.kia_one PySem.W.kitx_none I.kIn True.intro e (fun z=>nomatch z) h
 |bl y=>cases (show u=Value.bool y from rx);exact PySem.W.kia_one PySem.W.kitx_bool I.kIn True.intro e (fun z=>nomatch z) h
 |int i=>obtain⟨t,q⟩:=(show ∃t,u=Value.int i t from rx);cases q;exact PySem.W.kia_one PySem.W.kitx_int I.kIn True.intro e (fun z=>nomatch z) h
 |str y=>obtain⟨t,q⟩:=(show ∃t,u=Value.str y t from rx);cases q;exact PySem.W.kia_one PySem.W.kitx_str I.kIn True.intro e (fun z=>nomatch z) h
 |flt y=>obtain⟨t,q⟩:=(show ∃t,u=Value.float y t from rx);cases q;exact PySem.W.kia_one PySem.W.kitx_float I.kIn True.intro e (fun z=>nomatch z) h
 |@lst a xs ea=>
  cases (show u=Value.ref a from rx)
  obtain⟨_,_,n,_,h1⟩:=(show Bk X.prog X.w H s.heap a (.lst xs) from I.hok a _ ea)
  exact PySem.W.kia_one PySem.W.kitx_list I.kIn ⟨_,h1,rfl⟩ e (fun z=>nomatch z) h
 |@frz a ob xs ea=>
  cases (show u=Value.ref a from rx)
  obtain⟨_,_,_,n,_,h1⟩:=(show Bk X.prog X.w H s.heap a (.frz ob (.lst xs)) from I.hok a _ ea)
  exact PySem.W.kia_one PySem.W.kitx_list I.kIn ⟨_,h1,rfl⟩ e (fun z=>nomatch z) h
 |@tup a xs ea=>
  cases (show u=Value.ref a from rx)
  obtain⟨_,_,_,p⟩:=(show Bk X.prog X.w H s.heap a (.tup xs) from I.hok a _ ea)
  obtain⟨o,h1,h2,_⟩:=p
  exact PySem.W.kia_one PySem.W.kitx_tuple I.kIn ⟨o,h1,h2⟩ e (fun z=>nomatch z) h
 |@dK a kvs ea=>
  cases (show u=Value.ref a from rx)
  obtain⟨_,_,vs,_,p⟩:=(show Bk X.prog X.w H s.heap a (.dK kvs) from I.hok a _ ea)
  obtain⟨o,es,ep,h1,h2,_⟩:=p
  exact PySem.W.kia_one PySem.W.kitx_dict I.kIn ⟨o,h1,h2.1⟩ e (fun z=>nomatch z) h
 |@dT a kvs ea=>
  cases (show u=Value.ref a from rx)
  obtain⟨_,_,xs,_,o,es,ep,h1,h2,_⟩:=(show Bk X.prog X.w H s.heap a (.dT kvs) from I.hok a _ ea)
  exact PySem.W.kia_one PySem.W.kitx_dict I.kIn ⟨o,h1,h2.1⟩ e (fun z=>nomatch z) h
 |@ins a C dx fs ea cl ha hn htk hm=>
  cases (show u=Value.ref a from rx)
  obtain⟨mA,O,_⟩:=BR_ I.hok ea
  obtain⟨od,J,_⟩:=O.look
  exact PySem.W.kia_one (PySem.W.kitx_own (cl.get _) cl.hd ha hn htk hm) I.kIn J e (fun z=>nomatch z) h
end
end L2
namespace L2
open PySem PySem.Spec PyProof.Rows
structure Room (k:Nat)(A:Around):Prop where
 hd:A.handled=none
 dp:A.depth+3*k+5<recursionLimit
 un:A.units+16*k+200<cLine
theorem Room.mono {j k:Nat}{A:Around}(r:Room k A)(h:j<=k):Room j A:=⟨r.hd,by have:=r.dp;omega,by have:=r.un;omega⟩
theorem Room.deeper {k:Nat}{A:Around}(r:Room (k+1) A)(env:Env):Room k (A.deeper env):=
 ⟨r.hd,by have:=r.dp;show A.depth+1+3*k+5<_;omega,by have:=r.un;show A.units+3+16*k+200<_;omega⟩
theorem Room.depth {k:Nat}{A:Around}(r:Room k A):A.depth<recursionLimit:=by have:=r.dp;omega
theorem Room.units {k:Nat}{A:Around}(r:Room k A):A.units+64<cLine:=by have:=r.un;omega
def tNil:TA:=fun _ H Q=>Q [] H
def Dc_ (ta:TE)(tr:TA):TA:=fun σ H Q=>ta σ H fun x H1=>tr σ H1 fun xs H2=>Q (x::xs) H2
section
variable {X:Cx} {e:Expr} {es:List Expr} {te:TE} {t:TA} {pos:Pos}
theorem Ab:PA X [] tNil:=fun _ _ _ _ H Q I h=>Calls.spliced_nil ⟨[],H,I,.nil,h⟩
theorem Aa (ha:PE X e te)(hr:PA X es t)(hs:starEach (e::es) X.env=(false,eval e X.env)::starEach es X.env:=by rfl):PA X (e::es) (Dc_ te t):=by
 intro pos pins s σ H Q I h
 rw[hs]
 show wpAny _ _ (spliced ((false,eval e X.env)::backTo pos (starEach es X.env))) _ _ s
 refine Calls.spliced_cons (thn (ha pins s σ H _ I h) fun u s1 ⟨x,H1,I1,r1,q1⟩=>?_)
 exact thn (hr pos pins s1 σ H1 _ I1 q1) fun us s2 ⟨xs,H2,I2,r2,q2⟩=>⟨x::xs,H2,I2,.cons r1 r2,q2⟩
def tTup (t:TA):TE:=fun σ H Q=>t σ H fun xs H1=>xs.length<=sizeLine/\∀p,H1 p=none->Q (.ref p) (upd H1 p (.tup xs))
def tLst (t:TA):TE:=fun σ H Q=>t σ H fun xs H1=>xs.length<=sizeLine/\∀p,H1 p=none->Q (.ref p) (upd H1 p (.lst xs))
theorem Cj {x1}(h:PA X es t):PE X (.Tuple es x1 pos) (tTup t):=by
 intro pins s σ H Q I hq
 refine wpAny_Tuple_spliced (thn (h pos pins s σ H _ I hq) fun us s1 ⟨xs,H1,I1,r,z,q⟩=>⟨by rw[<-r.length];exact z,?_⟩)
 have hf:H1 s1.heap.objs.size=none:=I1.hok.fresh (Nat.le_refl _)
 refine⟨.ref s1.heap.objs.size,upd H1 s1.heap.objs.size (.tup xs),I1.laid (t':=s1.toks) (fun b u e=>Heap.get?_push_of_some _ e) (Nat.le_refl _) ?_,rfl,q _ hf⟩
 exact⟨z,us,r,⟨_,Heap.get?_push_size _ rfl,rfl,_,rfl⟩⟩
theorem Fo (h:PA X es t):PE X (.List es pos) (tLst t):=by
 intro pins s σ H Q I hq
 refine wpAny_List_spliced (thn (h pos pins s σ H _ I hq) fun us s1 ⟨xs,H1,I1,r,z,q⟩=>⟨by rw[<-r.length];exact z,?_⟩)
 have hf:H1 s1.heap.objs.size=none:=I1.hok.fresh (Nat.le_refl _)
 refine⟨.ref s1.heap.objs.size,upd H1 s1.heap.objs.size (.lst xs),I1.laid (t':=s1.toks) (fun b u e=>Heap.get?_push_of_some _ e) (Nat.le_refl _) ?_,rfl,q _ hf⟩
 exact⟨z,us,0,r,Heap.get?_push_size _ rfl⟩
end
abbrev Sp:=List V->Hp->VK->XK->Prop
abbrev CXT:=List Env->Hp->Shared->XK->Value->Shared->Prop
structure Env0 (P:Program)(w:World)(K:PySem.W.Frag)(mg:Str->Option Value)(base:Heap)(A:Around)(outer:List Env)(s:Shared)(H:Hp):Prop where
 frames:A.frames=some outer
 mod:Mod K mg base
 bs:∀b o,base.get? b=some o->s.heap.get? b=some o/\H b=none
 bsz:base.objs.size<=s.heap.objs.size
 funs:s.heap.FunFrames base outer
 frf:∀b∈frs outer,H b=none
 hok:HOk P w H s.heap
 bare:AllBare s.gens
def CE (outer:List Env)(P:Program)(w:World)(H:Hp)(s:Shared)(Q:VK)(u:Value)(s':Shared):Prop:=
 ∃v H',s'.os=s.os/\AllBare s'.gens/\Un (frs outer) [] H H' s.heap s'.heap/\HOk P w H' s'.heap/\RelV v u/\Q v H'
def CR (CX:CXT)(outer:List Env)(P:Program)(w:World)(H:Hp)(s:Shared)(Q:VK)(E:XK)(r:Result)(s':Shared):Prop:=
 match r with
 |.ok (.ret u)=>CE outer P w H s Q u s'
 |.ok _=>False
 |.error e=>CX outer H s E e s'
structure FnOk (P:Program)(w:World)(K:PySem.W.Frag)(mg:Str->Option Value)(base:Heap)(CX:CXT)(k:Nat)(f:Addr)(fd:FuncData)(ps:List Str)(sp:Sp):Prop where
 len:∀vs H Q E,sp vs H Q E->vs.length=ps.length
 run:∀(A:Around) (outer:List Env) (s:Shared) (H:Hp) (args:Args) (us:List Value) (vs:List V) (Q:VK) (E:XK),Room k A->Env0 P w K mg base A outer s H->BindsTo s fd args (ps.zip us)->Vals vs us->sp vs H Q E ->
  codeAny (model P w) A (.call (.ref f) args) (CR CX outer P w H s Q E) s
section
variable {X:Cx} {pins:List (Addr×Obj)} {σ:St} {H:Hp} {s s':Shared}
theorem Inv.env0 (I:Inv X pins σ H s):Env0 X.prog X.w X.K X.mg X.base X.A X.stack s H:=
 ⟨I.ok.frames,I.ok.mod,I.bs,Nat.le_trans I.ok.bsz I.sz,I.stack,I.stkFree,I.hok,I.bare⟩
theorem Inv.after {Q:VK}{u:Value}(I:Inv X pins σ H s)(h:CE X.stack X.prog X.w H s Q u s'):EP X pins σ Q u s':=by
 obtain⟨v,H',os,bare,un,hok,r,q⟩:=h
 obtain⟨hh,g,d,t,os'⟩:=s'
 obtain rfl:os'=s.os:=os
 exact⟨v,H',I.call (h':=hh) (g':=g) (d':=d) (t':=t) (ch:=[]) un hok bare (fun b z=>absurd z (by simp)),r,q⟩
end
def Dd_ (sp:Sp)(dvs:List V)(E:XK)(t:TA):TE:=fun σ H Q=>t σ H fun vs H1=>sp (vs++dvs) H1 Q E
def Binds (K:PySem.W.Frag)(fd:FuncData)(ps:List Str)(ds:List Value):Prop:=
 ∀(s:Shared) (us:List Value),K.In s.heap->(us++ds).length=ps.length->BindsTo s fd ⟨us,[]⟩ (ps.zip (us++ds))
theorem Binds.all {K:PySem.W.Frag}{fd:FuncData}{ps:List Str}(h:∀us:List Value,us.length=ps.length->bindArgs fd ⟨us,[]⟩=pure (ps.zip us)):Binds K fd ps []:=fun s us _ hl=>by
 rw[List.append_nil]at hl ⊢
 exact .of_eq (h us hl)
def Tj (CX:CXT)(X:Cx)(E:XK):Prop:=∀(pins:List (Addr×Obj)) (σ:St) (H:Hp) (s:Shared) (e:Value) (s':Shared),Inv X pins σ H s->CX X.stack H s E e s'->X.xe e s'
section
variable {X:Cx} {CX:CXT} {k:Nat} {f C:Addr} {fd:FuncData} {ps:List Str} {sp:Sp} {dvs:List V} {ds:List Value} {E:XK} {x m:Str} {p pos apos:Pos} {e o:Expr} {es:List Expr} {ta:TE} {t:TA}
theorem De_ {pins:List (Addr×Obj)}{σ:St}{H:Hp}{s:Shared}{Q:VK}{us:List Value}{vs:List V}(F:FnOk X.prog X.w X.K X.mg X.base CX k f fd ps sp)(hr:Room k X.A)(hb:Binds X.K fd ps ds)(hd:Vals dvs ds)(hx:Tj CX X E)
  (I:Inv X pins σ H s) (r:Vals vs us) (h:sp (vs++dvs) H Q E):wpAny (model X.prog X.w) X.A (call (.ref f) us) (EP X pins σ Q) X.xe s:=by
 have r2:Vals (vs++dvs) (us++ds):=r.append hd
 have hl:(us++ds).length=ps.length:=by rw[<-r2.length];exact F.len _ _ _ _ h
 refine wpAny_call (codeAny_mono (F.run X.A X.stack s H ⟨us,[]⟩ (us++ds) (vs++dvs) Q E hr I.env0 (hb s us I.kIn hl) r2 h) fun r s' hq=>?_)
 cases r with
 |error e=>exact hx pins σ H s e s' I hq
 |ok fl=>
  cases fl with
  |ret u=>exact I.after hq
  |next=>exact False.elim hq
  |brk=>exact False.elim hq
  |cont=>exact False.elim hq
theorem Ah (F:FnOk X.prog X.w X.K X.mg X.base CX k f fd ps sp)(hr:Room k X.A)(hg:Gl X x)(hm:X.mg x=some (.ref f))(hk:PySem.W.keepIn X.K (.ref f)=true)(hb:Binds X.K fd ps ds)(hd:Vals dvs ds)(hx:Tj CX X E)
  (ha:PA X (e::es) t) (hdb:(x==("__debug__" : Str))=false:=by decide) (he:starEach (e::es) X.env=(false,eval e X.env)::starEach es X.env:=by rfl) (hpl:(backTo pos (starEach es X.env)).any (·.1)=false:=by rfl):
  PE X (.Call (.Name x p) (e::es) [] pos) (Dd_ sp dvs E t):=by
 intro pins s σ H Q I h
 refine wpAny_Call_Name_kw (XS I hg hm ?_ hdb)
 refine PySem.W.callWith_K (h₀:=X.base) I.ok.mod.kin hk (thn (ha pos pins s σ H _ I h) fun us s1 ⟨vs,H1,I1,r,q⟩=>⟨I1.kIn,?_⟩) he hpl
 exact De_ F hr hb hd hx I1 r q
end
structure FnScope (N P:List Str)(sc:Scope):Prop where
 kind:sc.kind=.function
 co:sc.isCoroutine=false
 gen:sc.isGenerator=false
 nd:N.Nodup
 pre:N.take P.length=P
 par:∀x∈P,sc.names.lookup x=some .local\/sc.names.lookup x=some .cell
 nofree:∀y∈sc.names,y.2 ≠ .free
theorem Tn {kindOf:Str->Option NameKind}{x:Str}:∀{binds:List (Str×Value)} {m:Str->Option Value},(∀v,(x,v)∉binds)->bindL kindOf binds m x=m x
 |[],_,_=>rfl
 | (n,v)::r,m,h=>by
  unfold bindL
  rw[Tn fun w hw=>h w (List.mem_cons_of_mem _ hw)]
  split
  ·have:x≠n:=by rintro rfl;exact h v List.mem_cons_self
   simp[this]
  ·rfl
theorem To {kindOf:Str->Option NameKind}{x:Str}:∀{binds:List (Str×Value)} {m:Str->Option Value},(∀v,(x,v)∉binds)->bindC kindOf binds m x=m x
 |[],_,_=>rfl
 | (n,v)::r,m,h=>by
  unfold bindC
  rw[To fun w hw=>h w (List.mem_cons_of_mem _ hw)]
  split
  ·rfl
  ·have:x≠n:=by rintro rfl;exact h v List.mem_cons_self
   simp[this]
theorem Tp {kindOf:Str->Option NameKind}{x:Str}{v:Value}:∀{P:List Str} {vs:List Value} {i:Nat} {m:Str->Option Value},P.Nodup->P[i]?=some x->vs[i]?=some v->kindOf x=some .local ->
  bindL kindOf (P.zip vs) m x=some v
 |[],_,_,_,_,h,_,_=>by simp at h
 |_::_,[],_,_,_,_,h,_=>by simp at h
 |p::P,w::vs,0,m,nd,h1,h2,hk=>by
  simp at h1 h2;subst h1;subst h2
  show bindL kindOf ((p,w)::P.zip vs) m p=_
  unfold bindL
  rw[Tn fun v hv=>(List.nodup_cons.mp nd).1 (List.of_mem_zip hv).1,if_pos hk]
  simp
 |p::P,w::vs,i+1,m,nd,h1,h2,hk=>by
  show bindL kindOf ((p,w)::P.zip vs) m x=_
  unfold bindL
  exact Tp (i:=i) (List.nodup_cons.mp nd).2 (by simpa using h1) (by simpa using h2) hk
theorem Tq {kindOf:Str->Option NameKind}{x:Str}{v:Value}:∀{P:List Str} {vs:List Value} {i:Nat} {m:Str->Option Value},P.Nodup->P[i]?=some x->vs[i]?=some v->kindOf x≠some .local ->
  bindC kindOf (P.zip vs) m x=some v
 |[],_,_,_,_,h,_,_=>by simp at h
 |_::_,[],_,_,_,_,h,_=>by simp at h
 |p::P,w::vs,0,m,nd,h1,h2,hk=>by
  simp at h1 h2;subst h1;subst h2
  show bindC kindOf ((p,w)::P.zip vs) m p=_
  unfold bindC
  rw[To fun v hv=>(List.nodup_cons.mp nd).1 (List.of_mem_zip hv).1,if_neg hk]
  simp
 |p::P,w::vs,i+1,m,nd,h1,h2,hk=>by
  show bindC kindOf ((p,w)::P.zip vs) m x=_
  unfold bindC
  exact Tq (i:=i) (List.nodup_cons.mp nd).2 (by simpa using h1) (by simpa using h2) hk
def start (N:List Str)(vs:List V):St:=vs.map some++List.replicate (N.length-vs.length) none
def cxOf (CX:CXT)(P:Program)(w:World)(K:PySem.W.Frag)(mg:Str->Option Value)(base:Heap)(N:List Str)(qual:Str)(scope:Scope)(f:Addr)(cd:Value)(A:Around)(outer:List Env)(s:Shared)(H:Hp)(E:XK):Cx where
 prog:=P
 w:=w
 K:=K
 mg:=mg
 base:=base
 A:=A.deeper (envOfC qual scope s.heap.objs.size f cd)
 N:=N
 s₀:=s
 H₀:=H
 env:=envOfC qual scope s.heap.objs.size f cd
 outer:=outer
 stack:=envOfC qual scope s.heap.objs.size f cd::outer
 ex:=[]
 calm:=true
 fn:=fun _=>true
 pn:=[]
 xe:=fun e s'=>wpAny (model P w) (A.deeper (envOfC qual scope s.heap.objs.size f cd)) (leaving (envOfC qual scope s.heap.objs.size f cd) e) (fun _ s''=>CX outer H s E e s'') (fun e' s''=>CX outer H s E e' s'') s'
theorem VW {sc:Scope}{n:Nat}{x:Str}(h:sc.names.lookup x=some .cell):∃c,(cellsFrom n sc.names []).lookup x=some c:=by
 have q:=PySem.W.cellsFrom_some sc.names n [] (.inl h)
 exact Option.isSome_iff_exists.mp q
theorem X6 {CX:CXT}{P:Program}{w:World}{K:PySem.W.Frag}{mg:Str->Option Value}{base:Heap}{N ps:List Str}{qual:Str}{scope:Scope}{f:Addr}{cd:Value}{A:Around}{outer:List Env}{s s1:Shared}{H:Hp}{E:XK}{us:List Value}{vs:List V}
  (S:FnScope N ps scope) (hd:A.handled=none) (e0:Env0 P w K mg base A outer s H) (hl:vs.length=ps.length) (r:Vals vs us)
  (x:InCallC s s.heap.objs.size (bindL (envOfC qual scope s.heap.objs.size f cd).kindOf (ps.zip us) fun _=>none) (cellsFrom (s.heap.objs.size+1) scope.names []) (bindC (envOfC qual scope s.heap.objs.size f cd).kindOf (ps.zip us) fun _=>none) s1):
  Inv (cxOf CX P w K mg base N qual scope f cd A outer s H E) [] (start N vs) H s1:=by
 have hpl:ps.length<=N.length:=by have:=congrArg List.length S.pre;rw[List.length_take]at this;omega
 obtain⟨h1,tk,rfl,hk⟩:=x.done
 have noA:∀b:Addr,b∉(cxOf CX P w K mg base N qual scope f cd A outer s H E).ex:=fun b z=>absurd (show b∈([]:List Addr) from z) (by simp)
 refine⟨⟨e0.mod,S.kind,rfl,rfl,Nat.le_refl _,fun y z c h1 h2=>?_,fun y hy=>?_,fun y c _ h=>?_,fun _=>hd,Around.frames_deeper e0.frames,.inr ⟨rfl,rfl⟩,fun b z=>absurd z (noA b),e0.bs,e0.bsz,fun b _ _=>noA b,fun b z=>absurd z (noA b),e0.funs,e0.frf⟩,
  rfl,e0.bare,Un.kept hk,⟨_,x.toInCall.ns,fun i y v h1 h2 h3=>?_⟩,fun y c h=>⟨_,x.cell y c h⟩,e0.hok.fresh (Nat.le_refl _),fun y c h=>?_,fun p hp=>absurd (show p∈([]:List (Addr×Obj)) from hp) (by simp),e0.hok.kept hk,?_⟩
 ·exact name_of_addr x.apart (PySem.mem_of_lookup h1) (PySem.mem_of_lookup h2)
 ·have hy:scope.names.lookup y=some .cell\/scope.names.lookup y=some .free:=hy
  rcases hy with hy|hy
  ·exact VW hy
  ·exact absurd rfl (S.nofree _ (PySem.mem_of_lookup hy))
 ·exact Nat.le_of_lt (x.above y c (PySem.mem_of_lookup h))
 ·have hi:i<vs.length:=by
   unfold start at h2
   by_cases hi:i<vs.length
   ·exact hi
   ·rw[List.getElem?_append_right (by simpa using hi)]at h2
    rw[List.getElem?_replicate]at h2
    split at h2<;>cases h2
  have ha:vs[i]?=some v:=by
   unfold start at h2
   rw[List.getElem?_append_left (by simpa using hi),List.getElem?_map]at h2
   cases e:vs[i]? with
   |none=>rw[e]at h2;cases h2
   |some a=>rw[e]at h2;cases h2;rfl
  obtain⟨u,hu,rv⟩:=r.get ha
  have hp:ps[i]?=some y:=by
   rw[<-S.pre,List.getElem?_take_of_lt (by omega)];exact h1
  have ndP:ps.Nodup:=by rw[<-S.pre];exact S.nd.sublist (List.take_sublist _ _)
  refine⟨u,rv,?_⟩
  rcases S.par y (List.mem_of_getElem? hp) with k|k
  ·exact .inl ⟨k,Tp ndP hp hu k⟩
  ·obtain⟨c,e⟩:=VW (n:=s.heap.objs.size+1) k
   refine .inr ⟨.inl k,c,e,?_⟩
   have q:=x.cell y c e
   rw[Tq ndP hp hu (by show scope.names.lookup y≠_;rw[k];decide)]at q
   exact q
 ·exact e0.hok.fresh (Nat.le_of_lt (x.above y c (PySem.mem_of_lookup h)))
 ·unfold start
  show _=N.length
  rw[List.length_append,List.length_map,List.length_replicate]
  omega
theorem Df_ {CX:CXT}{P:Program}{w:World}{K:PySem.W.Frag}{mg:Str->Option Value}{base:Heap}{k:Nat}{f:Addr}{name qual:Str}{params:Arguments}{body:List Stmt}{scope:Scope}{dV kV doc pm cdv ct oc:Value}{an od:Option Addr}
  {osl:Array (Option Value)} {N ps:List Str} {sp:Sp} (lk:K.lookup f=some ⟨oc,od,.func (PySem.W.fnOf name qual params body scope dV kV doc pm an cdv ct),osl⟩) (hcd:PySem.W.codeIn K cdv qual=true) (S:FnScope N ps scope)
  (len:∀vs H Q E,sp vs H Q E->vs.length=ps.length)
  (hbody:∀(A:Around) (outer:List Env) (s:Shared) (H:Hp) (vs:List V) (Q:VK) (E:XK),Room k (A.deeper (envOfC qual scope s.heap.objs.size f cdv))->sp vs H Q E ->
   ∃t,PSs (cxOf CX P w K mg base N qual scope f cdv A outer s H E) body t/\t {nx:=fun _ H'=>Q .non H',rt:=Q} (start N vs) H):
  FnOk P w K mg base CX (k+1) f (PySem.W.fnOf name qual params body scope dV kV doc pm an cdv ct) ps sp:=by
 refine⟨len,fun A outer s H args us vs Q E hr e0 hb r hsp=>?_⟩
 have hl:=len _ _ _ _ hsp
 have KX:K.In s.heap:=e0.mod.kin.keeps fun b o e=>(e0.bs b o e).1
 have lim:s.heap.NoLimit:=e0.mod.nolimit.keeps fun b o e=>(e0.bs b o e).1
 have hkind:∀y∈ps.zip us,scope.names.lookup y.1=some .local\/(scope.names.lookup y.1=some .cell/\((cellsFrom (s.heap.objs.size+1) scope.names []).lookup y.1).isSome=true):=fun ⟨n,v⟩ hy=>by
  rcases S.par n (List.of_mem_zip hy).1 with q|q
  ·exact .inl q
  ·exact .inr ⟨q,PySem.W.cellsFrom_some _ _ _ (.inl q)⟩
 refine codeAny_call_function hr.depth (KX _ _ lk) rfl S.co S.gen rfl (PySem.W.codeRec_of KX hcd) (hb _ _ _ _ ?_)
 refine wpAny_newFunctionEnv_cells S.kind hkind fun env he s1 x=>?_
 subst he
 refine⟨lim.keeps x.toInCall.keep,codeAny_func ?_⟩
 obtain⟨t,ht,hq⟩:=hbody A outer s H vs Q E (hr.deeper _) hsp
 have I:Inv (cxOf CX P w K mg base N qual scope f cdv A outer s H E) [] (start N vs) H s1:=X6 S hr.hd e0 hl r x
 refine wpAny_mono (ht [] s1 (start N vs) H _ I hq) (fun fl s' hs=>?_) fun e s' hs=>hs
 have fin:∀{σ':St} {H':Hp} {v:V} {u:Value},Inv (cxOf CX P w K mg base N qual scope f cdv A outer s H E) [] σ' H' s'->RelV v u->Q v H'->CE outer P w H s Q u s' :=
  fun {σ' H' v u} J rv q=>⟨v,H',J.os,J.bare,J.base,J.hok,rv,q⟩
 cases fl with
 |ret u=>
  obtain⟨v,σ',H',J,rv,q⟩:=hs
  exact fin J rv q
 |next=>
  obtain⟨σ',H',J,q⟩:=hs
  exact fin (v:=V.non) (u:=Value.none) J rfl q
 |brk=>
  obtain⟨_,_,_,q⟩:=hs
  exact False.elim q
 |cont=>
  obtain⟨_,_,_,q⟩:=hs
  exact False.elim q
end L2
namespace L2
open PySem PySem.Spec PyProof.Rows
section
variable {X:Cx} {x:Str} {p pos:Pos} {e:Expr} {es:List Expr} {t:TA} {id T:String} {r:List V->Hp->VK->Prop}
def tCB (r:List V->Hp->VK->Prop)(t:TA):TE:=fun σ H Q=>t σ H fun vs H1=>r vs H1 Q
theorem As (hc:Jg X (.builtin id) r)(hg:Gl X x)(hm:X.mg x=none)(hv:bootBuiltins x=some (.builtin id))(ha:PA X (e::es) t)(hn:x ≠ "__name__" := by decide)(hdb:(x==("__debug__" : Str))=false:=by decide)
  (he:starEach (e::es) X.env=(false,eval e X.env)::starEach es X.env:=by rfl) (hpl:(backTo pos (starEach es X.env)).any (·.1)=false:=by rfl):PE X (.Call (.Name x p) (e::es) [] pos) (tCB r t):=by
 intro pins s σ H Q I h
 refine wpAny_Call_Name_kw (Jl I hg hm hv ?_ hn hdb)
 exact PyProof.Rows.callWith_builtin1 (thn (ha pos pins s σ H _ I h) fun us s1 ⟨vs,H1,I1,r1,q1⟩=>hc pins s1 σ H1 vs us Q I1 r1 q1) he hpl
theorem Aw (hc:Jg X (.type T) r)(hg:Gl X x)(hm:X.mg x=none)(hv:bootBuiltins x=some (.type T))(ha:PA X (e::es) t)(hn:x ≠ "__name__" := by decide)(hdb:(x==("__debug__" : Str))=false:=by decide)
  (he:starEach (e::es) X.env=(false,eval e X.env)::starEach es X.env:=by rfl) (hpl:(backTo pos (starEach es X.env)).any (·.1)=false:=by rfl):PE X (.Call (.Name x p) (e::es) [] pos) (tCB r t):=by
 intro pins s σ H Q I h
 refine wpAny_Call_Name_kw (Jl I hg hm hv ?_ hn hdb)
 exact PyProof.Rows.callWith_type1 (thn (ha pos pins s σ H _ I h) fun us s1 ⟨vs,H1,I1,r1,q1⟩=>hc pins s1 σ H1 vs us Q I1 r1 q1) he hpl
end
end L2
namespace HT
open PySem PyProof.Rows
section
variable {prog:Program} {w:World} {A:Around} {E:Value->Shared->Prop} {s:Shared}
theorem cat_tup {t b:Addr}{vs ws:List Value}{Q:Value->Shared->Prop}(ht:IsTup s.heap t vs.toArray)(hb:IsTup s.heap b ws.toArray)(hv:vs ≠ [])
  (h1:ws=[]->Q (.ref t) s) (h2:ws ≠ []->Q (.ref s.heap.objs.size) {s with heap:=s.heap.push {cls:=.type "tuple",data:=.seq (vs++ws).toArray} })
  (hsz:vs.length+ws.length<=sizeLine):wpAny (model prog w) A (binaryOp .Add (.ref t) (.ref b)) Q E s:=by
 obtain⟨⟨cls,dd,data,sl⟩,ho,hc,n,hd⟩:=id ht
 obtain⟨⟨cls2,dd2,data2,sl2⟩,ho2,hc2,n2,hd2⟩:=id hb
 simp only at hc hd hc2 hd2
 subst hc hd hc2 hd2
 have e:vs.toArray++ws.toArray=(vs++ws).toArray:=by simp
 by_cases hw:ws=[]
 ·exact concat_meets ⟨_,ho,rfl⟩ ⟨_,ho2,rfl⟩ noFill_tuple_add seq_tuple_add PySem.F.slot_tuple_add PySem.F.entry_tuple_add (PySem.F.args_tuple_add_2 _ _)
   (tuple_addW1 t b vs.toArray ws.toArray n n2 dd dd2 sl sl2 (by simpa using hv) (by simp[hw])) ⟨ho,ho2,h1 hw⟩
 ·refine concat_meets ⟨_,ho,rfl⟩ ⟨_,ho2,rfl⟩ noFill_tuple_add seq_tuple_add PySem.F.slot_tuple_add PySem.F.entry_tuple_add (PySem.F.args_tuple_add_2 _ _)
   (tuple_addW2 t b vs.toArray ws.toArray n n2 dd dd2 sl sl2 (by simpa using hv) (by simpa using hw) (by rw[List.size_toArray,List.size_toArray];exact hsz)) ⟨ho,ho2,?_⟩
  rw[e]
  exact h2 hw
def sIx (n d:Nat):Option Int->Nat
 |none=>d
 |some v=>if v<0 then (v+(n:Int)).toNat else min v.toNat n
theorem sIx_none (n d:Nat):sIx n d none=d:=rfl
theorem sIx_nat (n d k:Nat):sIx n d (some (k:Int))=min k n:=by
 show (if (k:Int)<0 then ((k:Int)+(n:Int)).toNat else min (k:Int).toNat n)=min k n
 rw[if_neg (by omega),Int.toNat_natCast]
theorem Dg_ (n d:Nat)(hd:d<=n)(o:Option Int):sIx n d o<=n:=by
 cases o with
 |none=>exact hd
 |some v=>
  show (if v<0 then (v+(n:Int)).toNat else min v.toNat n)<=n
  by_cases hv:v<0
  ·rw[if_pos hv];omega
  ·rw[if_neg hv];exact Nat.min_le_right _ _
theorem X7 (v:Int)(n d:Nat):(if v<0 then max (v+(n:Int)) 0 else min v (n:Int))=((sIx n d (some v):Nat):Int):=by
 show (if v<0 then max (v+(n:Int)) 0 else min v (n:Int))=(((if v<0 then (v+(n:Int)).toNat else min v.toNat n):Nat):Int)
 by_cases hv:v<0
 ·simp only[if_pos hv];omega
 ·simp only[if_neg hv];omega
theorem Wz (lo hi:Option Int)(n:Nat):Builtin.Slice.sliceAdjust lo hi 1 (n:Int)=(((sIx n 0 lo:Nat):Int),((sIx n n hi:Nat):Int)):=by
 have h1:¬ ((1:Int)<0):=by omega
 unfold Builtin.Slice.sliceAdjust
 simp only[h1,if_false]
 refine Prod.ext ?_ ?_
 ·cases lo with
  |none=>rfl
  |some v=>exact X7 v n 0
 ·cases hi with
  |none=>rfl
  |some v=>exact X7 v n n
theorem WA (i j:Nat):Builtin.Slice.slicePlaces (i:Int) (j:Int) 1=j-i:=by
 unfold Builtin.Slice.slicePlaces
 have h1:(1:Int) > 0:=by omega
 simp only[h1,if_true,Int.ediv_one]
 split<;>omega
theorem O2 {v:Value}{o:Option Int}{Q:Option Int->Shared->Prop}(p:IsPart v o)(h:Q o s):wpAny (model prog w) A (Builtin.Slice.slicePartIndex v) Q E s:=by
 cases p with
 |none=>exact slicePart_none h
 |int i t=>exact slicePart_int h
theorem Hn {sl:Addr}{vl vu:Value}{lo hi:Option Int}{n:Nat}{Q:Int×Int×Nat->Shared->Prop}(hs:s.heap.IsSliceOf sl vl vu .none)(pl:IsPart vl lo)(pu:IsPart vu hi)
  (h:Q (((sIx n 0 lo:Nat):Int),1,sIx n n hi-sIx n 0 lo) s):wpAny (model prog w) A (Builtin.Slice.sliceApplied (.ref sl) (pure (n:Int))) Q E s:=by
 obtain⟨os,hos,hcs,hds⟩:=id hs
 unfold Builtin.Slice.sliceApplied Builtin.Slice.sliceFields
 refine wpAny_bind (wpAny_bind (wpAny_field hos hds (x:=vl) rfl (wpAny_bind (wpAny_field hos hds (x:=vu) rfl (wpAny_bind (wpAny_field hos hds (x:=.none) rfl (wpAny_pure ?_)))))))
 refine wpAny_bind (slicePart_none ?_)
 show wpAny _ _ (if ((1:Int)==0)=true then _ else _) _ _ s
 rw[if_neg (by decide)]
 refine wpAny_bind (O2 pl (wpAny_bind (O2 pu (wpAny_bind (wpAny_pure ?_)))))
 show wpAny _ _ (match Builtin.Slice.sliceAdjust lo hi 1 (n:Int) with|(lo,hi)=>pure (lo,(1:Int),Builtin.Slice.slicePlaces lo hi 1)) _ _ s
 rw[Wz lo hi n]
 show wpAny _ _ (pure (((sIx n 0 lo:Nat):Int),(1:Int),Builtin.Slice.slicePlaces ((sIx n 0 lo:Nat):Int) ((sIx n n hi:Nat):Int) 1)) _ _ s
 rw[WA]
 exact wpAny_pure h
theorem Zz (xs:Array Value)(i k:Nat):((List.range k).filterMap fun (m:Nat)=>xs[((i:Int)+(m:Int)*1).toNat]?).toArray=((xs.toList.drop i).take k).toArray:=by
 have e:(fun (m:Nat)=>xs[((i:Int)+(m:Int)*1).toNat]?)=fun m=>xs[i+m]?:=by
  funext m
  have:((i:Int)+(m:Int)*1).toNat=i+m:=by omega
  rw[this]
 rw[e]
 have:=pick_run xs i k
 rw[List.filterMap_map]at this
 have e2:((fun x=>xs[x]?) ∘ fun x=>i+x)=fun m=>xs[i+m]?:=rfl
 rw[e2]at this
 rw[this]
theorem getItem_tuple_cut {t sl:Addr}{items:Array Value}{vl vu:Value}{lo hi:Option Int}{Q:Value->Shared->Prop}(ht:IsTup s.heap t items)(hs:s.heap.IsSliceOf sl vl vu .none)(pl:IsPart vl lo)(pu:IsPart vu hi)
  (hw:¬ (sIx items.size 0 lo=0/\sIx items.size items.size hi=items.size))
  (h:Q (.ref s.heap.objs.size) {s with heap:=s.heap.push {cls:=.type "tuple",data:=.seq ((items.toList.drop (sIx items.size 0 lo)).take (sIx items.size items.size hi-sIx items.size 0 lo)).toArray} })
  (hsz:items.size<=sizeLine):wpAny (model prog w) A (getItem (.ref t) (.ref sl)) Q E s:=by
 have htake:sizeOk (.seq ((items.toList.drop (sIx items.size 0 lo)).take (sIx items.size items.size hi-sIx items.size 0 lo)).toArray):=by
  show ((items.toList.drop (sIx items.size 0 lo)).take (sIx items.size items.size hi-sIx items.size 0 lo)).toArray.size<=sizeLine
  rw[List.size_toArray,List.length_take,List.length_drop,Array.length_toList]
  omega
 have hj:sIx items.size items.size hi<=items.size:=Dg_ _ _ (Nat.le_refl _) hi
 obtain⟨os,hos,hcs,hds⟩:=id hs
 have hTs:s.TypeIs (.ref sl) "slice" := ⟨os,hos,hcs⟩
 unfold getItem
 try with_reducible refine wpAny_holding ?_
 first|refine wpAny_bind (wpAny_pure ?_)|skip
 refine wpAny_bind (wpAny_sequenceKey ht.typeIs (by decide) ?_)
 refine wpAny_bind (wpAny_callSpecial?_slot (name:=Str.ofString "__getitem__") ht.typeIs PyProof.Rows.slot_tuple_getitem
  (wpAny_call_entry PyProof.Rows.slot_tuple_getitem ht.typeIs entry_tuple_getitem ?_ (args_tuple_getitem _ _)))
 show wpAny _ _ (Builtin.Tuple.tupleItemsOf (.ref t) >>= _) _ _ s
 refine wpAny_bind (tupleItemsOf_ ht ?_)
 refine wpAny_bind (wpAny_typeOf hTs ?_)
 rw[if_pos (by decide)]
 refine wpAny_bind (Hn hs pl pu ?_)
 have hno:¬ ((((sIx items.size 0 lo:Nat):Int)==0&&(1:Int)==1&&(sIx items.size items.size hi-sIx items.size 0 lo)==items.size)=true):=by
  intro q
  rw[Bool.and_eq_true,Bool.and_eq_true]at q
  have q1:((sIx items.size 0 lo:Nat):Int)=0:=eq_of_beq q.1.1
  have q2:sIx items.size items.size hi-sIx items.size 0 lo=items.size:=eq_of_beq q.2
  exact hw ⟨by omega,by omega⟩
 show wpAny _ _ (if (((sIx items.size 0 lo:Nat):Int)==0&&(1:Int)==1&&(sIx items.size items.size hi-sIx items.size 0 lo)==items.size)=true then _ else _) _ _ s
 rw[if_neg hno,Zz]
 first
  | exact wpAny_bind (m:=Builtin.Tuple.tupleExact _) (wpAny_newObj_type (wpAny_pure ⟨_,rfl,wpAny_pure h⟩) htake)
  | exact wpAny_bind (m:=Builtin.Tuple.tupleExact _) (wpAny_newObj_type (wpAny_bind (wpAny_pure (wpAny_pure ⟨_,rfl,wpAny_pure h⟩))) htake)
  | exact wpAny_bind (wpAny_bind (m:=Builtin.Tuple.tupleExact _) (wpAny_newObj_type (wpAny_pure (wpAny_pure ⟨_,rfl,wpAny_pure h⟩)) htake))
  | exact wpAny_bind (wpAny_bind (m:=Builtin.Tuple.tupleExact _) (wpAny_newObj_type (wpAny_pure ⟨_,rfl,wpAny_pure h⟩) htake))
end
end HT
namespace L2
open PySem PySem.Spec PyProof.Rows
abbrev TO:=St->Hp->(Option Int->Hp->Prop)->Prop
def PO (X:Cx)(e:Option Expr)(t:TO):Prop:=
 ∀(pins:List (Addr×Obj)) (s:Shared) (σ:St) (H:Hp) (Q:Option Int->Hp->Prop),Inv X pins σ H s->t σ H Q ->
  wpAny (model X.prog X.w) X.A (evalPart e X.env) (fun u s'=>∃o H',Inv X pins σ H' s'/\IsPart u o/\Q o H') X.xe s
def X8:TO:=fun _ H Q=>Q none H
def Dh_ (t:TE):TO:=fun σ H Q=>t σ H fun x H1=>∃i,x=.int i/\Q (some i) H1
theorem intsAre_of {ns:List Int}:∀{us:List Value},Vals (ns.map V.int) us->IntsAre us ns:=by
 induction ns with
 |nil=>intro us r;rw[List.map_nil]at r;cases r;exact .nil
 |cons n ns ih=>
  intro us r
  rw[List.map_cons]at r
  cases r with
  |cons r1 r2=>
   obtain⟨t,e⟩:=r1
   subst e
   exact .cons n t (ih r2)
section
variable {X:Cx} {e:Expr} {te:TE} {lo hi:Option Expr} {tl th:TO} {pos p2:Pos}
theorem ML:PO X none X8:=by
 intro pins s σ H Q I h
 rw[evalPart_none]
 exact wpAny_pure ⟨none,H,I,.none,h⟩
theorem MM (h:PE X e te):PO X (some e) (Dh_ te):=by
 intro pins s σ H Q I hw
 rw[evalPart_some]
 refine thn (h pins s σ H _ I hw) fun u s1 ⟨x,H1,I1,r1,q1⟩=>?_
 obtain⟨i,rfl,q⟩:=q1
 obtain⟨t,rfl⟩:=r1
 exact⟨some i,H1,I1,.int i t,q⟩
def SlR (X:Cx)(r:V->Option Int->Option Int->Hp->VK->Prop):Prop:=
 ∀(pins:List (Addr×Obj)) (s:Shared) (σ:St) (H:Hp) (x:V) (v vl vu:Value) (lo hi:Option Int) (sl:Addr) (Q:VK),Inv X pins σ H s->RelV x v->s.heap.IsSliceOf sl vl vu .none->IsPart vl lo->IsPart vu hi->r x lo hi H Q ->
  ∃T id,typeLookup (.type T) "__getitem__"=pure (some (.builtin id))/\s.TypeIs v T/\wpAny (model X.prog X.w) X.A (getItem v (.ref sl)) (EP X pins σ Q) X.xe s
def tSl (r:V->Option Int->Option Int->Hp->VK->Prop)(te:TE)(tl th:TO):TE:=fun σ H Q=>te σ H fun x H1=>tl σ H1 fun l H2=>th σ H2 fun u H3=>r x l u H3 Q
theorem J3 {r:V->Option Int->Option Int->Hp->VK->Prop}(hr:SlR X r)(he:PE X e te)(hl:PO X lo tl)(hu:PO X hi th):PE X (.Subscript e (.Slice lo hi none p2) pos) (tSl r te tl th):=by
 intro pins s σ H Q I h
 refine Subscript_ (thn (he pins s σ H _ I h) fun v s1 ⟨x,H1,I1,r1,q1⟩=>?_)
 refine wpAny_Slice (thn (hl pins s1 σ H1 _ I1 q1) fun vl s2 ⟨l,H2,I2,pl,q2⟩=>thn (hu pins s2 σ H2 _ I2 q2) fun vu s3 ⟨u,H3,I3,pu,q3⟩=>?_)
 rw[evalPart_none]
 refine wpAny_pure ?_
 have I4:Inv X pins σ H3 {s3 with heap:=s3.heap.push {cls:=.type "slice",data:=.fields #[vl,vu,.none]} }:=I3.kept (t':=s3.toks) fun b ob q=>Heap.get?_push_of_some _ q
 obtain⟨T,id,hT,ht,hg⟩:=hr pins {s3 with heap:=s3.heap.push {cls:=.type "slice",data:=.fields #[vl,vu,.none]} } σ H3 x v vl vu l u s3.heap.objs.size Q I4 r1 (Heap.IsSliceOf.new ..) pl pu q3
 show wpAny (model X.prog X.w) X.A (subscriptTail e (.Slice lo hi none p2) v (.ref s3.heap.objs.size)) (EP X pins σ Q) X.xe {s3 with heap:=s3.heap.push {cls:=.type "slice",data:=.fields #[vl,vu,.none]} }
 exact tail_any (ops:=[.ref s3.heap.objs.size,v]) ht hT hg (by with_unfolding_all rfl)
def cutV (xs:List V)(lo hi:Option Int):List V:=(xs.drop (HT.sIx xs.length 0 lo)).take (HT.sIx xs.length xs.length hi-HT.sIx xs.length 0 lo)
theorem U5 (xs:List V)(lo hi:Option Int):(cutV xs lo hi).length<=xs.length:=by
 unfold cutV
 rw[List.length_take,List.length_drop]
 omega
def rSlT (K:PySem.W.Frag):V->Option Int->Option Int->Hp->VK->Prop:=fun x lo hi H Q=>∃a xs,x=.ref a/\SqT K H a xs /\
 ¬ (HT.sIx xs.length 0 lo=0/\HT.sIx xs.length xs.length hi=xs.length)/\∀p,H p=none->Q (.ref p) (upd H p (.tup (cutV xs lo hi)))
theorem Di_:SlR X (rSlT X.K):=by
 intro pins s σ H x v vl vu lo hi sl Q I rx hs pl pu h
 obtain⟨a,xs,rfl,hx,hw,q⟩:=h
 cases rx
 obtain⟨its,r,ht,hz⟩:=I.tuple hx
 have hlen:its.toArray.size=xs.length:=by rw[List.size_toArray];exact r.length.symm
 refine⟨"tuple",_,PyProof.Rows.slot_tuple_getitem.lookup,ht.typeIs,?_⟩
 refine HT.getItem_tuple_cut ht hs pl pu (by rw[hlen];exact hw) ?_ (by rw[hlen];exact hz)
 rw[hlen]
 refine⟨.ref s.heap.objs.size,_,I.laid (t':=s.toks) (o:=.tup (cutV xs lo hi)) (fun b ob q=>Heap.get?_push_of_some _ q) (Nat.le_refl _) ?_,rfl,q _ (I.hok.fresh (Nat.le_refl _))⟩
 exact⟨Nat.le_trans (U5 xs lo hi) hz,_,(r.drop (HT.sIx xs.length 0 lo)).take (HT.sIx xs.length xs.length hi-HT.sIx xs.length 0 lo),IsTup.new _ _⟩
def Ek_ (K:PySem.W.Frag):R2:=fun x y H Q=>∃a b xs ys,x=.ref a/\y=.ref b/\SqT K H a xs/\SqT K H b ys/\xs ≠ []/\xs.length+ys.length<=sizeLine /\
 (ys=[]->Q (.ref a) H)/\(ys ≠ []->∀p,H p=none->Q (.ref p) (upd H p (.tup (xs++ys))))
theorem Vals.nil_iff {xs:List V}{us:List Value}(r:Vals xs us):us=[]↔xs=[]:=by
 cases r with
 |nil=>simp
 |cons _ _=>simp
theorem BS_:OpR X (binaryOp .Add) (Ek_ X.K):=by
 intro pins s σ H x y v u Q I rx ry h
 obtain⟨a,b,xs,ys,rfl,rfl,ha,hb,hx,hz,q1,q2⟩:=h
 cases rx
 cases ry
 obtain⟨its,r1,p1,_⟩:=I.tuple ha
 obtain⟨its2,r2,p2,_⟩:=I.tuple hb
 refine HT.cat_tup p1 p2 (fun z=>hx (r1.nil_iff.mp z)) (fun z=>⟨.ref a,H,I,rfl,q1 (r2.nil_iff.mp z)⟩) (fun z=>?_) (by rw[<-r1.length,<-r2.length];exact hz)
 refine⟨.ref s.heap.objs.size,_,I.laid (t':=s.toks) (o:=.tup (xs++ys)) (fun b ob q=>Heap.get?_push_of_some _ q) (Nat.le_refl _) ?_,rfl,q2 (fun w=>z (r2.nil_iff.mpr w)) _ (I.hok.fresh (Nat.le_refl _))⟩
 exact⟨by rw[List.length_append];exact hz,_,r1.append r2,IsTup.new _ _⟩
end
end L2
namespace L2
open PySem PySem.Spec PyProof.Rows
def ixN (n:Nat)(i:Int):Option Nat:=if 0<=i then (if i<n then some i.toNat else none) else if -(n:Int)<=i then some (i+n).toNat else none
def atI {α:Type}(xs:List α)(i:Int):Option α:=(ixN xs.length i).bind fun j=>xs[j]?
theorem X9 {n:Nat}{i:Int}{j:Nat}(h:ixN n i=some j):seqIndex? i n=some j/\j<n /\ -(n:Int)<=i/\i<n:=by
 unfold ixN at h
 by_cases h0:0<=i
 ·rw[if_pos h0]at h
  by_cases h1:i<n
  ·rw[if_pos h1]at h
   have e:i.toNat=j:=Option.some.inj h
   exact⟨by rw[seqIndex_of h0 h1,e],by omega,by omega,h1⟩
  ·rw[if_neg h1]at h;cases h
 ·rw[if_neg h0]at h
  by_cases h1 : -(n:Int)<=i
  ·rw[if_pos h1]at h
   have e:(i+n).toNat=j:=Option.some.inj h
   exact⟨by rw[seqIndex_neg (by omega) h1,e],by omega,h1,by omega⟩
  ·rw[if_neg h1]at h;cases h
theorem Ya {α:Type}{xs:List α}{i:Int}{v:α}(h:atI xs i=some v):∃j,seqIndex? i xs.length=some j/\xs[j]?=some v/\j<xs.length /\ -(xs.length:Int)<=i/\i<xs.length:=by
 unfold atI at h
 cases e:ixN xs.length i with
 |none=>rw[e]at h;cases h
 |some j=>
  rw[e]at h
  obtain⟨h1,h2,h3,h4⟩:=X9 e
  exact⟨j,h1,h,h2,h3,h4⟩
theorem Cq {α:Type}{xs:List α}{j:Nat}{v:α}(h:xs[j]?=some v):atI xs (j:Int)=some v:=by
 have hj:j<xs.length:=(List.getElem?_eq_some_iff.mp h).1
 have e:ixN xs.length (j:Int)=some j:=by
  unfold ixN
  rw[if_pos (by omega),if_pos (by omega)];simp
 unfold atI;rw[e];exact h
def BT_ (b:Expr):Prop:=∀o i,subscripted b false o i=operate [o,i] (getItem o i)
def IxR (X:Cx)(r:R2):Prop:=
 ∀(value slice:Expr) (pins:List (Addr×Obj)) (s:Shared) (σ:St) (H:Hp) (x y:V) (v u:Value) (Q:VK),Inv X pins σ H s->RelV x v->RelV y u->r x y H Q ->
  subscripted slice false v u=operate [v,u] (getItem v u)->wpAny (model X.prog X.w) X.A (subscriptTail value slice v u) (EP X pins σ Q) X.xe s
def MtR (X:Cx)(id:String)(r:V->List V->Hp->VK->Prop):Prop:=
 ∀(pins:List (Addr×Obj)) (s:Shared) (σ:St) (H:Hp) (x:V) (xs:List V) (v:Value) (us:List Value) (Q:VK),Inv X pins σ H s->RelV x v->Vals xs us->r x xs H Q ->
  wpAny (model X.prog X.w) X.A (call (.builtin id) (v::us)) (EP X pins σ Q) X.xe s
section
variable {X:Cx} {a b:Expr} {ta tb:TE} {pos:Pos}
theorem IxR.or {r r':R2}(h:IxR X r)(h':IxR X r'):IxR X (fun x y H Q=>r x y H Q\/r' x y H Q):=by
 intro value slice pins s σ H x y v u Q I rx ry q hs
 rcases q with q|q
 ·exact h value slice pins s σ H x y v u Q I rx ry q hs
 ·exact h' value slice pins s σ H x y v u Q I rx ry q hs
theorem Ax {r:R2}(hr:IxR X r)(ha:PE X a ta)(hb:PE X b tb)(hs:BT_ b):PE X (.Subscript a b pos) (tOp r ta tb):=by
 intro pins s σ H Q I h
 exact Subscript_ (binT ha hb I h fun v u s2 x y H2 I2 rx ry q=>hr a b pins s2 σ H2 x y v u Q I2 rx ry q (hs _ _))
def rIxL (K:PySem.W.Frag):R2:=fun x y H Q=>∃p xs i v,x=.ref p/\y=.int i/\SqL K H p xs/\atI xs i=some v/\Q v H
def rIxT (K:PySem.W.Frag):R2:=fun x y H Q=>∃p xs i v,x=.ref p/\y=.int i/\SqT K H p xs/\atI xs i=some v/\Q v H
theorem E6:IxR X (rIxL X.K):=by
 intro value slice pins s σ H x y v u Q I rx ry h hs
 obtain⟨p,xs,i,z,rfl,rfl,hq,he,q⟩:=h
 cases rx
 obtain⟨t,rfl⟩:=ry
 obtain⟨its,r,pl,hz⟩:=I.list hq
 obtain⟨j,h1,h2,h3,h4,h5⟩:=Ya he
 obtain⟨w,ew,rw'⟩:=r.get h2
 have hl:=r.length
 have hn:=VU
 have fin:EP X pins σ Q w s:=⟨z,H,I,rw',q⟩
 by_cases h0:0<=i
 ·have hj:i.toNat=j:=by
   rw[seqIndex_of h0 h5]at h1
   exact Option.some.inj h1
  exact item_listR pl.isList h0 (by omega) (by rw[hj];simpa using ew) fin hs
 ·have hj:(i+(its.toArray.size:Int)).toNat=j:=by
   rw[seqIndex_neg (by omega) h4]at h1
   rw[List.size_toArray,<-hl]
   exact Option.some.inj h1
  exact subscriptTail_builtinR (x:=w) pl.isList.typeIs slot_list_getitem.lookup
   (wpAny_getItem_list_neg (Q:=fun r s'=>r=w/\EP X pins σ Q r s') pl.isList (by omega) (by rw[List.size_toArray]<;>omega) (by omega) (by rw[hj];simpa using ew) ⟨rfl,fin⟩) hs
theorem Au:IxR X (rIxT X.K):=by
 intro value slice pins s σ H x y v u Q I rx ry h hs
 obtain⟨p,xs,i,z,rfl,rfl,hq,he,q⟩:=h
 cases rx
 obtain⟨t,rfl⟩:=ry
 obtain⟨its,r,pl,hz⟩:=I.tuple hq
 obtain⟨j,h1,h2,h3,h4,h5⟩:=Ya he
 obtain⟨w,ew,rw'⟩:=r.get h2
 have hl:=r.length
 have hn:=VU
 have fin:EP X pins σ Q w s:=⟨z,H,I,rw',q⟩
 exact subscriptTail_builtinR (x:=w) pl.typeIs slot_tuple_getitem.lookup
  (getItem_tuple (j:=j) (Q:=fun r s'=>r=w/\EP X pins σ Q r s') pl (by omega) (by omega) (by rw[List.size_toArray,<-hl];exact h1) (by simpa using ew) ⟨rfl,fin⟩) hs
theorem WB (its:List Value)(n j:Nat)(u:Value):Obj.mapSeq (·.setIfInBounds j u) {cls:=.type "list",data:=.seq its.toArray n}={cls:=.type "list",data:=.seq (its.set j u).toArray n}:=by
 simp[Obj.mapSeq]
theorem Inv.lst {pins:List (Addr×Obj)}{σ:St}{H:Hp}{s:Shared}{p:Addr}{xs:List V}(I:Inv X pins σ H s)(h:H p=some (.lst xs)):
  ∃(its:List Value) (n:Nat),Vals xs its/\s.heap.get? p=some {cls:=.type "list",data:=.seq its.toArray n}/\xs.length<=sizeLine:=by
 obtain⟨z,its,n,r,e⟩:=I.hok p _ h
 exact⟨its,n,r,e,z⟩
theorem Inv.lstUpd {pins:List (Addr×Obj)}{σ:St}{H:Hp}{s:Shared}{p:Addr}{xs ys:List V}{its its':List Value}{n n':Nat}{f:Obj->Obj}(I:Inv X pins σ H s)(h:H p=some (.lst xs))
  (ho:s.heap.get? p=some {cls:=.type "list",data:=.seq its.toArray n}) (hf:f {cls:=.type "list",data:=.seq its.toArray n}={cls:=.type "list",data:=.seq its'.toArray n' }) (r:Vals ys its') (hz:ys.length<=sizeLine) (t:Nat):
  Inv X pins σ (upd H p (.lst ys)) {s with heap:=s.heap.update p f,toks:=t}:=by
 have e:(s.heap.update p f).get? p=some {cls:=.type "list",data:=.seq its'.toArray n' }:=by
  rw[Heap.get?_update_self f ho (by rw[hf]<;>rfl),hf]
 refine I.write (x:=p) (e:=p) (by rw[h];trivial) (.inl rfl) (fun b u hb q=>(Heap.get?_update_other _ _ (Ne.symm hb)).trans q) ⟨_,e⟩ ?_
 exact⟨hz,its',n',r,e⟩
def Dj_:V->V->V->Hp->(Hp->Prop)->Prop:=fun o i v H Q=>∃p xs k j,o=.ref p/\i=.int k/\H p=some (.lst xs)/\ixN xs.length k=some j/\Q (upd H p (.lst (xs.set j v)))
theorem set_list:PSet X Dj_:=by
 intro pins s σ H o i v ov iv u Q I ro ri rv h
 obtain⟨p,xs,k,j,rfl,rfl,hp,hj,q⟩:=h
 cases ro
 obtain⟨t,rfl⟩:=ri
 obtain⟨its,n,r,ho,hz⟩:=I.lst hp
 obtain⟨h1,h2,h3,h4⟩:=X9 hj
 have hl:=r.length
 have hn:=VU
 have I':Inv X pins σ (upd H p (.lst (xs.set j v))) {s with heap:=s.heap.update p (Obj.mapSeq (·.setIfInBounds j u))}:=
  I.lstUpd hp ho (WB its n j u) (r.set rv j) (by rw[List.length_set];exact hz) s.toks
 by_cases h0:0<=k
 ·have hk:k.toNat=j:=by
   rw[seqIndex_of h0 h4]at h1
   exact Option.some.inj h1
  exact PySem.W.ki_setAt ho h0 (by omega) (by rw[List.size_toArray,<-hl];exact h4) (by rw[hk];exact⟨_,I',q⟩)
 ·have hk:(k+(its.toArray.size:Int)).toNat=j:=by
   rw[seqIndex_neg (by omega) h3]at h1
   rw[List.size_toArray,<-hl]
   exact Option.some.inj h1
  exact PySem.W.ki_setBack ho (by omega) (by rw[List.size_toArray,<-hl];exact h3) (by omega) (by rw[hk];exact⟨_,I',q⟩)
def PL:V->Bool
 |.non=>true
 |.bl _=>true
 |.int _=>true
 |.str _=>true
 |_=>false
def eqV:V->V->Bool
 |.non,.non=>true
 |.bl a,.bl b=>a==b
 |.bl a,.int b=>(if a then 1 else 0)==b
 |.int a,.bl b=>a==(if b then 1 else 0)
 |.int a,.int b=>a==b
 |.str a,.str b=>a==b
 |_,_=>false
theorem AP_ {A:Around}{s:Shared}{y x:V}{u v:Value}(ry:RelV y u)(rx:RelV x v)(fy:PL y=true)(fx:PL x=true):SeqAt.EqAt A s u v (eqV y x):=by
 cases y with
 |non=>
  cases ry
  cases x with
  |non=>cases rx;exact SeqAt.EqAt.same _
  |bl b=>cases rx;exact SeqAt.EqAt.none_bool b
  |int b=>obtain⟨t,rfl⟩:=rx;exact SeqAt.EqAt.none_int b t
  |str b=>obtain⟨t,rfl⟩:=rx;exact SeqAt.EqAt.none_str b t
  |_=>exact absurd (show false=true from fx) Bool.false_ne_true
 |bl a=>
  cases ry
  cases x with
  |non=>cases rx;exact SeqAt.EqAt.bool_none a
  |bl b=>cases rx;exact SeqAt.EqAt.bool_bool a b
  |int b=>obtain⟨t,rfl⟩:=rx;exact SeqAt.EqAt.bool_int a b t
  |str b=>obtain⟨t,rfl⟩:=rx;exact SeqAt.EqAt.bool_str a b t
  |_=>exact absurd (show false=true from fx) Bool.false_ne_true
 |int a=>
  obtain⟨t',rfl⟩:=ry
  cases x with
  |non=>cases rx;exact SeqAt.EqAt.int_none a t'
  |bl b=>cases rx;exact SeqAt.EqAt.int_bool a t' b
  |int b=>obtain⟨t,rfl⟩:=rx;exact SeqAt.EqAt.int_int a t' b t
  |str b=>obtain⟨t,rfl⟩:=rx;exact SeqAt.EqAt.int_str a t' b t
  |_=>exact absurd (show false=true from fx) Bool.false_ne_true
 |str a=>
  obtain⟨t',rfl⟩:=ry
  cases x with
  |non=>cases rx;exact SeqAt.EqAt.str_none a t'
  |bl b=>cases rx;exact SeqAt.EqAt.str_bool a t' b
  |int b=>obtain⟨t,rfl⟩:=rx;exact SeqAt.EqAt.str_int a t' b t
  |str b=>obtain⟨t,rfl⟩:=rx;exact SeqAt.EqAt.str_str a t' b t
  |_=>exact absurd (show false=true from fx) Bool.false_ne_true
 |_=>exact absurd (show false=true from fy) Bool.false_ne_true
theorem Aj:Jg X (.builtin "len") (fun xs H Q=>∃p ys,xs=[.ref p]/\(SqL X.K H p ys\/SqT X.K H p ys)/\Q (.int ys.length) H):=by
 intro pins s σ H xs us Q I r h
 obtain⟨p,ys,rfl,hq,q⟩:=h
 obtain⟨u,rfl,rx⟩:=vals1 r
 cases rx
 have hn:=VU
 rcases hq with hq|hq
 ·obtain⟨its,r',pl,hz⟩:=I.list hq
  have hlen:=r'.length
  exact Calls.call_len_list pl.isList (by simp only[List.size_toArray]<;>omega) ⟨.int ys.length,H,I.tok _,⟨s.toks+1,by rw[List.size_toArray,hlen]⟩,q⟩
 ·obtain⟨its,r',pl,hz⟩:=I.tuple hq
  have hlen:=r'.length
  exact len_tuple pl (by simp only[List.size_toArray]<;>omega) ⟨.int ys.length,H,I.tok _,⟨s.toks+1,by rw[List.size_toArray,hlen]⟩,q⟩
theorem J4:Jg X (.type "tuple") (fun xs H Q=>∃p ys,xs=[.ref p]/\((SqL X.K H p ys/\∀l,H l=none->Q (.ref l) (upd H l (.tup ys)))\/(SqT X.K H p ys/\Q (.ref p) H))):=by
 intro pins s σ H xs us Q I r h
 obtain⟨p,ys,rfl,h⟩:=h
 obtain⟨u,rfl,rx⟩:=vals1 r
 cases rx
 rcases h with ⟨hq,q⟩|⟨hq,q⟩
 ·obtain⟨its,r',pl,hz⟩:=I.list hq
  have hlen:=r'.length
  refine call_tuple_list pl.isList (fun h' kp=>?_) (by simp only[List.size_toArray]<;>omega)
  have I1:Inv X pins σ H {s with heap:=h' }:=I.kept (t':=s.toks) kp
  have I2:Inv X pins σ (upd H h'.objs.size (.tup ys)) {s with heap:=h'.push {cls:=.type "tuple",data:=.seq its.toArray} }:=
   I1.laid (t':=s.toks) (fun b o e=>Heap.get?_push_of_some _ e) (Nat.le_refl _) (show Bk X.prog X.w _ _ _ (.tup ys) from ⟨hz,its,r',IsTup.new _ _⟩)
  exact⟨.ref h'.objs.size,_,I2,rfl,q _ (I1.hok.fresh (Nat.le_refl _))⟩
 ·obtain⟨its,r',pl,hz⟩:=I.tuple hq
  exact call_tuple_same pl ⟨.ref p,H,I,rfl,q⟩
def tyV (K:PySem.W.Frag)(T:String)(x:V)(H:Hp):Prop:=match x with
 |.str _=>T = "str"
 |.int _=>T = "int"
 |.ref p=>(T = "list" /\ ∃xs,SqL K H p xs)\/(T = "tuple" /\ ∃o,K.lookup p=some o/\o.cls=.type "tuple" /\ o.dict=none) \/
   (T = "dict" /\ ((∃kvs,H p=some (.dK kvs)) \/ ∃kvs,H p=some (.dT kvs)))\/(T = "set" /\ ∃S n,H p=some (.set S n))
 |_=>False
theorem Dk_ {pins:List (Addr×Obj)}{σ:St}{H:Hp}{s:Shared}{T:String}{x:V}{v:Value}(I:Inv X pins σ H s)(r:RelV x v)(ty:tyV X.K T x H):
  s.TypeIs v T/\∀a,v=.ref a->∃ob,s.heap.get? a=some ob/\ob.dict=none:=by
 cases x with
 |str z=>
  obtain⟨t,rfl⟩:=r
  cases (show T = "str" from ty)
  exact⟨typeIs_str s z t,fun _ e=>nomatch e⟩
 |int i=>
  obtain⟨t,rfl⟩:=r
  cases (show T = "int" from ty)
  exact⟨typeIs_int s i t,fun _ e=>nomatch e⟩
 |ref p=>
  cases r
  rcases ty with ⟨rfl,xs,hq⟩|⟨rfl,o,hk,hc,hd⟩|⟨rfl,hk⟩|⟨rfl,S,n,hk⟩
  ·obtain⟨its,_,pl,_⟩:=I.list hq
   refine⟨pl.isList.typeIs,fun a e=>?_⟩
   cases e
   obtain⟨o,n,e,c,hd,_⟩:=pl
   exact⟨o,e,hd⟩
  ·refine⟨⟨o,I.kIn p o hk,hc⟩,fun a e=>?_⟩
   cases e
   exact⟨o,I.kIn _ o hk,hd⟩
  ·have z:∃o,s.heap.get? p=some o/\o.ExactDict:=by
    rcases hk with ⟨kvs,hk⟩|⟨kvs,hk⟩
    ·obtain⟨_,_,_,_,o,_,_,e,ex,_⟩:=I.hok p _ hk
     exact⟨o,e,ex⟩
    ·obtain⟨_,_,_,_,o,_,_,e,ex,_⟩:=I.hok p _ hk
     exact⟨o,e,ex⟩
   obtain⟨o,e,ex⟩:=z
   refine⟨⟨o,e,ex.1⟩,fun a e2=>?_⟩
   cases e2
   exact⟨o,e,ex.2.1⟩
  ·obtain⟨o,_,_,_,e,ex,_⟩:=I.hok p _ hk
   refine⟨⟨o,e,ex.1⟩,fun a e2=>?_⟩
   cases e2
   exact⟨o,e,ex.2.1⟩
 |_=>exact False.elim ty
def tBM (K:PySem.W.Frag)(T:String)(r:V->List V->Hp->VK->Prop)(to:TE)(t:TA):TE:=fun σ H Q=>to σ H fun x H1=>tyV K T x H1/\t σ H1 fun xs H2=>r x xs H2 Q
variable {o e:Expr} {es:List Expr} {to:TE} {t:TA} {name:Str} {apos cpos:Pos} {T id:String} {r:V->List V->Hp->VK->Prop}
theorem J5 (pa:PlainAttrs T)(slot:Slot T name id)(hty:typeOf (.builtin id)=pure (.type "method_descriptor"))(hm:MtR X id r)(ho:PE X o to)(ha:PA X (e::es) t)
  (hbase:attributeBase o name X.env (eval o X.env)=eval o X.env:=by rfl)
  (hfew:((backTo cpos (starEach (e::es) X.env)).all (fun x => !x.1)&&(backToKw cpos (keywordEach [] X.env)).all (fun x=>x.1.isSome)
   && decide ((e::es).length+([]:List Keyword).length+(if ([]:List Keyword).isEmpty then 0 else 1)<30))=true:=by rfl)
  (hline:(apos.endLine==cpos.line)=true:=by rfl) (hs:starEach (e::es) X.env=(false,eval e X.env)::starEach es X.env:=by rfl) (hplain:(backTo cpos (starEach es X.env)).any (·.1)=false:=by rfl):
  PE X (.Call (.Attribute o name apos) (e::es) [] cpos) (tBM X.K T r to t):=by
 intro pins s σ H Q I h
 refine wpAny_Call_method_late hbase hfew hline rfl (thn (ho pins s σ H _ I h) fun v s1 ⟨x,H1,I1,r1,ty,q1⟩=>?_)
 obtain⟨h1,h2⟩:=Dk_ I1 r1 ty
 refine⟨T,id,pa,slot,hty,h1,h2,?_⟩
 have hA:=ha cpos pins s1 σ H1 _ I1 q1
 rw[hs]at hA ⊢
 refine Calls.callWith_builtin (by show (false||(backTo cpos (starEach es X.env)).any (·.1))=false;rw[hplain]<;>rfl) (Calls.evalArgs_plain ?_)
 exact thn hA fun us s2 ⟨vs,H2,I2,r2,q2⟩=>hm pins s2 σ H2 x vs v us Q I2 r1 r2 q2
/- xs.append(e),list.index on a module's tuple .. are MtR facts of 06m -/
end
end L2
namespace L2
open PySem PySem.Spec PyProof.Rows
def MtM (X:Cx)(id:String)(r:V->List V->Hp->VK->Prop):Prop:=
 ∀(pins:List (Addr×Obj)) (s:Shared) (σ:St) (H:Hp) (x:V) (xs:List V) (v:Value) (us:List Value) (Q:VK),Inv X pins σ H s->RelV x v->Vals xs us->r x xs H Q ->
  wpAny (model X.prog X.w) X.A (call (.builtin id) (v::us)) (EP X pins σ Q) X.xe s
theorem Vals.one:∀{x:V} {us:List Value},Vals [x] us->∃u,us=[u]/\RelV x u
 |_,_,.cons r .nil=>⟨_,rfl,r⟩
theorem Vals.reverse {xs:List V}{us:List Value}(h:Vals xs us):Vals xs.reverse us.reverse:=by
 induction h with
 |nil=>exact .nil
 |cons r t ih=>rw[List.reverse_cons,List.reverse_cons];exact Vals.append ih (.cons r .nil)
theorem Vals.rep {xs:List V}{us:List Value}(h:Vals xs us):∀k:Nat,Vals (List.replicate k xs).flatten (List.replicate k us).flatten
 |0=>.nil
 |k+1=>by
  rw[List.replicate_succ,List.replicate_succ,List.flatten_cons,List.flatten_cons]
  exact Vals.append h (Vals.rep h k)
theorem foldl_rep (its:List Value):∀(k:Nat) (acc:List Value),
  List.foldl (fun x1 x2=>x1++x2) acc.toArray (List.replicate k its.toArray)=(acc++(List.replicate k its).flatten).toArray
 |0,acc=>by simp
 |k+1,acc=>by
  have e:acc.toArray++its.toArray=(acc++its).toArray:=by simp
  have e2:(acc++its)++(List.replicate k its).flatten=acc++(List.replicate (k+1) its).flatten:=by
   rw[List.replicate_succ,List.flatten_cons,List.append_assoc]
  rw[<-e2,<-foldl_rep its k (acc++its),<-e,List.replicate_succ,List.foldl_cons]
section
variable {X:Cx} {pins:List (Addr×Obj)} {σ:St} {H:Hp} {s:Shared} {l b:Addr} {xs ys zs:List V}
theorem Inv.lset {its its':List Value}{n:Nat}{f:Array Value->Array Value}{t':Nat}(I:Inv X pins σ H s)(hH:H l=some (.lst xs))
  (e:s.heap.get? l=some {cls:=.type "list",data:=.seq its.toArray n}) (hf:f its.toArray=its'.toArray) (hv:Vals ys its') (hz:ys.length<=sizeLine):
  Inv X pins σ (upd H l (.lst ys)) {s with heap:=s.heap.update l (Obj.mapSeq f),toks:=t' }:=by
 have q:=PySem.IsL.update e f
 rw[hf]at q
 refine I.write (x:=l) (e:=l) (by rw[hH];exact trivial) (.inl rfl) (fun b' u hb hu=>(Heap.get?_update_other s.heap (Obj.mapSeq f) (Ne.symm hb)).trans hu) ⟨_,q⟩ ?_
 exact⟨hz,its',_,hv,q⟩
theorem Inv.lnew {its:List Value}{t':Nat}(I:Inv X pins σ H s)(hv:Vals ys its)(hz:ys.length<=sizeLine):
  Inv X pins σ (upd H s.heap.objs.size (.lst ys)) {s with heap:=s.heap.push {cls:=.type "list",data:=.seq its.toArray},toks:=t' }:=
 I.laid (fun _ _ q=>Heap.get?_push_of_some _ q) (Nat.le_refl _) ⟨hz,its,0,hv,Heap.get?_push_size _ rfl⟩
theorem Inv.fresh (I:Inv X pins σ H s):H s.heap.objs.size=none:=I.hok.fresh (Nat.le_refl _)
theorem Inv.lstM (I:Inv X pins σ H s)(hH:H l=some (.lst xs)):xs.length<=sizeLine/\∃(its:List Value) (n:Nat),Vals xs its/\xs.length=its.length/\s.heap.get? l=some {cls:=.type "list",data:=.seq its.toArray n}:=by
 obtain⟨z,its,n,r,e⟩:=I.hok l _ hH
 exact⟨z,its,n,r,r.length,e⟩
end
section
variable {X:Cx}
def Yb:V->List V->Hp->VK->Prop:=fun x vs H Q=>∃l xs y,x=.ref l/\vs=[y]/\H l=some (.lst xs)/\xs.length<sizeLine/\Q .non (upd H l (.lst (xs++[y])))
theorem BS:MtM X "list.append" Yb:=by
 intro pins s σ H x vs v us Q I rx rv h
 obtain⟨l,xs,y,rfl,rfl,hH,hz,q⟩:=h
 cases rx
 obtain⟨u,rfl,ru⟩:=rv.one
 obtain⟨z,its,n,r,hl,e⟩:=I.lstM hH
 refine call_meets F.slot_list_append ⟨_,e,rfl⟩ F.entry_list_append (F.args_list_append_2 _ _) (PySem.list_append l its.toArray n u (by rw[List.size_toArray];omega)) ⟨e,?_⟩
 refine⟨.non,_,I.lset (its':=its++[u]) hH e (by simp) (r.append (.cons ru .nil)) ?_,rfl,q⟩
 rw[List.length_append,List.length_singleton]
 omega
def rCat:R2:=fun x y H Q=>∃l b xs zs,x=.ref l/\y=.ref b/\H l=some (.lst xs)/\H b=some (.lst zs)/\xs.length+zs.length<=sizeLine/\∀p,H p=none->Q (.ref p) (upd H p (.lst (xs++zs)))
theorem Dl_:OpR X (binaryOp .Add) rCat:=by
 intro pins s σ H x y v u Q I rx ry h
 obtain⟨l,b,xs,zs,rfl,rfl,hH,hB,hz,q⟩:=h
 cases rx
 cases ry
 obtain⟨z,its,n,r,hl,e⟩:=I.lstM hH
 obtain⟨z2,its2,n2,r2,hl2,e2⟩:=I.lstM hB
 refine PySem.P.add_list e e2 ?_ (by rw[List.size_toArray,List.size_toArray];omega)
 have ea:its.toArray++its2.toArray=(its++its2).toArray:=by simp
 rw[ea]
 exact⟨.ref _,_,I.lnew (t':=s.toks) (r.append r2) (by rw[List.length_append];omega),rfl,q _ I.fresh⟩
theorem len_rep {α:Type}(xs:List α)(k:Nat):(List.replicate k xs).flatten.length=k*xs.length:=by
 induction k with
 |zero=>simp
 |succ k ih=>rw[List.replicate_succ,List.flatten_cons,List.length_append,ih,Nat.succ_mul,Nat.add_comm]
end
end L2
namespace Att
open PySem PySem.W PySem.Calls PyProof.Rows
theorem MN {P:Params}{h:Heap}:∀(ns:List Int) (vs:List Value),WellAll P h vs (ns.map WData.int)->IntsAre vs ns:=by
 intro ns
 induction ns with
 |nil=>
  intro vs w
  rw[List.map_nil]at w
  cases w
  exact .nil
 |cons n ns ih=>
  intro vs w
  rw[List.map_cons]at w
  cases w with
  |cons a b=>
   cases a
   exact .cons _ _ (ih _ b)
theorem Yc {l:OpenLaw}{n:Nat}(hn:l.most=some n){P:Params}{h:Heap}{args:List WData}{vals:List Value}
  (hpre:l.row.toRowW.claim.pre args=true) (hwl:WellAll P h vals args):
  ∃a vs ns,vals=[Value.ref a]/\args=[WData.list (ns.map WData.int)]/\h.get? a=some {cls:=.type "list",data:=.seq vs.toArray}/\IntsAre vs ns/\ns.length<=n:=by
 have hsh:WShape.hasAll [] args [.list .int]=true:=(pre_splitW hpre).1
 have hc:l.pre.holds [] {args:=args}=true:=(pre_splitW hpre).2
 obtain⟨d,r,rfl,h1,h2⟩:=hasAllW_cons hsh
 obtain rfl:=hasAllW_nil h2
 obtain⟨xs,rfl,h3⟩:=hasW_list h1
 obtain⟨ns,rfl⟩:=items_int h3
 have hlen:ns.length<=n:=by
  unfold OpenLaw.pre at hc
  have h4:(WTm.not (.lt (.lit (.int (n:Int))) (.len (.arg 0)))).holds [] {args:=[.list (ns.map .int)]}=true:=by
   have h4:=(holds_andW hc).1
   rw[hn]at h4
   exact h4
  have h5:=condW_of h4 (w_not (w_lt w_lit (w_len_list (w_arg rfl))))
  rw[List.length_map]at h5
  refine Nat.le_of_not_lt fun q=>?_
  have q':(n:Int)<((ns.length:Nat):Int):=by omega
  first
   | (rw[decide_eq_true q']at h5;exact absurd h5 (by decide))
   | (simp at h5;omega)
 cases hwl with
 |cons w1 w2=>
  cases w2
  cases w1 with
  |list ho hall=>exact⟨_,_,ns,rfl,rfl,ho,MN ns _ hall,hlen⟩
theorem Yd (l:OpenLaw)(args:List WData):l.row.toRowW.claim.post args (.bool true) args=true:=
 postW_of (r:=l.row.toRowW) (X:=(true==true))
  (show WShape.has [] (.bool true) .bool=true by first|rfl|decide|simp[WShape.has,WShape.arms,WShape.armsAll])
  (show (WTm.eq .res (.lit (.bool true))).value [] {args:=args,res:=some (.bool true),after:=args}=some (.bool (true==true)) from w_eq_bool (w_res rfl) w_lit) rfl
theorem attach_call {l:OpenLaw}{n:Nat}{q:Program}{loose:List Str}{XP:(Str->Option Value)->Heap->Prop}{YP:World->Heap->Prop}{d:DefRec}
  (hn:l.most=some n) (hdf:d.params.defaults=[])
  (call:∀(w:World) (s₀ s₁:Shared) (mg mb:Str->Option Value) (fa:Addr) (o:Obj) (pm cd doc:Value) (a:Addr) (vs:List Value) (ns:List Int),
   Ground q loose [] XP w s₀ mg mb s₁.heap->YP w s₁.heap ->
   s₁.heap.get? fa=some o->o.data=.func (docDef d.name d.params d.body d.scope pm cd doc)->s₁.heap.CodeRec cd d.name->mg d.name=some (.ref fa) ->
   s₁.heap.get? a=some {cls:=.type "list",data:=.seq vs.toArray}->IntsAre vs ns->ns.length<=n->s₁.gens = #[] ->
   codeAny (model l.prog w) callerA (.call (.ref fa) ⟨[.ref a],[]⟩) (fun r s'=>r=.ok (.ret (.bool true))/\OldK s₁.heap s'.heap/\s'.os=s₁.os/\AllBare s'.gens) s₁):
  WalkO q loose XP YP l.row.toRowW d [] (fun f vs=>PySem.call f vs):=by
 intro w s₀ s₁ mg mb G Y fa o pm cd doc dV kV ho hd hcd hD hmg hg args vals as hpre hlay hrd hwl hlo
 obtain rfl:dV=.none:=Dflts.none hD hdf
 obtain rfl:kV=.none:=Dflts.noKw hD
 obtain⟨a,vs,ns,rfl,rfl,hobj,hints,hlen⟩:=Yc hn hpre hwl
 refine enter_call (codeAny_mono (call w s₀ s₁ mg mb fa o pm cd doc a vs ns G Y ho (fd_plain hd) hcd hmg hobj hints hlen hg) fun r s' hq=>?_)
 obtain⟨rfl,h2,h3,h4⟩:=hq
 exact⟨.inl ⟨.bool true,.bool true,[],rfl,fun _=>rfl,.bool true,Yd l _,fun _=>⟨List.Pairwise.nil,fun _ hm=>(nomatch hm)⟩⟩,h2,h3,h4⟩
end Att
namespace L2
open PySem PySem.Spec PyProof.Rows
theorem Tr:∀{vs:List Value} {ns:List Int},IntsAre vs ns->Vals (ns.map V.int) vs
 |_,_,.nil=>.nil
 |_,_,.cons n t h=>.cons ⟨t,rfl⟩ (Tr h)
def Only (H:Hp):Prop:=∀b,H b=none \/ ∃o xs,H b=some (.frz o (.lst xs))
theorem ZA {P:Program}{w:World}{K:PySem.W.Frag}{mg mb:Str->Option Value}{CX:CXT}{k:Nat}{fa a:Addr}{fd:FuncData}{x:Str}{sp:Sp}{s₁:Shared}{vs:List Value}{ns:List Int}
  (KX:K.In s₁.heap) (hns:s₁.heap.Ns mainGlobals mg) (hb:s₁.heap.Ns builtinsNs mb) (hbb:∀x:Str,x ≠ "__name__" -> mb x=bootBuiltins x) (hlim:s₁.heap.NoLimit) (hg:s₁.gens = #[])
  (ha:s₁.heap.get? a=some {cls:=.type "list",data:=.seq vs.toArray}) (hi:IntsAre vs ns) (hl:ns.length<=sizeLine) (hr:Room k callerA)
  (F:∀base:Heap,K.In base->base.Ns mainGlobals mg->FnOk P w K mg base CX k fa fd [x] sp) (hbind:∀(s:Shared) (u:Value),BindsTo s fd ⟨[u],[]⟩ [(x,u)])
  (hsp:∀H:Hp,Only H->SqL K H a (ns.map V.int)->sp [.ref a] H (fun v _=>v=.bl true) fun _ _ _=>False)
  (hCX:∀H e s',CX [] H s₁ (fun _ _ _=>False) e s'->False):
  codeAny (model P w) callerA (.call (.ref fa) ⟨[.ref a],[]⟩) (fun r s'=>r=.ok (.ret (.bool true))/\OldK s₁.heap s'.heap/\s'.os=s₁.os/\AllBare s'.gens) s₁:=by
 have rv:=Tr hi
 have lenV:=hi.length
 -- from an abstract heap in which nothing but the script may be tracked
 have core:∀H:Hp,Only H->SqL K H a (ns.map V.int)->HOk P w H s₁.heap->(∀b,H b≠none->b=a)->(H a≠none->K.lookup a=none) ->
   codeAny (model P w) callerA (.call (.ref fa) ⟨[.ref a],[]⟩) (fun r s'=>r=.ok (.ret (.bool true))/\OldK s₁.heap s'.heap/\s'.os=s₁.os/\AllBare s'.gens) s₁:=by
  intro H hO hS hok hA hK
  have base_of:∀{b:Addr} {o:Obj},s₁.heap.get? b=some o->H b=none->(hidT s₁.heap H).get? b=some o:=fun e n=>Zw e n
  have noA:∀{b:Addr} {o:Obj} {es:Array DictEntry} {ep:Nat},s₁.heap.get? b=some o->o.data=.dict es ep->H b=none:=fun {b o es ep} e d=>by
   cases q:H b with
   |none=>rfl
   |some u=>
    have e':b=a:=hA b (by rw[q];simp)
    subst e'
    rw[ha]at e;cases e
    have d':Data.seq vs.toArray _=Data.dict es ep:=d
    cases d'
  have nsK:∀{b:Addr} {m:Str->Option Value},s₁.heap.Ns b m->(hidT s₁.heap H).Ns b m:=fun {b m} ⟨o,es,ep,e,d,r⟩=>⟨o,es,ep,base_of e (noA e d),d,r⟩
  have hKb:K.In (hidT s₁.heap H):=fun b o e=>base_of (KX b o e) (by
   cases q:H b with
   |none=>rfl
   |some u=>
    have e':b=a:=hA b (by rw[q];simp)
    subst e'
    rw[hK (by rw[q];simp)]at e;cases e)
  have hM:Mod K mg (hidT s₁.heap H):=⟨hKb,nsK hns,⟨mb,nsK hb,hbb⟩,let ⟨mc,h1,h2⟩:=hlim;⟨mc,nsK h1,h2⟩⟩
  have e0:Env0 P w K mg (hidT s₁.heap H) callerA [] s₁ H:=⟨rfl,hM,fun b o e=>BM_ e,Nat.le_of_eq (XR _ _),trivial,fun b hb=>absurd (show b∈([]:List Addr) from hb) (by simp),hok,.of_eq hg⟩
  refine codeAny_mono ((F _ hKb (nsK hns)).run callerA [] s₁ H ⟨[.ref a],[]⟩ [.ref a] [.ref a] _ _ hr e0 (hbind s₁ (.ref a)) (.cons rfl .nil) (hsp H hO hS)) fun r s' h=>?_
  cases r with
  |error e=>exact (hCX H e s' h).elim
  |ok fl=>
   cases fl with
   |next=>exact False.elim h
   |brk=>exact False.elim h
   |cont=>exact False.elim h
   |ret u=>
    obtain⟨v,H',os,bare,un,hok',r',q⟩:=h
    have q':v=.bl true:=q
    subst q'
    obtain rfl:u=Value.bool true:=r'
    refine⟨rfl,OldK.of_keep fun b o e=>?_,os,bare⟩
    cases q:H b with
    |none=>exact un.keep b o e q (by intro z;exact absurd (show b∈([]:List Addr) from z) (by simp)) (by simp)
    |some u=>
     rcases hO b with z|⟨ob,xs,z⟩
     ·rw[q]at z;cases z
     ·have z2:=un.frzs b ob _ z
      obtain⟨e1,_⟩:=hok b _ z
      obtain⟨e2,_⟩:=hok' b _ z2
      rw[e]at e1;cases e1
      exact e2
 cases hk:K.lookup a with
 |some o=>
  -- the script is one of the module's own objects
  have e:=KX a o hk
  rw[ha]at e
  cases e
  refine core (fun _=>none) (fun _=>.inl rfl) (.inr ⟨_,vs.toArray,_,hk,rfl,rfl,rfl,by rw[List.size_toArray,lenV];exact hl,by simpa using rv⟩) (fun b u z=>by have z':(none:Option HO)=some u:=z;cases z') (fun b z=>absurd rfl z) fun z=>absurd rfl z
 |none=>
  refine core (fun b=>if b=a then some (.frz {cls:=.type "list",data:=.seq vs.toArray} (.lst (ns.map V.int))) else none) (fun b=>?_) (.inl (.inr ⟨{cls:=.type "list",data:=.seq vs.toArray},if_pos rfl⟩)) (fun b u z=>?_) (fun b z=>?_) fun _=>hk
  ·by_cases hb:b=a
   ·exact .inr ⟨_,_,if_pos hb⟩
   ·exact .inl (if_neg hb)
  ·by_cases hb:b=a
   ·have z':=(if_pos hb).symm.trans z
    cases z'
    subst hb
    exact⟨ha,by rw[List.length_map];exact hl,vs,_,rv,ha⟩
   ·have z':=(if_neg hb).symm.trans z
    cases z'
  ·by_cases hb:b=a
   ·exact hb
   ·exact absurd (if_neg hb) z
theorem walk_of {l:PySem.W.OpenLaw}{n k:Nat}{q:Program}{loose:List Str}{XP:(Str->Option Value)->Heap->Prop}{YP:World->Heap->Prop}{d:DefRec}{K:Params->PySem.W.Frag}{CX:World->CXT}{sp:World->Sp}{x:Str}
  (hn:l.most=some n) (hn2:n<=sizeLine) (hdf:d.params.defaults=[]) (hr:Room k callerA)
  (hY:∀(w:World) (h:Heap),YP w h->(K w.params).In h)
  (F:∀(w:World) (mg:Str->Option Value) (fa:Addr) (h:Heap),(K w.params).In h->h.Ns mainGlobals mg->mg d.name=some (.ref fa) ->
   ∃fd:FuncData,(∀(s:Shared) (u:Value),BindsTo s fd ⟨[u],[]⟩ [(x,u)]) /\
    ∀base:Heap,(K w.params).In base->base.Ns mainGlobals mg->FnOk l.prog w (K w.params) mg base (CX w) k fa fd [x] (sp w))
  (hsp:∀(w:World) (H:Hp) (a:Addr) (ns:List Int),ns.length<=n->Only H->SqL (K w.params) H a (ns.map V.int)->sp w [.ref a] H (fun v _=>v=.bl true) fun _ _ _=>False)
  (hCX:∀(w:World) (H:Hp) (s:Shared) (e:Value) (s':Shared),CX w [] H s (fun _ _ _=>False) e s'->False):
  PySem.W.WalkO q loose XP YP l.row.toRowW d [] (fun f vs=>PySem.call f vs):=by
 refine Att.attach_call hn hdf fun w s₀ s₁ mg mb fa o pm cd doc a vs ns G Y ho hd hcd hmg hobj hints hlen hg=>?_
 have KX:=hY w _ Y
 obtain⟨fd,hb,hF⟩:=F w mg fa _ KX G.T.g hmg
 exact ZA KX G.T.g G.T.b G.T.builtins G.T.nolimit hg hobj hints (Nat.le_trans hlen hn2) hr hF hb (fun H hO hS=>hsp w H a ns hlen hO hS) fun H e s'=>hCX w H s₁ e s'
def Ao (s:Stmt):Arguments:=match s with
 |.FunctionDef _ a _ _ _ _ _ _ _ _=>a
 |_=>{posonlyargs:=[],args:=[],vararg:=none,kwonlyargs:=[],kw_defaults:=[],kwarg:=none,defaults:=[]}
def Am (s:Stmt):List Stmt:=match s with
 |.FunctionDef _ _ b _ _ _ _ _ _ _=>b
 |_=>[]
def Ae (s:Stmt):Scope:=match s with
 |.FunctionDef _ _ _ _ _ _ sc _ _ _=>sc
 |_=>{kind:=.function,names:=[],isGenerator:=false,isCoroutine:=false}
abbrev CX0:CXT:=fun _ _ _ _ _ _=>False
abbrev E0:XK:=fun _ _ _=>False
theorem Az {X:Cx}:Tj CX0 X E0:=fun _ _ _ _ _ _ _ h=>h.elim
structure Fun (K:PySem.W.Frag)(x qual:Str)(st:Stmt)(f:Addr)(fd:FuncData):Prop where
 ex:∃(oc:Value) (od:Option Addr) (kV doc pm:Value) (an:Option Addr) (cdv ct:Value) (osl:Array (Option Value)),
  fd=PySem.W.fnOf x qual (Ao st) (Am st) (Ae st) .none kV doc pm an cdv ct/\K.lookup f=some ⟨oc,od,.func fd,osl⟩/\PySem.W.codeIn K cdv qual=true
 kp:PySem.W.keepIn K (.ref f)=true
section
variable {P:Program} {w:World} {K:PySem.W.Frag} {mg:Str->Option Value} {base:Heap}
theorem Fun.ok {x qual:Str}{st:Stmt}{f:Addr}{fd:FuncData}{N ps:List Str}{k:Nat}{sp:Sp}(F:Fun K x qual st f fd)(S:FnScope N ps (Ae st))(len:∀vs H Q E,sp vs H Q E->vs.length=ps.length)
  (hbody:∀(cdv:Value) (A:Around) (outer:List Env) (s:Shared) (H:Hp) (vs:List V) (Q:VK) (E:XK),Room k (A.deeper (envOfC qual (Ae st) s.heap.objs.size f cdv))->sp vs H Q E ->
   ∃t,PSs (cxOf CX0 P w K mg base N qual (Ae st) f cdv A outer s H E).nox (Am st) t/\t {nx:=fun _ H'=>Q .non H',rt:=Q} (start N vs) H):FnOk P w K mg base CX0 (k+1) f fd ps sp:=by
 obtain⟨oc,od,kV,doc,pm,an,cdv,ct,osl,rfl,lk,hcd⟩:=F.ex
 refine Df_ lk hcd S len fun A outer s H vs Q E hr hsp=>?_
 obtain⟨t,h,q⟩:=hbody cdv A outer s H vs Q E hr hsp
 exact⟨t,h.nox,q⟩
theorem Fun.binds {x qual:Str}{st:Stmt}{f:Addr}{fd:FuncData}{ps:List Str}(F:Fun K x qual st f fd)
  (h:∀(kV doc pm:Value) (an:Option Addr) (cdv ct:Value) (us:List Value),us.length=ps.length->bindArgs (PySem.W.fnOf x qual (Ao st) (Am st) (Ae st) .none kV doc pm an cdv ct) ⟨us,[]⟩=pure (ps.zip us)):Binds K fd ps []:=by
 obtain⟨oc,od,kV,doc,pm,an,cdv,ct,osl,rfl,lk,hcd⟩:=F.ex
 exact .all (h kV doc pm an cdv ct)
theorem AH {x qual:Str}{st:Stmt}{f:Addr}{oc:Value}{od an:Option Addr}{osl:Array (Option Value)}{kV doc pm cdv ct:Value}(l:K.lookup f=some ⟨oc,od,.func (PySem.W.fnOf x qual (Ao st) (Am st) (Ae st) .none kV doc pm an cdv ct),osl⟩)
  (c:PySem.W.codeIn K cdv qual=true) (k:PySem.W.keepIn K (.ref f)=true):Fun K x qual st f (PySem.W.fnOf x qual (Ao st) (Am st) (Ae st) .none kV doc pm an cdv ct):=⟨⟨oc,od,kV,doc,pm,an,cdv,ct,osl,rfl,l,c⟩,k⟩
end
theorem ZC {A:Around}{k:Nat}(hr:Room k A):A.units+1<cLine:=Nat.lt_of_le_of_lt (Nat.add_le_add_left (by decide:1<=64) _) hr.units
section
variable {X:Cx}
theorem pv (i:Nat){x:Str}{pos:Pos}(hN:X.N[i]?=some x:=by rfl)(hv:Vis X.env.scope x:=by first|exact Or.inl rfl|exact Or.inr (Or.inl rfl)|exact Or.inr (Or.inr rfl))(hd:(x==("__debug__" : Str))=false:=by decide)
  (hcd:(x==("__classdict__" : Str))=false:=by decide):PE X (.Name x pos) (tVar i):=CL_ hN hv hd hcd
end
theorem ite2 {c A B:Prop}[Decidable c](h1:c->A)(h2:¬ c->B):if c then A else B:=by
 by_cases h:c
 ·rw[if_pos h]
  exact h1 h
 ·rw[if_neg h]
  exact h2 h
def Same (H H':Hp):Prop:=∀b o,H b=some o->H' b=some o
theorem Same.refl (H:Hp):Same H H:=fun _ _ h=>h
theorem Same.trans {H H1 H2:Hp}(a:Same H H1)(b:Same H1 H2):Same H H2:=fun c o h=>b c o (a c o h)
theorem Same.seq {K:PySem.W.Frag}{H H':Hp}{a:Addr}{xs:List V}(e:Same H H')(h:SqL K H a xs):SqL K H' a xs:=by
 rcases h with (h|⟨o,h⟩)|h
 ·exact .inl (.inl (e _ _ h))
 ·exact .inl (.inr ⟨o,e _ _ h⟩)
 ·exact .inr h
end L2
set_option maxHeartbeats 4000000
namespace L2
open PySem PySem.Spec PyProof.Rows
section
variable {κ:Type} [DecidableEq κ]
def valV (kvs:List (κ×V))(k:κ):Option V:=(kvs.find? fun kv=>decide (kv.1=k)).map (·.2)
def putK (kvs:List (κ×V))(k:κ)(v:V):List (κ×V):=
 if (kvs.any fun kv=>decide (kv.1=k))=true then kvs.map (fun kv=>if kv.1=k then (kv.1,v) else kv) else kvs++[(k,v)]
theorem PM {p:κ×V}{r:List (κ×V)}{k:κ}(e:p.1=k):valV (p::r) k=some p.2:=by simp[valV,List.find?_cons,e]
theorem PN {p:κ×V}{r:List (κ×V)}{k:κ}(e:¬ p.1=k):valV (p::r) k=valV r k:=by simp[valV,List.find?_cons,e]
theorem J6 (k:κ):∀kvs:List (κ×V),(kvs.any fun kv=>decide (kv.1=k))=(valV kvs k).isSome
 |[]=>rfl
 |p::r=>by
  rw[List.any_cons]
  by_cases e:p.1=k
  ·simp only[PM e,decide_eq_true e,Bool.true_or,Option.isSome_some]
  ·rw[PN e,decide_eq_false e,Bool.false_or];exact J6 k r
theorem JF (kvs:List (κ×V))(k:κ)(v:V):(putK kvs k v).length<=kvs.length+1:=by
 unfold putK
 split
 ·rw[List.length_map];omega
 ·rw[List.length_append,List.length_cons,List.length_nil];omega
theorem ZD {kvs:List (κ×V)}{k:κ}(v:V)(h:valV kvs k=none):putK kvs k v=kvs++[(k,v)]:=by
 unfold putK
 rw[J6,h]
 exact if_neg (by decide)
theorem RelO.isSome_eq {o:Option V}{u:Option Value}(r:RelO o u):o.isSome=u.isSome:=by
 cases o with
 |none=>cases u with
  |none=>rfl
  |some _=>exact (show False from r).elim
 |some _=>cases u with
  |none=>exact (show False from r).elim
  |some _=>rfl
theorem KV.val {kvs:List (κ×V)}{vs:List (κ×Value)}(r:KV kvs vs)(k:κ):RelO (valV kvs k) (valueAt vs k):=by
 unfold KV at r
 induction r with
 |nil=>exact True.intro
 |@cons p q ps qs h t ih=>
  obtain⟨h1,h2⟩:=h
  by_cases e:p.1=k
  ·have e':q.1=k:=h1.symm.trans e
   have b:valueAt (q::qs) k=some q.2:=by simp[valueAt,List.find?_cons,e']
   rw[PM e,b];exact h2
  ·have e':¬ q.1=k:=fun z=>e (h1.trans z)
   have b:valueAt (q::qs) k=valueAt qs k:=by simp[valueAt,List.find?_cons,e']
   rw[PN e,b];exact ih
theorem KV.any {kvs:List (κ×V)}{vs:List (κ×Value)}(r:KV kvs vs)(k:κ):(kvs.any fun kv=>decide (kv.1=k))=vs.any fun kv=>decide (kv.1=k):=by
 unfold KV at r
 induction r with
 |nil=>rfl
 |cons h t ih=>rw[List.any_cons,List.any_cons,ih,h.1]
theorem KV.repl {kvs:List (κ×V)}{vs:List (κ×Value)}(r:KV kvs vs)(k:κ){y:V}{u:Value}(ry:RelV y u):
  KV (kvs.map fun kv=>if kv.1=k then (kv.1,y) else kv) (vs.map fun kv=>if kv.1=k then (kv.1,u) else kv):=by
 unfold KV at r ⊢
 induction r with
 |nil=>exact .nil
 |@cons p q ps qs h t ih=>
  rw[List.map_cons,List.map_cons]
  refine .cons ?_ ih
  obtain⟨h1,h2⟩:=h
  by_cases e:p.1=k
  ·rw[if_pos e,if_pos (h1.symm.trans e)];exact⟨h1,ry⟩
  ·rw[if_neg e,if_neg (fun z=>e (h1.trans z))];exact⟨h1,h2⟩
theorem KV.put {kvs:List (κ×V)}{vs:List (κ×Value)}(r:KV kvs vs)(k:κ){y:V}{u:Value}(ry:RelV y u):KV (putK kvs k y) (stored vs k u):=by
 unfold putK stored
 rw[r.any k]
 by_cases e:(vs.any fun kv=>decide (kv.1=k))=true
 ·rw[if_pos e,if_pos e];exact r.repl k ry
 ·rw[if_neg e,if_neg e];exact Paired.snoc r ⟨rfl,ry⟩
theorem KV.length {kvs:List (κ×V)}{vs:List (κ×Value)}(r:KV kvs vs):kvs.length=vs.length:=Paired.length r
end
theorem ZE {P:Program}{w:World}{k:Key}{u:Value}(r:RelV (kV k) u):(Cd P w).is k u=true:=by
 cases k with
 |inl i=>obtain⟨t,e⟩:=(show ∃t,u=Value.int i t from r);subst e;exact UZ P w i t
 |inr x=>obtain⟨t,e⟩:=(show ∃t,u=Value.str x t from r);subst e;exact U0 P w x t
theorem Ts {P:Program}{w:World}:∀{ks:List Key} {us:List Value},Vals (ks.map kV) us->ItemsAre (Cd P w) ks us
 |[],_,r=>by rw[List.map_nil]at r;cases r;exact .nil
 |k::ks,_,r=>by
  rw[List.map_cons]at r
  cases r with
  |cons h t=>exact .cons (ZE h) (Ts t)
abbrev KT (H:Hp):List (List Key×V)->List (List Key×Addr×Value)->Prop:=Paired fun p q=>p.1=q.1/\H q.2.1=some (.tup (p.1.map kV))/\RelV p.2 q.2.2
theorem KT.val {H:Hp}{kvs:List (List Key×V)}{xs:List (List Key×Addr×Value)}(r:KT H kvs xs)(k:List Key):RelO (valV kvs k) ((atKey xs k).map (·.2)):=by
 induction r with
 |nil=>exact True.intro
 |@cons p q ps qs h t ih=>
  obtain⟨h1,_,h2⟩:=h
  by_cases e:p.1=k
  ·have e':q.1=k:=h1.symm.trans e
   have b:atKey (q::qs) k=some q.2:=by simp[atKey,List.find?_cons,e']
   rw[PM e,b];exact h2
  ·have e':¬ q.1=k:=fun z=>e (h1.trans z)
   have b:atKey (q::qs) k=atKey qs k:=by simp[atKey,List.find?_cons,e']
   rw[PN e,b];exact ih
theorem KT.repl {H:Hp}{kvs:List (List Key×V)}{xs:List (List Key×Addr×Value)}(r:KT H kvs xs)(k:List Key){y:V}{u:Value}(ry:RelV y u):
  KT H (kvs.map fun kv=>if kv.1=k then (kv.1,y) else kv) (xs.map (putAt k u)):=by
 induction r with
 |nil=>exact .nil
 |@cons p q ps qs h t ih=>
  rw[List.map_cons,List.map_cons]
  refine .cons ?_ ih
  obtain⟨h1,h2,h3⟩:=h
  unfold putAt
  by_cases e:p.1=k
  ·rw[if_pos e,if_pos (h1.symm.trans e)];exact⟨h1,h2,ry⟩
  ·rw[if_neg e,if_neg (fun z=>e (h1.trans z))];exact⟨h1,h2,h3⟩
theorem KT.put {H:Hp}{kvs:List (List Key×V)}{xs:List (List Key×Addr×Value)}(r:KT H kvs xs)(k:List Key){b:Addr}{y:V}{u:Value}(hb:H b=some (.tup (k.map kV)))(ry:RelV y u):
  KT H (putK kvs k y) (storedH xs k b u):=by
 have e:(kvs.any fun kv=>decide (kv.1=k))=(atKey xs k).isSome:=by
  rw[J6,(r.val k).isSome_eq,Option.isSome_map]
 unfold putK storedH
 rw[e]
 by_cases q:(atKey xs k).isSome=true
 ·rw[if_pos q,if_pos q];exact r.repl k ry
 ·rw[if_neg q,if_neg q];exact Paired.snoc r ⟨rfl,hb,ry⟩
theorem KT.keeps {H H':Hp}{kvs:List (List Key×V)}{xs:List (List Key×Addr×Value)}(r:KT H kvs xs)(ht:∀b ys,H b=some (.tup ys)->H' b=some (.tup ys)):KT H' kvs xs:=
 Paired.mapP r fun _ _ z=>⟨z.1,ht _ _ z.2.1,z.2.2⟩
section
variable {P:Program} {w:World} {H:Hp} {h:Heap} {a:Addr}
theorem ZF {u:HO}(ok:HOk P w H h)(e:Rd H a u):Bk P w H h a u:=e.ok ok
theorem ZG {kvs:List (Key×V)}(ok:HOk P w H h)(e:Rd H a (.dK kvs)):kvs.length<=sizeLine/\(a==sysModules)=false/\∃vs,KV kvs vs/\h.DictOf (Cd P w) a vs:=
 show Bk P w H h a (.dK kvs) from ZF ok e
theorem Dm_ {kvs:List (Key×V)}(ok:HOk P w H h)(e:H a=some (.dK kvs)):kvs.length<=sizeLine/\(a==sysModules)=false/\∃vs,KV kvs vs/\h.DictOf (Cd P w) a vs:=ZG ok (.inl e)
theorem Ye {ks:List Key}(ok:HOk P w H h)(e:H a=some (.tup (ks.map kV))):(tupleKind (Cd P w)).is h ks a:=by
 obtain⟨_,its,r,o,h1,h2,n,h3⟩:=(show Bk P w H h a (.tup (ks.map kV)) from ok a _ e)
 exact⟨o,its.toArray,n,h1,h2,h3,by simpa using Ts r⟩
theorem BU_ {kvs:List (List Key×V)}(ok:HOk P w H h)(e:Rd H a (.dT kvs)):kvs.length<=sizeLine/\(a==sysModules)=false /\
  ∃xs,KT H kvs xs/\h.DictOfH (tupleKind (Cd P w)) a xs:=by
 obtain⟨z,y,xs,r,o,es,ep,h1,h2,h3,h4,h5⟩:=(show Bk P w H h a (.dT kvs) from ZF ok e)
 refine⟨z,y,xs,r,o,es,ep,h1,h2,h3,h4,fun x hx=>?_,h5⟩
 have all:∀{l:List (List Key×V)} {m:List (List Key×Addr×Value)},KT H l m->∀x∈m,(tupleKind (Cd P w)).is h x.1 x.2.1:=by
  intro l m q
  induction q with
  |nil=>intro x hx;exact nomatch hx
  |@cons p q ps qs hq t ih=>
   intro x hx
   rcases List.mem_cons.mp hx with e|hx
   ·subst e
    exact Ye ok (by rw[<-hq.1];exact hq.2.1)
   ·exact ih x hx
 exact all r x hx
theorem El_ {kvs:List (List Key×V)}(ok:HOk P w H h)(e:H a=some (.dT kvs)):kvs.length<=sizeLine/\(a==sysModules)=false /\
  ∃xs,KT H kvs xs/\h.DictOfH (tupleKind (Cd P w)) a xs:=BU_ ok (.inl e)
end
def DGet (H:Hp)(a:Addr)(y:V)(r:Option V):Prop:=
 (∃kvs k,Rd H a (.dK kvs)/\y=kV k/\r=valV kvs k) \/ ∃kvs k b,Rd H a (.dT kvs)/\y=.ref b/\H b=some (.tup (k.map kV))/\r=valV kvs k
def DPut (H:Hp)(a:Addr)(y v:V)(H':Hp):Prop:=
 (∃kvs k,H a=some (.dK kvs)/\y=kV k/\kvs.length<sizeLine/\H'=upd H a (.dK (putK kvs k v))) \/
 ∃kvs k b,H a=some (.dT kvs)/\y=.ref b/\H b=some (.tup (k.map kV))/\kvs.length<sizeLine/\H'=upd H a (.dT (putK kvs k v))
theorem DGet.k {H:Hp}{a:Addr}{kvs:List (Key×V)}{k:Key}(e:H a=some (.dK kvs)):DGet H a (kV k) (valV kvs k):=.inl ⟨kvs,k,.inl e,rfl,rfl⟩
theorem DPut.k {H:Hp}{a:Addr}{kvs:List (Key×V)}{k:Key}{v:V}(e:H a=some (.dK kvs))(hl:kvs.length<sizeLine):DPut H a (kV k) v (upd H a (.dK (putK kvs k v))):=.inl ⟨kvs,k,e,rfl,hl,rfl⟩
theorem DPut.t {H:Hp}{a b:Addr}{kvs:List (List Key×V)}{k:List Key}{v:V}(e:H a=some (.dT kvs))(eb:H b=some (.tup (k.map kV)))(hl:kvs.length<sizeLine):
  DPut H a (.ref b) v (upd H a (.dT (putK kvs k v))):=.inr ⟨kvs,k,b,e,rfl,eb,hl,rfl⟩
section
variable {X:Cx} {pins:List (Addr×Obj)} {σ:St} {H:Hp} {s:Shared} {a:Addr} {y v:V} {u r:Value} {o:Option V} {A:Around} {E:Value->Shared->Prop}
theorem Inv.big (I:Inv X pins σ H s):sysModules<s.heap.objs.size:=by
 have h:mainGlobals<s.heap.objs.size:=(I.mod.glob.keeps I.bk).lt
 exact Nat.lt_trans (by decide) h
theorem Yf {Q:Value->Shared->Prop}(hu:A.units+1<cLine)(I:Inv X pins σ H s)(g:DGet H a y (some v))(ry:RelV y u)(h:∀w' s',Inv X pins σ H s'->RelV v w'->Q w' s'):
  wpAny (model X.prog X.w) A (getItem (.ref a) u) Q E s:=by
 rcases g with ⟨kvs,k,e,ey,l⟩|⟨kvs,k,b,e,ey,eb,l⟩
 ·subst ey
  obtain⟨z,hd,vs,rel,dd⟩:=ZG I.hok e
  obtain⟨w',hw,rw'⟩:=RelO.some_of (v:=v) (o:=valueAt vs k) (by rw[l];exact rel.val k)
  exact wpAny_getItem_of (ZE ry) dd.mapOf hw (h w' _ (I.tok _) rw')
 ·subst ey
  cases (show u=Value.ref b from ry)
  obtain⟨z,hd,xs,rel,dd⟩:=BU_ I.hok e
  obtain⟨w',hw,rw'⟩:=RelO.some_of (v:=v) (o:=(atKey xs k).map (·.2)) (by rw[l];exact rel.val k)
  obtain⟨p,hp,hp2⟩:=Option.map_eq_some_iff.mp hw
  refine wpAny_getItem_heap (tupleKind_room_in1 hu) (Ye I.hok eb) dd hp ?_
  rw[hp2]
  exact h w' _ (I.tok _) rw'
theorem MO {h':Heap}{t':Nat}{ob:HO}(I:Inv X pins σ H s)(mu:Mut (H a))(hs:Heap.SameBut a s.heap h')(he:∃q,h'.get? a=some q)(new:Bk X.prog X.w (upd H a ob) h' a ob):
  Inv X pins σ (upd H a ob) {s with heap:=h',toks:=t' }:=
 I.write (x:=a) (e:=a) mu (.inl rfl) (fun b q hb z=>(hs.2 b hb).trans z) he new
theorem AQ_ {P:Program}{w:World}{H':Hp}{h':Heap}{kvs:List (Key×V)}{vs:List (Key×Value)}(z:kvs.length<=sizeLine)(hd:(a==sysModules)=false)(rel:KV kvs vs)(dd:h'.DictOf (Cd P w) a vs):
  Bk P w H' h' a (.dK kvs):=⟨z,hd,vs,rel,dd⟩
theorem Yg {H':Hp}{Q:Unit->Shared->Prop}(hu:A.units+1<cLine)(I:Inv X pins σ H s)(g:DPut H a y v H')(ry:RelV y u)(rv:RelV v r)(h:∀s',Inv X pins σ H' s'->Q () s'):
  wpAny (model X.prog X.w) A (setItem (.ref a) u r) Q E s:=by
 rcases g with ⟨kvs,k,e,ey,l,eH⟩|⟨kvs,k,b,e,ey,eb,l,eH⟩
 ·subst ey eH
  obtain⟨z,hd,vs,rel,dd⟩:=Dm_ I.hok e
  have hz:vs.length<=sizeLine:=by rw[<-rel.length];exact z
  have hl:(putK kvs k v).length<=sizeLine:=by have:=JF kvs k v;omega
  refine wpAny_setItem_pairs (hsz:=hz) (ZE ry) dd fun h' dd' hs=>h _ ?_
  have he:∃q,h'.get? a=some q:=let ⟨q,_,_,hq,_⟩:=dd';⟨q,hq⟩
  exact MO I (by rw[e];exact True.intro) hs he (AQ_ hl hd (rel.put k rv) dd')
 ·subst ey eH
  cases (show u=Value.ref b from ry)
  obtain⟨z,hd,xs,rel,dd⟩:=El_ I.hok e
  have hz:xs.length<=sizeLine:=by rw[<-Paired.length rel];exact z
  have hl:(putK kvs k v).length<=sizeLine:=by have:=JF kvs k v;omega
  refine wpAny_setItem_heap (hsz:=hz) (tupleKind_room_in1 hu) (Ye I.hok eb) dd fun h' dd' hs=>h _ ?_
  obtain⟨q,es,ep,hq,h2,h3,h4,_,h5⟩:=dd'
  refine MO I (by rw[e];exact True.intro) hs ⟨q,hq⟩ ⟨hl,hd,_,(rel.put k eb rv).keeps fun c ys ec=>?_,q,es,ep,hq,h2,h3,h4,h5⟩
  rw[Av (Eh_ ec e (fun z=>nomatch z))]
  exact ec
end
def NoSl (i:Expr):Prop:=∀ov iv,subscripted i false ov iv=operate [ov,iv] (getItem ov iv)
theorem BV_ {prog:Program}{w:World}{A:Around}{E:Value->Shared->Prop}{s:Shared}{env:Env}{value slice:Expr}{pos:Pos}{T id:String}{Q:Value->Shared->Prop}
  (hl:typeLookup (.type T) "__getitem__"=pure (some (.builtin id))) (hs:NoSl slice)
  (h:wpAny (model prog w) A (eval value env) (fun o s₁=>wpAny (model prog w) A (eval slice env) (fun i s₂=>s₂.TypeIs o T/\wpAny (model prog w) A (getItem o i) Q E s₂) E s₁) E s):
  wpAny (model prog w) A (eval (.Subscript value slice pos) env) Q E s:=by
 refine Subscript_ (wpAny_mono h (fun o s₁ h₁=>wpAny_mono h₁ (fun i s₂ h₂=>?_) fun _ _ x=>x) fun _ _ x=>x)
 obtain⟨hT,h₂⟩:=h₂
 unfold subscriptTail
 refine wpAny_bind ?_
 rw[getitemInPython_of_ne hT.not_modules]
 refine wpAny_bind (wpAny_specialOf hT hl ?_)
 have fin:wpAny (model prog w) A (subscripted slice false o i) (fun r s₃=>wpAny (model prog w) A (letTemporaryGo value o r >>= fun _=>pure r) Q E s₃) E s₂:=by
  rw[hs o i]
  exact wpAny_operating (wpAny_mono h₂ (fun r s₃ h₃=>wpAny_bind (wpAny_letTemporaryGo (wpAny_pure h₃))) fun _ _ x=>x)
 first
  | exact wpAny_pure (wpAny_bind fin)
  | exact wpAny_bind (wpAny_pure (wpAny_bind fin))
  | exact wpAny_bind fin
theorem U6 {X:Cx}{pins:List (Addr×Obj)}{σ:St}{H:Hp}{s:Shared}{a:Addr}{y:V}{o:Option V}(I:Inv X pins σ H s)(g:DGet H a y o):s.TypeIs (.ref a) "dict" := by
 rcases g with ⟨kvs,k,e,_,_⟩|⟨kvs,k,b,e,_,_,_⟩
 ·obtain⟨_,_,vs,_,dd⟩:=ZG I.hok e
  exact dd.typeIs
 ·obtain⟨_,_,xs,_,dd⟩:=BU_ I.hok e
  exact dd.typeIs
def Dn_ (td ty:TE):TE:=fun σ H Q=>td σ H fun x H1=>ty σ H1 fun y H2=>∃a v,x=.ref a/\DGet H2 a y (some v)/\Q v H2
def Do_ (td ty tv:TE):TS:=fun D σ H=>tv σ H fun v H1=>td σ H1 fun x H2=>ty σ H2 fun y H3=>∃a H4,x=.ref a/\DPut H3 a y v H4/\D.nx σ H4
section
variable {X:Cx} {o i e value:Expr} {pos pos' tpos:Pos} {td ty tv:TE}
theorem BW_ (hu:X.A.units+1<cLine)(ho:PE X o td)(hi:PE X i ty)(hs:NoSl i):PE X (.Subscript o i pos) (Dn_ td ty):=by
 intro pins s σ H Q I h
 refine BV_ PySem.F.slot_dict_getitem.lookup hs (thn (ho pins s σ H _ I h) fun u s1 ⟨x,H1,I1,rx,q1⟩=>thn (hi pins s1 σ H1 _ I1 q1) fun iv s2 ⟨y,H2,I2,ry,a,v,ex,g,q2⟩=>?_)
 subst ex
 obtain rfl:u=Value.ref a:=rx
 exact⟨U6 I2 g,Yf hu I2 g ry fun w' s3 I3 rw'=>⟨v,H2,I3,rw',q2⟩⟩
theorem U7 (hu:X.A.units+1<cLine)(ho:PE X o td)(hi:PE X i ty)(hv:PE X value tv)(hs:swapsWith value (some (.Subscript o i pos')) pos.line X.env=pure false):
  PS X (.Assign [.Subscript o i pos'] value pos) (Do_ td ty tv):=by
 intro pins s σ H D I h
 refine wpAny_Assign_Subscript (thn (hv pins s σ H _ I h) fun r s1 ⟨v,H1,I1,rv,q1⟩=>thn (ho pins s1 σ H1 _ I1 q1) fun u s2 ⟨x,H2,I2,rx,q2⟩=>thn (hi pins s2 σ H2 _ I2 q2) fun iv s3 ⟨y,H3,I3,ry,a,H4,ex,g,q3⟩=>?_) hs
 subst ex
 obtain rfl:u=Value.ref a:=rx
 exact Yg hu I3 g ry rv fun s4 I4=>⟨σ,H4,I4,q3⟩
end
theorem VX {P:Program}{w:World}{H:Hp}(h:Heap)(hb:sysModules<h.objs.size):Bk P w H (h.push {cls:=.type "dict",data:=.dict #[]}) h.objs.size (.dK []):=
 ⟨Nat.zero_le _,beq_eq_false_iff_ne.mpr (Ne.symm (Nat.ne_of_lt hb)),[],.nil,Heap.DictOf.new h⟩
theorem ZH {P:Program}{w:World}{H:Hp}(h:Heap)(hb:sysModules<h.objs.size):Bk P w H (h.push {cls:=.type "dict",data:=.dict #[]}) h.objs.size (.dT []):=
 ⟨Nat.zero_le _,beq_eq_false_iff_ne.mpr (Ne.symm (Nat.ne_of_lt hb)),[],.nil,_,#[],0,Heap.get?_push_size _ rfl,⟨rfl,rfl,rfl⟩,rfl,rfl,List.nodup_nil⟩
def AR_:TE:=fun _ H Q=>∀p,H p=none->Q (.ref p) (upd H p (.dK []))
def AS_:TE:=fun _ H Q=>∀p,H p=none->Q (.ref p) (upd H p (.dT []))
section
variable {X:Cx} {pos:Pos}
theorem PQ:PE X (.Dict [] [] pos) AR_:=fun pins s σ H Q I h=>
 wpAny_Dict_empty ⟨.ref s.heap.objs.size,_,I.laid (a:=s.heap.objs.size) (o:=.dK []) (t':=s.toks) (fun _ _ q=>Heap.get?_push_of_some _ q) (Nat.le_refl _) (VX s.heap I.big),rfl,h _ (I.hok.fresh (Nat.le_refl _))⟩
theorem ZI:PE X (.Dict [] [] pos) AS_:=fun pins s σ H Q I h=>
 wpAny_Dict_empty ⟨.ref s.heap.objs.size,_,I.laid (a:=s.heap.objs.size) (o:=.dT []) (t':=s.toks) (fun _ _ q=>Heap.get?_push_of_some _ q) (Nat.le_refl _) (ZH s.heap I.big),rfl,h _ (I.hok.fresh (Nat.le_refl _))⟩
end
def MQ:List (TE×TE)->St->Hp->(List (V×V)->Hp->Prop)->Prop
 |[],_,H,Q=>Q [] H
 | (tk,tv)::r,σ,H,Q=>tk σ H fun x H1=>tv σ H1 fun y H2=>MQ r σ H2 fun ps H3=>Q ((x,y)::ps) H3
abbrev VV:List (V×V)->List (Value×Value)->Prop:=Paired fun p q=>RelV p.1 q.1/\RelV p.2 q.2
def PPs (X:Cx)(pos:Pos)(keys:List (Option Expr))(values:List Expr)(trs:List (TE×TE)):Prop:=
 ∀(pins:List (Addr×Obj)) (s:Shared) (σ:St) (H:Hp) (Q:List (V×V)->Hp->Prop),Inv X pins σ H s->MQ trs σ H Q ->
  wpAny (model X.prog X.w) X.A (evalPairs (pairTrees keys values X.env pos)) (fun vs s'=>∃ps H',Inv X pins σ H' s'/\VV ps vs/\Q ps H') X.xe s
theorem BX_ {X:Cx}{pos:Pos}:PPs X pos [] [] []:=fun pins s σ H Q I h=>pairTrees_nil_walk ⟨[],H,I,.nil,h⟩
theorem ZJ {X:Cx}{pos:Pos}{k v:Expr}{ks:List (Option Expr)}{vs:List Expr}{tk tv:TE}{trs:List (TE×TE)}(hk:PE X k tk)(hv:PE X v tv)(hr:PPs X pos ks vs trs):
  PPs X pos (some k::ks) (v::vs) ((tk,tv)::trs):=fun pins s σ H Q I h=>
 pairTrees_cons_walk (thn (hk pins s σ H _ I h) fun u s1 ⟨x,H1,I1,rx,q1⟩=>thn (hv pins s1 σ H1 _ I1 q1) fun w2 s2 ⟨y,H2,I2,ry,q2⟩ =>
  thn (hr pins s2 σ H2 _ I2 q2) fun ws s3 ⟨ps,H3,I3,rel,q3⟩=>⟨(x,y)::ps,H3,I3,.cons ⟨rx,ry⟩ rel,q3⟩)
def LM (kvs more:List (Key×V)):List (Key×V):=more.foldl (fun acc kv=>putK acc kv.1 kv.2) kvs
theorem KV.merge:∀{more:List (Key×V)} {rs:List (Key×Value)} {kvs:List (Key×V)} {vs:List (Key×Value)},KV more rs->KV kvs vs->KV (LM kvs more) (merged vs rs):=by
 intro more rs kvs vs r
 unfold KV at r
 induction r generalizing kvs vs with
 |nil=>intro q;exact q
 |@cons p q ps qs h t ih=>
  intro r0
  have e:KV (putK kvs p.1 p.2) (stored vs q.1 q.2):=by
   have:=r0.put p.1 h.2
   rw[<-h.1];exact this
  exact ih e
theorem J7:∀(more kvs:List (Key×V)),(LM kvs more).length<=kvs.length+more.length
 |[],kvs=>by show kvs.length<=kvs.length+0;omega
 |p::r,kvs=>by
  have h1:=J7 r (putK kvs p.1 p.2)
  have h2:=JF kvs p.1 p.2
  show (LM (putK kvs p.1 p.2) r).length<=_
  rw[List.length_cons];omega
theorem O3 {P:Program}{w:World}:∀{kvs:List (Key×V)} {ws:List (Value×Value)},VV (kvs.map fun kv=>(kV kv.1,kv.2)) ws->∃rs,Carries (Cd P w) ws rs/\KV kvs rs
 |[],_,r=>by rw[List.map_nil]at r;cases r;exact⟨[],True.intro,.nil⟩
 |p::kvs,_,r=>by
  rw[List.map_cons]at r
  cases r with
  |@cons a b as bs h t=>
   obtain⟨rs,c,q⟩:=O3 (P:=P) (w:=w) t
   obtain⟨b1,b2⟩:=b
   exact⟨(p.1,b2)::rs,⟨ZE h.1,rfl,c⟩,.cons ⟨rfl,h.2⟩ q⟩
def BY_ (trs:List (TE×TE)):TE:=fun σ H Q=>∀p,H p=none->MQ trs σ (upd H p (.dK [])) fun ps H2=>H2 p=some (.dK [])/\∃kvs:List (Key×V),ps=kvs.map (fun kv=>(kV kv.1,kv.2))/\kvs.length<=15/\Q (.ref p) (upd H2 p (.dK (LM [] kvs)))
theorem BZ_ {X:Cx}{pos:Pos}{keys:List (Option Expr)}{values:List Expr}{trs:List (TE×TE)}(h:PPs X pos keys values trs)(hall:keys.all (·.isSome)=true)(hl:keys.length=values.length)(h0:keys ≠ [])
  (h15:keys.length<=15):PE X (.Dict keys values pos) (BY_ trs):=by
 intro pins s σ H Q I q
 have hn:=I.hok.fresh (Nat.le_refl s.heap.objs.size)
 have I1:=I.laid (a:=s.heap.objs.size) (o:=.dK []) (h':=s.heap.push {cls:=.type "dict",data:=.dict #[]}) (t':=s.toks) (fun _ _ q=>Heap.get?_push_of_some _ q) (Nat.le_refl _) (VX s.heap I.big)
 refine wpAny_Dict_walk (knd:=Cd X.prog X.w) hall hl h0 h15 (thn (h pins _ σ _ _ I1 (q _ hn)) fun ws s2 ⟨ps,H2,I2,rel,e,kvs,ep,lk,q2⟩=>?_)
 subst ep
 obtain⟨rs,c,rk⟩:=O3 (P:=X.prog) (w:=X.w) rel
 obtain⟨z,hd,vs0,r0,dd⟩:=Dm_ I2.hok e
 cases r0
 refine⟨rs,c,dd,fun h' dd' hs=>⟨.ref s.heap.objs.size,_,?_,rfl,q2⟩⟩
 have hz:(LM [] kvs).length<=sizeLine:=by
  have h1:=J7 kvs []
  rw[List.length_nil]at h1
  rw[sizeLine_eq];omega
 have he:∃q,h'.get? s.heap.objs.size=some q:=let ⟨q,_,_,hq,_⟩:=dd';⟨q,hq⟩
 exact MO I2 (by rw[e];exact True.intro) hs he (AQ_ hz hd (rk.merge .nil) dd')
end L2
namespace L2
open PySem PySem.Spec PyProof.Rows
def clOf (env:Env):List (Str×NameKind)->List (Str×Addr)->List (Str×Addr)
 |[],acc=>acc
 | (n,k)::r,acc=>if (k == .free)=true then clOf env r ((n,(env.cells.lookup n).getD 0)::acc) else clOf env r acc
theorem IZ {env:Env}{scope:Scope}(h:∀p∈scope.names,p.2=.free->∃c,env.cells.lookup p.1=some c):closureFor scope env=pure (clOf env scope.names []):=by
 have go:∀(l:List (Str×NameKind)) (acc:List (Str×Addr)),(∀p∈l,p.2=.free->∃c,env.cells.lookup p.1=some c) ->
   (forIn l acc fun (x:Str×NameKind) (cs:List (Str×Addr))=>(if (x.2 == .free)=true then do let c <- cellOf env x.1;pure (ForInStep.yield ((x.1,c)::cs)) else pure (ForInStep.yield cs):Sem (ForInStep (List (Str×Addr)))))=(pure (clOf env l acc):Sem (List (Str×Addr))):=by
  intro l
  induction l with
  |nil=>intro acc _;rfl
  |cons p r ih=>
   intro acc hl
   obtain⟨n,k⟩:=p
   rw[List.forIn_cons]
   by_cases hk:(k == .free)=true
   ·obtain⟨c,hc⟩:=hl (n,k) List.mem_cons_self (by simpa using hk)
    have e1:cellOf env n=pure c:=by unfold cellOf;rw[hc]
    have ih':=ih ((n,c)::acc) fun q hq=>hl q (List.mem_cons_of_mem _ hq)
    show ((if (k == .free)=true then do let c <- cellOf env n;pure (ForInStep.yield ((n,c)::acc)) else pure (ForInStep.yield acc):Sem _) >>= _)=_
    rw[if_pos hk,e1]
    show (forIn r ((n,c)::acc) _:Sem _)=_
    rw[clOf,if_pos hk,hc]
    exact ih'
   ·have ih':=ih acc fun q hq=>hl q (List.mem_cons_of_mem _ hq)
    show ((if (k == .free)=true then do let c <- cellOf env n;pure (ForInStep.yield ((n,c)::acc)) else pure (ForInStep.yield acc):Sem _) >>= _)=_
    rw[if_neg hk]
    show (forIn r acc _:Sem _)=_
    rw[clOf,if_neg hk]
    exact ih'
 have e:=go scope.names [] h
 unfold closureFor
 show (forIn scope.names [] _ >>= fun cs=>pure cs:Sem _)=_
 have e2:(forIn scope.names [] (fun (x:Str×NameKind) (r:List (Str×Addr))=>(match x with
   | (name,kind)=>if (kind == .free)=true then do let c <- cellOf env name;pure (ForInStep.yield ((name,c)::r)) else do pure PUnit.unit;pure (ForInStep.yield r):Sem (ForInStep (List (Str×Addr))))))=(pure (clOf env scope.names []):Sem (List (Str×Addr))):=e
 exact congrArg (fun z=>z >>= fun cs=>pure cs) e2
theorem My {env:Env}:∀(l:List (Str×NameKind)) (acc:List (Str×Addr)),(∀p∈l,p.2=.free->∃c,env.cells.lookup p.1=some c)->(∀q∈acc,env.cells.lookup q.1=some q.2)->∀q∈clOf env l acc,env.cells.lookup q.1=some q.2
 |[],_,_,ha,q,hq=>ha q hq
 | (n,k)::r,acc,hl,ha,q,hq=>by
  unfold clOf at hq
  by_cases hk:(k == .free)=true
  ·rw[if_pos hk]at hq
   obtain⟨c,hc⟩:=hl (n,k) List.mem_cons_self (by simpa using hk)
   refine My r _ (fun p hp=>hl p (List.mem_cons_of_mem _ hp)) (fun p hp=>?_) q hq
   rcases List.mem_cons.mp hp with rfl|hp
   ·show env.cells.lookup n=some ((env.cells.lookup n).getD 0)
    rw[hc];rfl
   ·exact ha p hp
  ·rw[if_neg hk]at hq
   exact My r _ (fun p hp=>hl p (List.mem_cons_of_mem _ hp)) ha q hq
theorem I0 {env:Env}:∀(l:List (Str×NameKind)) (acc:List (Str×Addr)) (x:Str),((x,NameKind.free)∈l \/ ∃c,(x,c)∈acc)->∃c,(x,c)∈clOf env l acc
 |[],_,_,h=>by
  rcases h with h|h
  ·cases h
  ·exact h
 | (n,k)::r,acc,x,h=>by
  unfold clOf
  by_cases hk:(k == .free)=true
  ·rw[if_pos hk]
   refine I0 r _ x ?_
   rcases h with h|⟨c,h⟩
   ·rcases List.mem_cons.mp h with h|h
    ·cases h
     exact .inr ⟨_,List.mem_cons_self⟩
    ·exact .inl h
   ·exact .inr ⟨c,List.mem_cons_of_mem _ h⟩
  ·rw[if_neg hk]
   refine I0 r _ x ?_
   rcases h with h|h
   ·rcases List.mem_cons.mp h with h|h
    ·cases h
     exact absurd rfl hk
    ·exact .inl h
   ·exact .inr h
theorem BU {β:Type}:∀{l:List (Str×β)} {x:Str} {c:β},(x,c)∈l->∃c',l.lookup x=some c'
 |[],_,_,h=>by cases h
 | (n,d)::r,x,c,h=>by
  by_cases hx:(x==n)=true
  ·exact⟨d,by rw[List.lookup_cons,hx]⟩
  ·rcases List.mem_cons.mp h with h|h
   ·cases h;exact absurd (beq_self_eq_true _) hx
   ·obtain⟨c',e⟩:=BU h
    exact⟨c',by rw[List.lookup_cons];simp only[Bool.not_eq_true]at hx;rw[hx];exact e⟩
def relF (env:Env):Str×NameKind->Str×NameKind:=fun (n,k)=>if (k==NameKind.free&&env.scope.kind == .function&&env.kindOf n==some .cell) then (n,NameKind.cell) else (n,k)
theorem Mz {env:Env}{n:Str}{k:NameKind}(h:(k==NameKind.free&&env.scope.kind == .function&&env.kindOf n==some .cell)=true):relF env (n,k)=(n,.cell):=if_pos h
theorem PR {env:Env}{n:Str}{k:NameKind}(h:¬ (k==NameKind.free&&env.scope.kind == .function&&env.kindOf n==some .cell)=true):relF env (n,k)=(n,k):=if_neg h
theorem Hy {env:Env}:∀{names:List (Str×NameKind)} {x:Str} {k:NameKind},(∀y∈names,y.2 ≠ .cell) ->
  (names.map (relF env)).lookup x=some k->(k=.cell\/k=.free)->(x,NameKind.free)∈names
 |[],_,_,_,h,_=>by simp at h
 | (n,k')::r,x,k,hc,h,hk=>by
  have ih := @Hy env r x k (fun y hy=>hc y (List.mem_cons_of_mem _ hy))
  rw[List.map_cons]at h
  by_cases hb:(k'==NameKind.free&&env.scope.kind == .function&&env.kindOf n==some .cell)=true
  ·rw[Mz hb,List.lookup_cons]at h
   cases hx:x==n with
   |true=>
    have e:x=n:=by simpa using hx
    subst e
    have e2:k'=.free:=by
     simp only[Bool.and_eq_true]at hb
     simpa using hb.1.1
    subst e2
    exact List.mem_cons_self
   |false=>
    rw[hx]at h
    exact List.mem_cons_of_mem _ (ih h hk)
  ·rw[PR hb,List.lookup_cons]at h
   cases hx:x==n with
   |true=>
    rw[hx]at h
    have e:x=n:=by simpa using hx
    subst e
    have e2:k'=k:=Option.some.inj h
    subst e2
    rcases hk with rfl|rfl
    ·exact absurd rfl (hc _ List.mem_cons_self)
    ·exact List.mem_cons_self
   |false=>
    rw[hx]at h
    exact List.mem_cons_of_mem _ (ih h hk)
theorem Hz {env:Env}:∀{names:List (Str×NameKind)} {x:Str},names.lookup x=some .free ->
  ∃k,(k=NameKind.cell\/k=NameKind.free)/\(names.map (relF env)).lookup x=some k
 |[],_,h=>by simp at h
 | (n,k')::r,x,h=>by
  have ih := @Hz env r x
  rw[List.lookup_cons]at h
  rw[List.map_cons]
  cases hx:x==n with
  |true=>
   rw[hx]at h
   have e2:k'=.free:=Option.some.inj h
   subst e2
   by_cases hb:((NameKind.free:NameKind)==NameKind.free&&env.scope.kind == .function&&env.kindOf n==some .cell)=true
   ·exact⟨.cell,.inl rfl,by rw[Mz hb,List.lookup_cons,hx]⟩
   ·exact⟨.free,.inr rfl,by rw[PR hb,List.lookup_cons,hx]⟩
  |false=>
   rw[hx]at h
   obtain⟨k,hk,e⟩:=ih h
   refine⟨k,hk,?_⟩
   by_cases hb:(k'==NameKind.free&&env.scope.kind == .function&&env.kindOf n==some .cell)=true
   ·rw[Mz hb,List.lookup_cons,hx];exact e
   ·rw[PR hb,List.lookup_cons,hx];exact e
end L2
namespace L2
open PySem PySem.Spec PyProof.Rows
section
variable {prog:Program} {w:World} {A:Around} {R:Result->Shared->Prop} {s:Shared}
abbrev cpW (prog:Program)(w:World)(A:Around)(R:Result->Shared->Prop)(env:Env){α:Type}(m:Sem α)(Q:α->Shared->Prop):Shared->Prop:=wpAny (model prog w) A m Q (notedBy (model prog w) A env fun e t=>R (.error e) t)
theorem LN {elt target iter:Expr}{ifs:List Expr}{scope:Scope}{pos:Pos}{it acc:Value}{env:Env}(I:Nat->Shared->Prop)
  (turn:∀n s,I n s->cpW prog w A R env (pyNext it) (fun r s=>match r with
   |none=>R (.ok .next) s
   |some v=>cpW prog w A R env (letOwnedTupleGo target it v) (fun _=>cpW prog w A R env (assign target env v) fun _=>cpW prog w A R env (forIn ifs true fun c r=>if r=true then do let ok <- isTrue c env (eval c env);pure (ForInStep.yield ok) else pure (ForInStep.yield r)) fun ok s=>
     if ok=true then cpW prog w A R env (eval elt env) (fun x=>cpW prog w A R env (call (.builtin "list.append") [acc,x]) fun _ t=>∃m,m<n/\I m t) s else ∃m,m<n/\I m s) s) s)
  (n:Nat) (h:I n s):codeAny (model prog w) A (.compLoop (.ListComp elt [⟨target,iter,ifs,0⟩] scope pos) 0 it acc env) R s:=by
 have mono:∀{α β:Type} {m:Sem α} {f:α->Sem β} {Q:α->Shared->Prop} {Q':β->Shared->Prop} {s:Shared},cpW prog w A R env m Q s->(∀a t,Q a t->cpW prog w A R env (f a) Q' t)->cpW prog w A R env (m >>= f) Q' s:=fun h k=>wpAny_bind (wpAny_mono h k fun _ _ e=>e)
 refine codeAny_loop rfl I (fun n s hI=>wpAny_noted ?_) n h
 rw[compTurn_list]
 refine wpAny_bind (wpAny_standAt (mono (turn n s hI) fun r s1 h1=>?_))
 cases r with
 |none=>exact wpAny_pure h1
 |some v=>
  refine mono h1 fun _ _ h2=>mono h2 fun _ _ h3=>mono h3 fun ok s4 h4=>?_
  cases ok with
  |false=>exact wpAny_pure ⟨rfl,h4⟩
  |true=>exact wpAny_bind (mono h4 fun _ _ h5=>mono h5 fun _ _ h6=>wpAny_pure (wpAny_pure ⟨rfl,h6⟩))
end
abbrev Cx.blk (X:Cx)(N:List Str)(sc:Scope)(C:Addr)(s₀:Shared)(H₀:Hp)(ex:List Addr):Cx:=
 {X with N:=N,env:=compEnvC sc (clOf X.env sc.names []) C X.env,outer:=X.stack,s₀:=s₀,H₀:=H₀,ex:=ex,fn:=fun _=>false,pn:=[],xe:=fun _ _=>False}
structure BlkSc (X:Cx)(sc:Scope):Prop where
 kind:sc.kind=.function
 nocell:∀y∈sc.names,y.2 ≠ .cell
 loc:∀y∈sc.names,y.2=.local->sc.names.lookup y.1=some .local
 free:∀y∈sc.names,y.2=.free->X.env.kindOf y.1=some .cell\/X.env.kindOf y.1=some .free
abbrev Caps:=List (Str×Option Nat)
def Caps.names (c:Caps):List Str:=c.map (·.1)
def Caps.st (c:Caps)(σ:St):St:=c.map fun p=>p.2.bind fun j=>(σ[j]?).join
def Fb (N:List Str)(sc:Scope):Caps->Prop
 |[]=>True
 | (_,none)::r=>Fb N sc r
 | (x,some j)::r=>(N[j]?=some x/\sc.names.lookup x=some .free)/\Fb N sc r
theorem Fb.get {N:List Str}{sc:Scope}:∀{c:Caps} {i:Nat} {x:Str} {j:Nat},Fb N sc c->c[i]?=some (x,some j)->N[j]?=some x/\sc.names.lookup x=some .free
 |[],_,_,_,_,h=>by simp at h
 | (y,none)::r,0,x,j,_,h=>by simp at h
 | (y,none)::r,i+1,x,j,ok,h=>Fb.get (c:=r) (i:=i) ok (by simpa using h)
 | (y,some k)::r,0,x,j,ok,h=>by
  simp only[List.getElem?_cons_zero,Option.some.injEq,Prod.mk.injEq]at h
  obtain⟨rfl,rfl⟩:=h
  exact ok.1
 | (y,some k)::r,i+1,x,j,ok,h=>Fb.get (c:=r) (i:=i) ok.2 (by simpa using h)
section
variable {X:Cx} {pins:List (Addr×Obj)} {σ:St} {H:Hp} {s:Shared} {sc:Scope} {fp:List Addr}
theorem MR (I:Inv X pins σ H s)(S:BlkSc X sc):∀p∈sc.names,p.2=.free->∃c,X.env.cells.lookup p.1=some c:=fun p hp e=>I.ok.has p.1 (S.free p hp e)
theorem DY (I:Inv X pins σ H s)(S:BlkSc X sc){x:Str}{c:Addr}(h:(clOf X.env sc.names []).lookup x=some c):X.env.cells.lookup x=some c:=
 My sc.names [] (MR I S) (fun q hq=>by cases hq) (x,c) (PySem.mem_of_lookup h)
theorem Dp_ {N:List Str}{C:Addr}(I:Inv X pins σ H s)(S:BlkSc X sc)(hC:s.heap.objs.size<=C)(hf:∀b∈fp,FpOk X pins H b)(ho:∀b∈fp,∃o,s.heap.get? b=some o):(X.blk N sc C s H fp).Ok where
 mod:=I.ok.mod
 kind:=S.kind
 glob:=I.ok.glob
 blt:=I.ok.blt
 above:=hC
 inj:=fun x y c h1 h2=>I.ok.inj x y c (DY I S h1) (DY I S h2)
 has:=fun x hx=>by
  have hx':(x,NameKind.free)∈sc.names:=by
   rcases hx with hx|hx
   ·exact Hy (env:=X.env) S.nocell hx (.inl rfl)
   ·exact Hy (env:=X.env) S.nocell hx (.inr rfl)
  obtain⟨c,hc⟩:=I0 (env:=X.env) sc.names [] x (.inl hx')
  exact BU hc
 cab:=fun x c h=>absurd (show false=true from h) Bool.false_ne_true
 hd:=I.ok.hd
 frames:=I.ok.frames
 stk:=.inl rfl
 exf:=fun b hb=>by
  obtain⟨o,ho⟩:=ho b hb
  refine⟨Nat.ne_of_lt (Nat.lt_of_lt_of_le (Heap.lt_size ho) hC),fun x c h=>(hf b hb).2.2.2.2.1 x c (DY I S h)⟩
 bs:=I.bs
 bsz:=Nat.le_trans I.ok.bsz I.sz
 noex:=fun b o e hb=>by
  rcases (hf b hb).2.2.2.1 with z|z
  ·exact I.ok.noex b o e z
  ·exact absurd (Nat.lt_of_lt_of_le (Heap.lt_size (I.ok.bs b o e).1) z) (Nat.lt_irrefl _)
 exfs:=fun b hb z=>by
  rcases List.mem_cons.mp (I.stkSub b z) with e|e
  ·exact (hf b hb).2.1 e
  ·exact (hf b hb).2.2.1 e
 funs:=I.stack
 frf:=I.stkFree
theorem Yh {c:Caps}{C:Addr}{s4:Shared}{m:Str->Option Value}(I:Inv X pins σ H s)(S:BlkSc X sc)(hc:Fb X.N sc c)(hC:s.heap.objs.size<=C)(hf:∀b∈fp,FpOk X pins H b)(ho:∀b∈fp,∃o,s.heap.get? b=some o)
  (hos:s4.os=s.os) (hb:s4.gens=s.gens) (hk:∀b o,s.heap.get? b=some o->s4.heap.get? b=some o) (hn:s4.heap.Ns C m):Inv (X.blk c.names sc C s H fp) [] (c.st σ) H s4 where
 ok:=Dp_ I S hC hf ho
 os:=hos
 bare:=by rw[hb];exact I.bare
 base:=Un.kept hk
 loc:=by
  refine⟨m,hn,fun i x v h1 h2 hv=>?_⟩
  have h1':(c.map (·.1))[i]?=some x:=h1
  have h2':(c.map fun p=>p.2.bind fun j=>(σ[j]?).join)[i]?=some (some v):=h2
  rw[List.getElem?_map]at h1' h2'
  cases e:c[i]? with
  |none=>rw[e]at h1';cases h1'
  |some p=>
   obtain⟨y,oj⟩:=p
   rw[e]at h1' h2'
   have e1:y=x:=Option.some.inj h1'
   subst e1
   have e2:(oj.bind fun j=>(σ[j]?).join)=some v:=Option.some.inj h2'
   cases oj with
   |none=>cases e2
   |some j=>
    have e3:(σ[j]?).join=some v:=e2
    have e4:σ[j]?=some (some v):=by
     cases q:σ[j]? with
     |none=>rw[q]at e3;cases e3
     |some z=>rw[q]at e3;exact congrArg some e3
    obtain⟨k1,k2⟩:=Fb.get hc e
    have k3:X.env.kindOf y=some .cell\/X.env.kindOf y=some .free:=S.free (y,.free) (PySem.mem_of_lookup k2) rfl
    have vis:Vis X.env.scope y:=by
     rcases k3 with k|k
     ·exact .inr (.inl k)
     ·exact .inr (.inr k)
    obtain⟨mX,hnX,hl⟩:=I.loc
    obtain⟨u,r,l⟩:=hl j y v k1 e4 vis
    refine⟨u,r,?_⟩
    rcases l with ⟨k,_⟩|⟨_,ca,hca,z⟩
    ·rcases k3 with k' | k'<;>(rw[k]at k';cases k')
    ·obtain⟨kd,hkd,ek⟩:=Hz (env:=X.env) k2
     have hk2:(compEnvC sc (clOf X.env sc.names []) C X.env).kindOf y=some kd:=ek
     obtain⟨c',hc'⟩:=I0 (env:=X.env) sc.names [] y (.inl (PySem.mem_of_lookup k2))
     obtain⟨c2,hc2⟩:=BU hc'
     have e5:=DY I S hc2
     rw[hca]at e5
     have e6:ca=c2:=Option.some.inj e5
     subst e6
     refine .inr ⟨?_,ca,hc2,?_⟩
     ·rcases hkd with rfl|rfl
      ·exact .inl hk2
      ·exact .inr hk2
     ·obtain⟨oc,hoc,hd⟩:=z
      exact⟨oc,hk _ _ hoc,hd⟩
 cell:=fun x ca h=>by
  obtain⟨v,oc,hoc,hd⟩:=I.cell x ca (DY I S h)
  exact⟨v,oc,hk _ _ hoc,hd⟩
 free:=I.hok.fresh hC
 freeC:=fun x ca h=>I.freeC x ca (DY I S h)
 pin:=fun p hp=>absurd (show p∈([]:List (Addr×Obj)) from hp) (by simp)
 hok:=I.hok.kept hk
 len:=by show (c.map _).length=(c.map _).length;rw[List.length_map,List.length_map]
theorem HOk.track {P:Program}{w:World}{H:Hp}{h:Heap}{a:Addr}{o:HO}(x:HOk P w H h)(hn:H a=none)(new:Bk P w (upd H a o) h a o):HOk P w (upd H a o) h:=fun b u e=>by
 by_cases hb:b=a
 ·subst hb;rw[Ac]at e;cases e;exact new
 ·rw[Av hb]at e
  exact (x b u e).stay (fun c v _ q=>q) (fun c q=>by rw[Av (BP q hn)];exact q) fun c xs q=>by rw[Av (BP q hn)];exact q
theorem Un.track {fs ex:List Addr}{H H':Hp}{h h':Heap}{a:Addr}{o:HO}(u:Un fs ex H H' h h')(ha:h.objs.size<=a)(hn:H' a=none):Un fs ex H (upd H' a o) h h' where
 keep:=u.keep
 slot:=u.slot
 free:=fun b ob q n hx=>by rw[Av (Nat.ne_of_lt (Nat.lt_of_lt_of_le (Heap.lt_size q) ha))];exact u.free b ob q n hx
 there:=u.there
 tups:=fun b xs q=>by rw[Av (BP (u.tups b xs q) hn)];exact u.tups b xs q
 frzs:=fun b ob xs q=>by rw[Av (BP (u.frzs b ob xs q) hn)];exact u.frzs b ob xs q
 tbls:=fun b ps q=>by
  obtain⟨more,e⟩:=u.tbls b ps q
  exact⟨more,by rw[Av (BP e hn)];exact e⟩
theorem Ca_ {c:Caps}{C D:Addr}{s':Shared}{σ':St}{H':Hp}{o:HO}(I:Inv X pins σ H s)(J:Inv (X.blk c.names sc C s H fp) [] σ' H' s')(hf:∀b∈fp,FpOk X pins H b)(hD:s.heap.objs.size<=D)(hn:H' D=none)
  (new:Bk X.prog X.w (upd H' D o) s'.heap D o):Inv X pins σ (upd H' D o) s':=by
 have u:Un (frs X.stack) fp H H' s.heap s'.heap:=J.base
 exact I.call' J.os (u.track hD hn) (J.hok.track hn new) J.bare fun b hb=>⟨(hf b hb).2.2.2.1,(hf b hb).2.1,(hf b hb).2.2.2.2.1,(hf b hb).2.2.2.2.2⟩
end
def PF (X:Cx)(ifs:List Expr)(t:TT):Prop:=
 ∀(pins:List (Addr×Obj)) (s:Shared) (σ:St) (H:Hp) (Q:Bool->Hp->Prop),Inv X pins σ H s->t σ H Q ->
  wpAny (model X.prog X.w) X.A (forIn ifs true fun c r=>if r=true then do let ok <- isTrue c X.env (eval c X.env);pure (ForInStep.yield ok) else pure (ForInStep.yield r)) (TP X pins σ Q) X.xe s
def N3:TT:=fun _ H Q=>Q true H
theorem BV {X:Cx}:PF X [] N3:=fun _ _ _ H _ I h=>wpAny_tests_nil ⟨H,I,h⟩
def Yi (wi:TI)(cp:Caps)(g:TG)(tc:TT)(te:TE):TE:=fun σ H Q=>wi σ H fun J H1=>∃W:Nat->Nat->List V->St->Hp->Prop,(∃m,W 0 m [] (cp.st σ) H1)/\∀i m ys σ' H',W i m ys σ' H' ->
 ys.length<sizeLine/\((J.stop i H'/\∀D,H' D=none->Q (.ref D) (upd H' D (.lst ys)))\/(J.go i H'/\∃N:List V->St->Hp->Prop,(∀zs σ2 H2,N zs σ2 H2->∃m',m'<m/\W (i+1) m' zs σ2 H2)/\∀x H2,J.yld i H' x H2->g x σ' H2 fun σ2 H3=>tc σ2 H3 fun b H4=>
  if b=true then te σ2 H4 fun v H5=>N (ys++[v]) σ2 H5 else N ys σ2 H4))
section
variable {X:Cx} {tg iter elt:Expr} {ifs:List Expr} {sc:Scope} {pos:Pos} {wi:TI} {cp:Caps} {g:TG} {tc:TT} {te:TE}
theorem Tt (hc:X.calm=true)(S:BlkSc X sc)(hcp:Fb X.N sc cp)
  (hg:∀C s₀ H₀ ex,PG (X.blk cp.names sc C s₀ H₀ ex) tg g) (hf:∀C s₀ H₀ ex,PF (X.blk cp.names sc C s₀ H₀ ex) ifs tc) (he:∀C s₀ H₀ ex,PE (X.blk cp.names sc C s₀ H₀ ex) elt te)
  {pins:List (Addr×Obj)} {σ:St} {H:Hp} {s:Shared} {J:It} {it:Addr} {fp:List Addr} {tn:Nat->Heap->Prop} {Q:VK} {RR:Value->Addr->Result->Shared->Prop} {E:Value->Shared->Prop}
  (I:Inv X pins σ H s) (T:Turn X.prog X.w X.K tg J fp it tn) (st:tn 0 s.heap) (fpo:∀b∈fp,FpOk X pins H b)
  (hw:∃W:Nat->Nat->List V->St->Hp->Prop,(∃m,W 0 m [] (cp.st σ) H)/\∀i m ys σ' H',W i m ys σ' H' ->
   ys.length<sizeLine/\((J.stop i H'/\∀D,H' D=none->Q (.ref D) (upd H' D (.lst ys)))\/(J.go i H'/\∃N:List V->St->Hp->Prop,(∀zs σ2 H2,N zs σ2 H2->∃m',m'<m/\W (i+1) m' zs σ2 H2)/\∀x H2,J.yld i H' x H2->g x σ' H2 fun σ2 H3=>tc σ2 H3 fun b H4=>
    if b=true then te σ2 H4 fun v H5=>N (ys++[v]) σ2 H5 else N ys σ2 H4)))
  (hR:∀D C s' H' (m:Str->Option Value),Inv X pins σ H' s'->Q (.ref D) H'->s'.heap.Ns C m->H' C=none->C≠X.env.locals->X.s₀.heap.objs.size<=C->(∀x c,X.env.cells.lookup x=some c->c≠C)->(∀p∈X.pn++pins,p.1≠C)->RR (.ref D) C (.ok .next) s'):
  wpAny (model X.prog X.w) X.A (newList []) (fun acc s₃=>wpAny (model X.prog X.w) X.A (newFunctionEnv sc X.env.globals (clOf X.env sc.names []) [] X.env.qual none .none (some X.env)) (fun cenv s₄=>
   codeAny (model X.prog X.w) X.A (.compStart (.ListComp elt [⟨tg,iter,ifs,0⟩] sc pos) 0 (.ref it) acc {cenv with scope:=relabel sc X.env}) (RR acc cenv.locals) s₄) E s₃) E s:=by
 obtain⟨W,⟨m0,w0⟩,turn⟩:=hw
 refine wpAny_newObj_type (wpAny_newFunctionEnv S.nocell (by intro y hy;simp at hy) (fun h₁ hns₁ hsb₁=>?_) S.kind)
 dsimp only at hns₁ hsb₁ ⊢
 generalize hH2:s.heap.push {cls:=.type "list",dict:=none,data:=.seq ([]:List Value).toArray}=H2 at hns₁ hsb₁ ⊢
 have hC:H2.objs.size=s.heap.objs.size+1:=by rw[<-hH2,Heap.size_push]
 have hDC:s.heap.objs.size≠H2.objs.size:=by rw[hC];exact Nat.ne_of_lt (Nat.lt_succ_self _)
 have hCle:s.heap.objs.size<=H2.objs.size:=by rw[hC];exact Nat.le_succ _
 have below:∀b,b<s.heap.objs.size->b≠H2.objs.size:=fun b hb=>by rw[hC];exact Nat.ne_of_lt (Nat.lt_succ_of_lt hb)
 have old:∀b o,s.heap.get? b=some o->h₁.get? b=some o:=fun b o e=>hsb₁.extBut b o (below b (Heap.lt_size e)) (Heap.get?_push_of_some _ (hH2 ▸ Heap.get?_push_of_some _ e))
 have hacc:h₁.get? s.heap.objs.size=some {cls:=.type "list",data:=.seq ([]:List Value).toArray 0}:=hsb₁.extBut _ _ hDC (Heap.get?_push_of_some _ (hH2 ▸ Heap.get?_push_size _ rfl))
 have hst₁:tn 0 h₁:=T.keep 0 _ _ st fun b _ o e=>old b o e
 have hobj:∀b∈fp,∃o,s.heap.get? b=some o:=fun b hb=>let ⟨o,e,_⟩:=T.obj 0 _ st b hb;⟨o,e⟩
 have J0:Inv (X.blk cp.names sc H2.objs.size s H fp) [] (cp.st σ) H {s with heap:=h₁,toks:=s.toks+([]:List (Str×Value)).length}:=Yh I S hcp hCle fpo hobj rfl rfl old hns₁
 have nfs:∀b,s.heap.objs.size<=b->b∉frs X.stack:=fun b hb z=>by
  rcases List.mem_cons.mp (I.stkSub b z) with e|e
  ·exact absurd (Nat.lt_of_lt_of_le I.lt (by rw[<-e];exact hb)) (Nat.lt_irrefl _)
  ·exact I.nofs hb e
 have ncell:∀b,s.heap.objs.size<=b->∀x c,X.env.cells.lookup x=some c->c≠b:=fun b hb x c e z=>by
  obtain⟨v,q⟩:=I.cell x c e
  exact absurd (Nat.lt_of_lt_of_le q.lt (by rw[z];exact hb)) (Nat.lt_irrefl _)
 have fpb:∀{pins':List (Addr×Obj)} {H':Hp},(∀b∈fp,H' b=none)->(∀p∈pins',p.1∉fp)->∀b∈fp,FpOk (X.blk cp.names sc H2.objs.size s H fp) pins' H' b:=fun {pins' H'} hn hp b hb=>by
  obtain⟨o,e⟩:=hobj b hb
  refine⟨hn b hb,below b (Heap.lt_size e),fun z=>?_,.inl hb,fun x c h=>(fpo b hb).2.2.2.2.1 x c (DY I S h),fun p hp' z=>?_⟩
  ·rcases List.mem_cons.mp (I.stkSub b z) with e|e
   ·exact (fpo b hb).2.1 e
   ·exact (fpo b hb).2.2.1 e
  ·have hp'':p∈pins':=by simpa using hp'
   exact hp p hp'' (by rw[z];exact hb)
 have loop:∀s₃:Shared,s₃={s with heap:=h₁,toks:=s.toks+([]:List (Str×Value)).length} ->
   codeAny (model X.prog X.w) X.A (.compLoop (.ListComp elt [⟨tg,iter,ifs,0⟩] sc pos) 0 (.ref it) (.ref s.heap.objs.size) (compEnvC sc (clOf X.env sc.names []) H2.objs.size X.env))
    (RR (.ref s.heap.objs.size) H2.objs.size) s₃:=by
  rintro s₃ rfl
  refine LN (fun n s'=>∃i σ' H' ys its k,Inv (X.blk cp.names sc H2.objs.size s H fp) [] σ' H' s'/\tn i s'.heap/\(∀b∈fp,H' b=none)/\H' s.heap.objs.size=none /\
   s'.heap.get? s.heap.objs.size=some {cls:=.type "list",data:=.seq its.toArray k}/\Vals ys its/\W i n ys σ' H') ?_ m0
   ⟨0,_,H,[],[],0,J0,hst₁,fun b hb=>(fpo b hb).1,I.hok.fresh (Nat.le_refl _),hacc,.nil,w0⟩
  rintro n s3 ⟨i,σ3,H3,ys,its,k,I3,st3,fr3,hD3,e3,rv,w3⟩
  obtain⟨hz,tr⟩:=turn i n ys σ3 H3 w3
  have hlen:=rv.length
  -- the accumulator stands still while anything else runs
  have dpin:∀p ∈ [(s.heap.objs.size,({cls:=.type "list",data:=.seq its.toArray k}:Obj))],p.1∉fp:=fun p hp z=>by
   have e:p=_:=List.mem_singleton.mp hp
   subst e
   obtain⟨o,e⟩:=hobj _ z
   exact absurd (Heap.lt_size e) (Nat.lt_irrefl _)
  have I3':Inv (X.blk cp.names sc H2.objs.size s H fp) [(s.heap.objs.size,({cls:=.type "list",data:=.seq its.toArray k}:Obj))] σ3 H3 s3:=I3.pins_of fun p hp=>by
   have e:p=_:=List.mem_singleton.mp hp
   subst e
   exact⟨e3,hD3,hDC,nfs _ (Nat.le_refl _),fun v z=>by cases z⟩
  have stat:∀b∈fp,FpOk (X.blk cp.names sc H2.objs.size s H fp) [(s.heap.objs.size,({cls:=.type "list",data:=.seq its.toArray k}:Obj))] H3 b:=fpb fr3 dpin
  rcases tr with ⟨stop,qn⟩|⟨go,N,hN,step⟩
  ·refine thn (T.done (X.blk cp.names sc H2.objs.size s H fp) rfl rfl rfl hc i _ s3 σ3 H3 _ I3' stat st3 stop) fun r s4 ⟨hr,I4⟩=>?_
   subst hr
   obtain⟨e4,n4,_⟩:=I4.pin (s.heap.objs.size,({cls:=.type "list",data:=.seq its.toArray k}:Obj)) (by simp)
   have new:Bk X.prog X.w (upd H3 s.heap.objs.size (.lst ys)) s4.heap s.heap.objs.size (.lst ys):=⟨Nat.le_of_lt hz,its,k,rv,e4⟩
   obtain⟨mC,hnC,_⟩:=I4.loc
   have I4':Inv (X.blk cp.names sc H2.objs.size s H fp) [] σ3 H3 s4:=I4.pins_of fun p hp=>by cases hp
   have I5:=Ca_ I I4' fpo (Nat.le_refl _) n4 new
   refine hR _ _ s4 _ mC I5 (qn _ n4) hnC ?_ (Nat.ne_of_gt (Nat.lt_of_lt_of_le I.lt hCle)) (Nat.le_trans I.sz hCle) (ncell _ hCle) fun p hp z=>?_
   ·rw[Av (Ne.symm hDC)];exact I4.free
   ·exact absurd (Nat.lt_of_lt_of_le (Heap.lt_size (I.pin p hp).1) (by rw[z];exact hCle)) (Nat.lt_irrefl _)
  ·refine thn (T.item (X.blk cp.names sc H2.objs.size s H fp) rfl rfl rfl hc i _ s3 σ3 H3 _ I3' stat st3 go) fun r s4 ⟨u,hr,h4⟩=>?_
   subst hr
   refine thn h4 fun _ s5 ⟨x,H5,I5,r5,y5,st5,fr5⟩=>?_
   have I5':=I5.pinned (fpb fr5 dpin) (T.obj _ _ st5)
   have fin:∀{σ7:St} {H7:Hp} {s7:Shared},Inv (X.blk cp.names sc H2.objs.size s H fp) ([(s.heap.objs.size,({cls:=.type "list",data:=.seq its.toArray k}:Obj))]++O0 fp s5.heap) σ7 H7 s7 ->
     s7.heap.get? s.heap.objs.size=some {cls:=.type "list",data:=.seq its.toArray k}/\H7 s.heap.objs.size=none/\(∀b∈fp,H7 b=none)/\∀b∈fp,∀o,s5.heap.get? b=some o->s7.heap.get? b=some o:=fun {σ7 H7 s7} I7=>by
    obtain⟨e7,n7,_⟩:=I7.pin (s.heap.objs.size,({cls:=.type "list",data:=.seq its.toArray k}:Obj)) (by simp)
    refine⟨e7,n7,fun b hb=>?_,fun b hb o e=>?_⟩
    ·obtain⟨o,e,_⟩:=T.obj _ _ st5 b hb
     exact (I7.pin (b,o) (List.mem_append_right _ (List.mem_append_right _ (Fg hb e)))).2.1
    ·exact (I7.pin (b,o) (List.mem_append_right _ (List.mem_append_right _ (Fg hb e)))).1
   refine wpAny_mono (hg _ _ _ _ _ s5 σ3 H5 x u _ I5' r5 (step x H5 y5)) (fun _ s6 ⟨σ6,H6,I6,q6⟩=>?_) fun _ _ z=>False.elim z
   refine wpAny_mono (hf _ _ _ _ _ s6 σ6 H6 _ I6 q6) (fun ok s7 ⟨H7,I7,q7⟩=>?_) fun _ _ z=>False.elim z
   cases ok with
   |false=>
    rw[if_neg Bool.false_ne_true]
    rw[if_neg Bool.false_ne_true]at q7
    obtain⟨m',hm,w7⟩:=hN _ _ _ q7
    obtain⟨e7,n7,fr7,k7⟩:=fin I7
    exact⟨m',hm,i+1,σ6,H7,ys,its,k,I7.pins_of (fun p hp=>by cases hp),T.keep _ _ _ st5 k7,fr7,n7,e7,rv,w7⟩
   |true=>
    rw[if_pos rfl]
    rw[if_pos rfl]at q7
    refine wpAny_mono (he _ _ _ _ _ s7 σ6 H7 _ I7 q7) (fun v s8 ⟨y,H8,I8,r8,q8⟩=>?_) fun _ _ z=>False.elim z
    obtain⟨m',hm,w8⟩:=hN _ _ _ q8
    obtain⟨e8,n8,fr8,k8⟩:=fin I8
    refine call_meets F.slot_list_append ⟨_,e8,rfl⟩ F.entry_list_append (F.args_list_append_2 _ _) (PySem.list_append s.heap.objs.size its.toArray k v (by rw[List.size_toArray];omega)) ⟨e8,?_⟩
    obtain⟨k',q⟩:∃k',(s8.heap.update s.heap.objs.size (Obj.mapSeq fun x=>x.push v)).get? s.heap.objs.size=some {cls:=.type "list",data:=.seq (its++[v]).toArray k' }:=⟨_,by
     have q:=PySem.IsL.update e8 fun x=>x.push v
     have e:(its++[v]).toArray=its.toArray.push v:=by simp
     rw[e]
     exact q⟩
    have I8':Inv (X.blk cp.names sc H2.objs.size s H fp) [] σ6 H8 s8:=I8.pins_of fun p hp=>by cases hp
    have I9:Inv (X.blk cp.names sc H2.objs.size s H fp) [] σ6 H8 {s8 with heap:=s8.heap.update s.heap.objs.size (Obj.mapSeq fun x=>x.push v),toks:=s8.toks}:=
     I8'.turned (it:=s.heap.objs.size) (fun b o hb e=>(Heap.get?_update_other _ _ (Ne.symm hb)).trans e) n8 hDC (.inr (Nat.le_refl _)) (fun x c e=>ncell _ (Nat.le_refl _) x c (DY I S e)) (fun p hp=>by cases hp)
    refine⟨m',hm,i+1,σ6,H8,ys++[y],its++[v],k',I9,T.keep (i+1) s5.heap _ st5 (fun b hb o e=>?_),fr8,n8,q,rv.append (.cons r8 .nil),w8⟩
    ·refine (Heap.get?_update_other _ _ ?_).trans (k8 b hb o e)
     intro z
     obtain⟨ob,eb⟩:=hobj b hb
     exact absurd (Heap.lt_size eb) (by rw[<-z];exact Nat.lt_irrefl _)
 exact codeAny_compStart_list (loop _ rfl) (T.self _ 0 _ _ _ hst₁ (loop _ rfl))
theorem BN (hc:X.calm=true)(S:BlkSc X sc)(hcp:Fb X.N sc cp)(hi:PI X tg iter wi)
  (hg:∀C s₀ H₀ ex,PG (X.blk cp.names sc C s₀ H₀ ex) tg g) (hf:∀C s₀ H₀ ex,PF (X.blk cp.names sc C s₀ H₀ ex) ifs tc) (he:∀C s₀ H₀ ex,PE (X.blk cp.names sc C s₀ H₀ ex) elt te)
  (hs:∀x,foldedSetIterable iter X.env x=pure x:=by intro _;rfl):PE X (.ListComp elt [⟨tg,iter,ifs,0⟩] sc pos) (Yi wi cp g tc te):=by
 intro pins s σ H Q I h
 rw[eval_ListComp]
 refine wpAny_comprehension_free (use:=none) rfl hs (IZ (MR I S)) S.kind S.loc (thn (hi pins s σ H _ I h) fun xv s₁ h₁=>thn h₁ fun itv s₂ h₂=>?_)
 obtain⟨it,fp,tn,J,H2,e,I2,T,st2,f2,hw⟩:=h₂
 subst e
 refine Tt (RR:=fun acc C=>compPost (model X.prog X.w) X.A X.xe none (EP X pins σ Q) acc C) hc S hcp hg hf he I2 T st2 f2 hw ?_
 intro D C s' H' m I' q hn hC hL hz hcl hp
 exact⟨m,hn,fun h' hs'=>⟨.ref D,H',I'.turned (t':=s'.toks) (it:=C) (fun b o hb e=>hs'.extBut b o hb e) hC hL (.inr hz) hcl hp,rfl,q⟩⟩
theorem PU {i:Nat}{x:Str}{px spos:Pos}(hN:X.N.Nodup)(hi:X.N[i]?=some x)(hx:X.env.scope.names.lookup x=some .local)(hc:X.calm=true)(S:BlkSc X sc)(hcp:Fb X.N sc cp)(hit:PI X tg iter wi)
  (hg:∀C s₀ H₀ ex,PG (X.blk cp.names sc C s₀ H₀ ex) tg g) (hf:∀C s₀ H₀ ex,PF (X.blk cp.names sc C s₀ H₀ ex) ifs tc) (he:∀C s₀ H₀ ex,PE (X.blk cp.names sc C s₀ H₀ ex) elt te)
  (hsw:swapsWith (.ListComp elt [⟨tg,iter,ifs,0⟩] sc pos) (some (.Name x px)) spos.line X.env=pure true:=by rfl)
  (hs:∀x,foldedSetIterable iter X.env x=pure x:=by intro _;rfl):PS X (.Assign [.Name x px] (.ListComp elt [⟨tg,iter,ifs,0⟩] sc pos) spos) (tAsg (Yi wi cp g tc te) (J2 i)):=by
 intro pins s σ H D I h
 rw[exec_Assign_Name_used _ _ _ _ hsw]
 refine wpAny_bind (wpAny_standAt (wpAny_bind ?_))
 show wpAny _ X.A (do let _ <- comprehension (.ListComp elt [⟨tg,iter,ifs,0⟩] sc pos) sc X.env _ (newList []) false (eval iter X.env) (some (assign (.Name x px) X.env))) _ _ s
 refine wpAny_bind (wpAny_mono (wpAny_comprehension_free (use:=some (assign (.Name x px) X.env)) (Q:=fun _ s'=>SP X pins D .next s') rfl hs (IZ (MR I S)) S.kind S.loc
  (thn (hit pins s σ H _ I h) fun xv s₁ h₁=>thn h₁ fun itv s₂ h₂=>?_)) (fun _ s' hq=>wpAny_pure (wpAny_pure hq)) fun _ _ e=>e)
 obtain⟨it,fp,tn,J,H2,e,I2,T,st2,f2,hw⟩:=h₂
 subst e
 refine Tt (RR:=fun acc C=>compPost (model X.prog X.w) X.A X.xe (some (assign (.Name x px) X.env)) (fun _ s'=>SP X pins D .next s') acc C) (Q:=fun v H1=>J2 i v σ H1 D.nx) hc S hcp hg hf he I2 T st2 f2 hw ?_
 intro Dl C s' H' m I' q hn hC hL hz hcl hp
 show wpAny _ X.A (assign (.Name x px) X.env (.ref Dl)) _ _ _
 refine wpAny_assign_Name (MK I' hN hi (.inl hx) (v:=.ref Dl) rfl (fun s'' I'' ⟨a,hsb,ha⟩=>?_) (.inr hx))
 have hne:C≠a:=by
  rcases ha with rfl|ha
  ·exact hL
  ·exact fun z=>hcl _ _ ha z.symm
 refine⟨m,hn.sameBut hsb hne,fun h' hs'=>⟨_,H',I''.turned (t':=s''.toks) (it:=C) (fun b o hb e=>hs'.extBut b o hb e) hC hL (.inr hz) hcl hp,q⟩⟩
end
theorem Yj {K:PySem.W.Frag}{a:Addr}{xs:List V}{g:TG}{tc:TT}{te:TE}{Q:VK}{σ:St}{H:Hp}(Pv:Nat->List V->St->Hp->Prop)(h0:Pv 0 [] σ H)(hz:xs.length<sizeLine)
  (hl:∀i ys σ H,i<=xs.length->Pv i ys σ H->SqL K H a xs/\ys.length<=i)
  (hs:∀i x ys σ H,xs[i]?=some x->Pv i ys σ H->g x σ H fun σ2 H2=>tc σ2 H2 fun b H3=>if b=true then te σ2 H3 fun v H4=>Pv (i+1) (ys++[v]) σ2 H4 else Pv (i+1) ys σ2 H3)
  (hd:∀ys σ H,Pv xs.length ys σ H->∀D,H D=none->Q (.ref D) (upd H D (.lst ys))):
  ∃W:Nat->Nat->List V->St->Hp->Prop,(∃m,W 0 m [] σ H)/\∀i m ys σ' H',W i m ys σ' H' ->
   ys.length<sizeLine/\(((Itl K a).stop i H'/\∀D,H' D=none->Q (.ref D) (upd H' D (.lst ys)))\/((Itl K a).go i H'/\∃N:List V->St->Hp->Prop,(∀zs σ2 H2,N zs σ2 H2->∃m',m'<m/\W (i+1) m' zs σ2 H2)/\∀x H2,(Itl K a).yld i H' x H2->g x σ' H2 fun σ2 H3=>tc σ2 H3 fun b H4=>
    if b=true then te σ2 H4 fun v H5=>N (ys++[v]) σ2 H5 else N ys σ2 H4)):=by
 refine⟨fun i m ys σ H=>m=xs.length-i/\i<=xs.length/\Pv i ys σ H,⟨xs.length,by simp,Nat.zero_le _,h0⟩,?_⟩
 rintro i m ys σ H ⟨rfl,hi,p⟩
 obtain⟨q,ly⟩:=hl i ys σ H hi p
 refine⟨by omega,?_⟩
 by_cases hlt:i<xs.length
 ·refine .inr ⟨⟨xs,xs[i],q,by simp[hlt]⟩,Pv (i+1),fun zs σ' H' p'=>⟨xs.length-(i+1),by omega,rfl,hlt,p'⟩,fun x H' y=>?_⟩
  obtain⟨e,y⟩:=y
  subst e
  exact hs i x ys σ _ (y xs q) p
 ·have e:i=xs.length:=by omega
  subst e
  exact .inl ⟨⟨xs,q,Nat.le_refl _⟩,hd ys σ H p⟩
theorem ZK {K:PySem.W.Frag}{a:Addr}{xs:List V}{g:TG}{tc:TT}{te:TE}{Q:VK}{σ:St}{H:Hp}(Pv:Nat->List V->St->Hp->Prop)(h0:Pv 0 [] σ H)(hz:xs.length<sizeLine)
  (hl:∀i ys σ H,i<=xs.length->Pv i ys σ H->SqT K H a xs/\ys.length<=i)
  (hs:∀i x ys σ H,xs[i]?=some x->Pv i ys σ H->g x σ H fun σ2 H2=>tc σ2 H2 fun b H3=>if b=true then te σ2 H3 fun v H4=>Pv (i+1) (ys++[v]) σ2 H4 else Pv (i+1) ys σ2 H3)
  (hd:∀ys σ H,Pv xs.length ys σ H->∀D,H D=none->Q (.ref D) (upd H D (.lst ys))):
  ∃W:Nat->Nat->List V->St->Hp->Prop,(∃m,W 0 m [] σ H)/\∀i m ys σ' H',W i m ys σ' H' ->
   ys.length<sizeLine/\(((Itt K a).stop i H'/\∀D,H' D=none->Q (.ref D) (upd H' D (.lst ys)))\/((Itt K a).go i H'/\∃N:List V->St->Hp->Prop,(∀zs σ2 H2,N zs σ2 H2->∃m',m'<m/\W (i+1) m' zs σ2 H2)/\∀x H2,(Itt K a).yld i H' x H2->g x σ' H2 fun σ2 H3=>tc σ2 H3 fun b H4=>
    if b=true then te σ2 H4 fun v H5=>N (ys++[v]) σ2 H5 else N ys σ2 H4)):=by
 refine⟨fun i m ys σ H=>m=xs.length-i/\i<=xs.length/\Pv i ys σ H,⟨xs.length,by simp,Nat.zero_le _,h0⟩,?_⟩
 rintro i m ys σ H ⟨rfl,hi,p⟩
 obtain⟨q,ly⟩:=hl i ys σ H hi p
 refine⟨by omega,?_⟩
 by_cases hlt:i<xs.length
 ·refine .inr ⟨⟨xs,xs[i],q,by simp[hlt]⟩,Pv (i+1),fun zs σ' H' p'=>⟨xs.length-(i+1),by omega,rfl,hlt,p'⟩,fun x H' y=>?_⟩
  obtain⟨e,y⟩:=y
  subst e
  exact hs i x ys σ _ (y xs q) p
 ·have e:i=xs.length:=by omega
  subst e
  exact .inl ⟨⟨xs,q,Nat.le_refl _⟩,hd ys σ H p⟩
theorem WD {lo:Int}{n:Nat}{g:TG}{tc:TT}{te:TE}{Q:VK}{σ:St}{H:Hp}(Pv:Nat->List V->St->Hp->Prop)(h0:Pv 0 [] σ H)(hz:n<sizeLine)
  (hl:∀i ys σ H,i<=n->Pv i ys σ H->ys.length<=i)
  (hs:∀i ys σ H,i<n->Pv i ys σ H->g (.int (lo+i)) σ H fun σ2 H2=>tc σ2 H2 fun b H3=>if b=true then te σ2 H3 fun v H4=>Pv (i+1) (ys++[v]) σ2 H4 else Pv (i+1) ys σ2 H3)
  (hd:∀ys σ H,Pv n ys σ H->∀D,H D=none->Q (.ref D) (upd H D (.lst ys))):
  ∃W:Nat->Nat->List V->St->Hp->Prop,(∃m,W 0 m [] σ H)/\∀i m ys σ' H',W i m ys σ' H' ->
   ys.length<sizeLine/\(((Itr lo n).stop i H'/\∀D,H' D=none->Q (.ref D) (upd H' D (.lst ys)))\/((Itr lo n).go i H'/\∃N:List V->St->Hp->Prop,(∀zs σ2 H2,N zs σ2 H2->∃m',m'<m/\W (i+1) m' zs σ2 H2)/\∀x H2,(Itr lo n).yld i H' x H2->g x σ' H2 fun σ2 H3=>tc σ2 H3 fun b H4=>
    if b=true then te σ2 H4 fun v H5=>N (ys++[v]) σ2 H5 else N ys σ2 H4)):=by
 refine⟨fun i m ys σ H=>m=n-i/\i<=n/\Pv i ys σ H,⟨n,by simp,Nat.zero_le _,h0⟩,?_⟩
 rintro i m ys σ H ⟨rfl,hi,p⟩
 have ly:=hl i ys σ H hi p
 refine⟨by omega,?_⟩
 by_cases hlt:i<n
 ·refine .inr ⟨hlt,Pv (i+1),fun zs σ' H' p'=>⟨n-(i+1),by omega,rfl,hlt,p'⟩,fun x H' y=>?_⟩
  obtain⟨e,y⟩:=y
  subst e y
  exact hs i ys σ _ hlt p
 ·have e:i=n:=by omega
  subst e
  exact .inl ⟨Nat.le_refl _,hd ys σ H p⟩
end L2
namespace L2
open PySem PySem.Spec PyProof.Rows
section
variable {X:Cx}
theorem PV {bs:List Bool}{its:List Value}(r:Vals (bs.map V.bl) its){i:Nat}{v:Value}(h:its[i]?=some v):∃b,bs[i]?=some b/\v=.bool b:=by
 have hi:i<its.length:=(List.getElem?_eq_some_iff.mp h).1
 have hl:=r.length
 rw[List.length_map]at hl
 obtain⟨u,hu,ru⟩:=r.get (i:=i) (x:=V.bl bs[i]) (by rw[List.getElem?_map];simp[show i<bs.length by omega])
 rw[h]at hu
 cases hu
 exact⟨bs[i],by simp[show i<bs.length by omega],ru⟩
theorem Dq_ (bs:List Bool):(List.range bs.length).map (fun i=>bs.getD i false)=bs:=
 List.ext_getElem (by simp) fun i _ h=>by simp[h]
theorem range_all {bs:List Bool}:(List.range bs.length).all (fun i=>bs.getD i false)=bs.all id:=by
 have e:=congrArg (fun l=>l.all id) (Dq_ bs)
 rw[List.all_map]at e;exact e
theorem U8 {bs:List Bool}{its:List Value}{A:Around}{P:Program}{w:World}(r:Vals (bs.map V.bl) its):TruthOf P w A (fun i v=>its.toArray[i]?=some v) (fun i=>bs.getD i false):=by
 intro i v s Q E hv hq
 obtain⟨b,hb,e⟩:=PV r (by simpa using hv)
 subst e
 refine wpAny_truthy_bool ?_
 have e:bs.getD i false=b:=by rw[List.getD_eq_getElem?_getD,hb];rfl
 have hq':Q (bs.getD i false) s:=hq
 rw[e]at hq'
 exact hq'
theorem ZL (hc:X.calm=true):Jg X (.builtin "all") (fun xs H Q=>∃(p:Addr) (bs:List Bool),xs=[.ref p]/\SqL X.K H p (bs.map V.bl)/\Q (.bl (bs.all id)) H):=by
 intro pins s σ H xs us Q I r h
 obtain⟨p,bs,rfl,hq,q⟩:=h
 obtain⟨u,rfl,ru⟩:=vals1 r
 cases ru
 obtain⟨its,rv,pl,hz⟩:=I.list hq
 have hlen:=rv.length
 rw[List.length_map]at hlen
 have hh:X.A.in1.handled=none:=I.ok.hd hc
 obtain⟨o,ho,_⟩:=id pl.isList
 have hne:p≠s.heap.objs.size:=Nat.ne_of_lt (Heap.lt_size ho)
 refine call_all_walk (wpAny_pyIter_list pl.isList ?_)
 refine⟨s.heap.objs.size,_,_,its.toArray.size,_,_,fun i=>bs.getD i false,rfl,Walks.list hh _ p hne its.toArray,⟨⟨_,Heap.get?_push_size _ rfl,rfl,rfl⟩,pl.isList.at fun o e=>Heap.get?_push_of_some _ e⟩,U8 rv,fun h' tk hk=>?_⟩
 refine⟨.bl (bs.all id),H,I.kept (t':=tk) fun b o e=>hk b o ?_ (Heap.get?_push_of_some _ e),?_,q⟩
 ·intro hb
  have e':b=s.heap.objs.size:=by simpa using hb
  exact absurd (Heap.lt_size e) (by rw[e'];exact Nat.lt_irrefl _)
 ·rw[List.size_toArray,<-hlen,range_all];rfl
theorem GC:Jg X (.builtin "isinstance") (fun xs H Q=>∃x c cv t b,xs=[x,c]/\TyOf X.K H x t/\(∀u,RelV c u->u=cv)/\PySem.W.kitOne X.K t cv=some b/\Q (.bl b) H):=by
 intro pins s σ H xs us Q I r h
 obtain⟨x,c,cv,t,b,rfl,ty,hc,hk,q⟩:=h
 obtain⟨u,w',rfl,rx,rc⟩:=vals2 r
 rw[hc _ rc]
 exact X5 I rx ty hk fun tk=>⟨.bl b,H,I.tok tk,rfl,q⟩
def EqD (K:PySem.W.Frag)(H:Hp):Nat->V->V->Bool->Prop
 |0,x,y,b=>PL x=true/\PL y=true/\b=eqV x y
 |n+1,x,y,b=>(PL x=true/\PL y=true/\b=eqV x y) \/ ∃a c xs ys,x=.ref a/\y=.ref c/\((SqL K H a xs/\SqL K H c ys)\/(SqT K H a xs/\SqT K H c ys)) /\
   ∃e:Nat->Bool,(∀i x y,xs[i]?=some x->ys[i]?=some y->EqD K H n x y (e i))/\b=(decide (xs.length=ys.length)&&(List.range (min xs.length ys.length)).all e)
theorem in1_units (A:Around):A.in1.units=A.units+1:=rfl
theorem VY {x:V}(h:PL x=true):eqV x x=true:=by
 cases x<;>first|rfl|(simp[eqV];done)|exact absurd (show false=true from h) Bool.false_ne_true
theorem EqD.self {pins:List (Addr×Obj)}{s:Shared}{σ:St}{H:Hp}(I:Inv X pins σ H s):∀(n:Nat) {x:V} {b:Bool},EqD X.K H n x x b->b=true:=by
 intro n
 induction n with
 |zero=>
  rintro x b ⟨fx,_,rfl⟩
  exact VY fx
 |succ n ih=>
  rintro x b (⟨fx,_,rfl⟩|⟨a,c,xs,ys,rfl,e2,hq,e,he,rfl⟩)
  ·exact VY fx
  ·cases e2
   have exy:xs=ys:=by
    rcases hq with ⟨h1,h2⟩|⟨h1,h2⟩
    ·exact I.list_inj h1 h2
    ·exact I.tuple_inj h1 h2
   subst exy
   simp only[decide_true,Bool.true_and,Nat.min_self,List.all_eq_true,List.mem_range]
   intro i hi
   exact ih (he i xs[i] xs[i] (by simp[hi]) (by simp[hi]))
theorem Yk {n m:Nat}{e:Nat->Bool}:((List.range (min n m)).all e&&n==m)=(decide (n=m)&&(List.range (min n m)).all e):=by
 rw[Bool.and_comm]
 congr 1
theorem EqD.at {pins:List (Addr×Obj)}{s:Shared}{σ:St}{H:Hp}(I:Inv X pins σ H s):∀(n:Nat) (A:Around) {x y:V} {u v:Value} {b:Bool},A.units+n<cLine->RelV x u->RelV y v->EqD X.K H n x y b ->
  SeqAt.EqAt A s u v b/\∀a c,x=.ref a->y=.ref c->SeqAt.RcAt A s u v b:=by
 intro n
 induction n with
 |zero=>
  intro A x y u v b hu rx ry h
  obtain⟨fx,fy,rfl⟩:=h
  refine⟨AP_ rx ry fx fy,?_⟩
  rintro a c rfl rfl
  exact absurd (show false=true from fx) Bool.false_ne_true
 |succ n ih=>
  intro A x y u v b hu rx ry h
  have hself:=h
  rcases h with ⟨fx,fy,rfl⟩|⟨a,c,xs,ys,rfl,rfl,hq,e,he,rfl⟩
  ·refine⟨AP_ rx ry fx fy,?_⟩
   rintro a c rfl rfl
   exact absurd (show false=true from fx) Bool.false_ne_true
  ·cases rx
   cases ry
   have key:∀(its its2:List Value),Vals xs its->Vals ys its2->∀j (h1:j<its.toArray.size) (h2:j<its2.toArray.size),SeqAt.EqAt A.in1 s its.toArray[j] its2.toArray[j] (e j):=fun its its2 r1 r2 j h1 h2=>by
    have l1:=r1.length
    have l2:=r2.length
    rw[List.size_toArray]at h1 h2
    obtain⟨u1,g1,q1⟩:=r1.get (i:=j) (x:=xs[j]'(by omega)) (by simp[show j<xs.length by omega])
    obtain⟨u2,g2,q2⟩:=r2.get (i:=j) (x:=ys[j]'(by omega)) (by simp[show j<ys.length by omega])
    have k1:its.toArray[j]'(by rw[List.size_toArray];exact h1)=u1:=by
     have:=(List.getElem?_eq_some_iff.mp g1).2
     simpa using this
    have k2:its2.toArray[j]'(by rw[List.size_toArray];exact h2)=u2:=by
     have:=(List.getElem?_eq_some_iff.mp g2).2
     simpa using this
    rw[k1,k2]
    exact (ih A.in1 (by rw[in1_units];omega) q1 q2 (he j _ _ (by simp[show j<xs.length by omega]) (by simp[show j<ys.length by omega]))).1
   have rc:SeqAt.RcAt A s (.ref a) (.ref c) (decide (xs.length=ys.length)&&(List.range (min xs.length ys.length)).all e):=by
    rcases hq with ⟨h1,h2⟩|⟨h1,h2⟩
    ·obtain⟨its,r1,p1,_⟩:=I.list h1
     obtain⟨its2,r2,p2,_⟩:=I.list h2
     have l1:=r1.length
     have l2:=r2.length
     by_cases hl:xs.length=ys.length
     ·have:=SeqAt.RcAt.lists (e:=e) p1.isList p2.isList (by rw[List.size_toArray,List.size_toArray];omega) (by omega) (key its its2 r1 r2)
      rw[List.size_toArray,<-l1]at this
      rw[decide_eq_true hl,Bool.true_and,<-hl,Nat.min_self]
      exact this
     ·rw[decide_eq_false hl,Bool.false_and]
      exact SeqAt.RcAt.lists_lengths p1.isList p2.isList (by rw[List.size_toArray,List.size_toArray];simp;omega) (by omega)
    ·obtain⟨its,r1,p1,_⟩:=I.tuple h1
     obtain⟨its2,r2,p2,_⟩:=I.tuple h2
     have l1:=r1.length
     have l2:=r2.length
     have:=SeqAt.RcAt.tuples (e:=e) (show s.heap.IsTuple a its.toArray from p1) (show s.heap.IsTuple c its2.toArray from p2) (by omega) (key its its2 r1 r2)
     rw[List.size_toArray,List.size_toArray,<-l1,<-l2,Yk]at this
     exact this
   refine⟨?_,fun a' c' _ _=>rc⟩
   by_cases hac:a=c
   ·subst hac
    rw[EqD.self I (n+1) hself]
    exact SeqAt.EqAt.same _
   ·exact SeqAt.EqAt.of_refs hac rc
theorem EqD.flat {K:PySem.W.Frag}{H:Hp}{a c:Addr}{xs ys:List V}(hq:(SqL K H a xs/\SqL K H c ys)\/(SqT K H a xs/\SqT K H c ys))(fx:∀x∈xs,PL x=true)(fy:∀y∈ys,PL y=true)(hi:∀x∈xs,∀y∈ys,eqV x y=decide (x=y))(n:Nat):
  EqD K H (n+1) (.ref a) (.ref c) (decide (xs=ys)):=by
 have base:∀m i x y,xs[i]?=some x->ys[i]?=some y->EqD K H m x y (decide (x=y)):=fun m i x y h1 h2=>by
  have m1:=List.mem_of_getElem? h1
  have m2:=List.mem_of_getElem? h2
  cases m with
  |zero=>exact⟨fx _ m1,fy _ m2,(hi _ m1 _ m2).symm⟩
  |succ m=>exact .inl ⟨fx _ m1,fy _ m2,(hi _ m1 _ m2).symm⟩
 refine .inr ⟨a,c,xs,ys,rfl,rfl,hq,fun i=>match xs[i]?,ys[i]? with|some x,some y=>decide (x=y)|_,_=>true,fun i x y h1 h2=>?_,?_⟩
 ·simp only[h1,h2]
  exact base n i x y h1 h2
 ·rw[Bool.eq_iff_iff]
  simp only[decide_eq_true_eq,Bool.and_eq_true,List.all_eq_true,List.mem_range]
  constructor
  ·rintro rfl
   refine⟨rfl,fun i hi=>?_⟩
   have hi:i<xs.length:=by omega
   simp[hi]
  ·rintro⟨hl,h⟩
   refine List.ext_getElem? fun i=>?_
   by_cases hi:i<xs.length
   ·have:=h i (by omega)
    simp[hi,show i<ys.length by omega]at this
    simp[hi,show i<ys.length by omega,this]
   ·rw[List.getElem?_eq_none (by omega),List.getElem?_eq_none (by omega)]
end
end L2
namespace L2
open PySem PySem.Spec PyProof.Rows
def Dr_ (outer:List (Str×NameKind))(sc:Scope):Bool:=
 sc.kind == .function&&sc.names.all (fun y=>y.2 != .cell&&(y.2 != .local||sc.names.lookup y.1==some .local)&&(y.2 != .free||outer.lookup y.1==some .cell||outer.lookup y.1==some .free))
theorem Ck {X:Cx}{sc:Scope}(h:Dr_ X.env.scope.names sc=true):BlkSc X sc:=by
 unfold Dr_ at h
 rw[Bool.and_eq_true,List.all_eq_true]at h
 obtain⟨h1,h2⟩:=h
 refine⟨by simpa using h1,fun y hy z=>?_,fun y hy z=>?_,fun y hy z=>?_⟩
 ·have:=h2 y hy
  simp only[Bool.and_eq_true]at this
  have:=this.1.1
  rw[z]at this
  exact absurd this (by decide)
 ·have:=h2 y hy
  simp only[Bool.and_eq_true]at this
  have:=this.1.2
  rw[z]at this
  simpa using this
 ·have:=h2 y hy
  simp only[Bool.and_eq_true]at this
  have:=this.2
  rw[z]at this
  have t:(X.env.scope.names.lookup y.1==some .cell||X.env.scope.names.lookup y.1==some .free)=true:=by simpa using this
  rw[Bool.or_eq_true]at t
  rcases t with t|t
  ·exact .inl (by show X.env.scope.names.lookup y.1=some .cell;simpa using t)
  ·exact .inr (by show X.env.scope.names.lookup y.1=some .free;simpa using t)
section
variable {t u:TS} {te ta tb tc':TE} {tt tu:TT} {A B:TA} {D:Ends} {σ:St} {H:Hp} {Q:VK} {R:Bool->Hp->Prop} {S:List V->Hp->Prop} {i:Nat} {v:V} {g:TG} {r r':R2} {K:PySem.W.Frag} {wi:TI} {cp:Caps}
theorem Ds_:tSeq t u D σ H=t {D with nx:=u D} σ H:=rfl
theorem AT_:CR_ D σ H=D.nx σ H:=rfl
theorem Dt_:tAsg te g D σ H=te σ H fun x H1=>g x σ H1 D.nx:=rfl
theorem Yl {N:St->Hp->Prop}:J2 i v σ H N=N (σ.set i (some v)) H:=rfl
theorem Du_:tVar i σ H Q=∃v,σ[i]?=some (some v)/\Q v H:=rfl
theorem r_c:tC v σ H Q=Q v H:=rfl
theorem r_op:tOp r ta tb σ H Q=ta σ H fun x H1=>tb σ H1 fun y H2=>r x y H2 Q:=rfl
theorem r_un {f:V->Hp->VK->Prop}:tUn f ta σ H Q=ta σ H fun x H1=>f x H1 Q:=rfl
theorem r_I {C:Int->Int->Prop}{f:Int->Int->V}{x y:V}:rI C f x y H Q=∃i j,x=.int i/\y=.int j/\C i j/\Q (f i j) H:=rfl
theorem r_I0 {f:Int->Int->V}{x y:V}:rI0 f x y H Q=∃i j,x=.int i/\y=.int j/\Q (f i j) H:=rfl
theorem r_U {f:Int->V}{x:V}:rU f x H Q=∃i,x=.int i/\Q (f i) H:=rfl
theorem AU_ {sp:Sp}{dvs:List V}{E:XK}:Dd_ sp dvs E A σ H Q=A σ H fun vs H1=>sp (vs++dvs) H1 Q E:=rfl
theorem AV_:Dc_ te A σ H S=te σ H fun x H1=>A σ H1 fun xs H2=>S (x::xs) H2:=rfl
theorem Dv_:tNil σ H S=S [] H:=rfl
theorem Dw_:tRet te D σ H=te σ H D.rt:=rfl
theorem AW_:CS_ te D σ H=te σ H fun _ H1=>D.nx σ H1:=rfl
theorem r_if:tIfS tt t u D σ H=tt σ H fun b H1=>if b=true then t D σ H1 else u D σ H1:=rfl
theorem r_B:tB te σ H R=te σ H fun x H1=>∃c,x=.bl c/\R c H1:=rfl
theorem AX_:Db_ te σ H R=te σ H fun x H1=>∃c,x=.bl c/\R c H1:=rfl
theorem r_or:tOr tt tu σ H R=tt σ H fun c H1=>if c=true then R true H1 else tu σ H1 R:=rfl
theorem Dx_:tNot tt σ H R=tt σ H fun c H1=>R (!c) H1:=rfl
theorem AY_:CM_ ta tb σ H Q=ta σ H fun x H1=>∃c,x=.bl c/\if c=true then tb σ H1 Q else Q (.bl false) H1:=rfl
theorem AZ_:CN_ ta σ H Q=ta σ H fun x H1=>∃c,x=.bl c/\Q (.bl (!c)) H1:=rfl
theorem Ym:AO_ r r' ta tb tc' σ H Q=ta σ H fun x H1=>tb σ H1 fun y H2=>r x y H2 fun z H3=>∃k,z=.bl k/\(if k=true then tc' σ H3 fun w' H4=>r' y w' H4 Q else Q (.bl false) H3):=rfl
theorem Dy_:tIf tt ta tb σ H Q=tt σ H fun c H1=>if c=true then ta σ H1 Q else tb σ H1 Q:=rfl
theorem r_CB {f:List V->Hp->VK->Prop}:tCB f A σ H Q=A σ H fun vs H1=>f vs H1 Q:=rfl
theorem Dz_:tLst A σ H Q=A σ H fun xs H1=>xs.length<=sizeLine/\∀p,H1 p=none->Q (.ref p) (upd H1 p (.lst xs)):=rfl
theorem DA_:tTup A σ H Q=A σ H fun xs H1=>xs.length<=sizeLine/\∀p,H1 p=none->Q (.ref p) (upd H1 p (.tup xs)):=rfl
theorem DB_ {x y:V}:rIxL K x y H Q=∃p xs i v,x=.ref p/\y=.int i/\SqL K H p xs/\atI xs i=some v/\Q v H:=rfl
theorem DC_ {x y:V}:rIxT K x y H Q=∃p xs i v,x=.ref p/\y=.int i/\SqT K H p xs/\atI xs i=some v/\Q v H:=rfl
theorem r_sl {f:V->Option Int->Option Int->Hp->VK->Prop}{tl th:TO}:tSl f te tl th σ H Q=te σ H fun x H1=>tl σ H1 fun l H2=>th σ H2 fun u H3=>f x l u H3 Q:=rfl
theorem Ba_ {U:Option Int->Hp->Prop}:Dh_ te σ H U=te σ H fun x H1=>∃i,x=.int i/\U (some i) H1:=rfl
theorem VZ {U:Option Int->Hp->Prop}:X8 σ H U=U none H:=rfl
theorem r_BM {T:String}{f:V->List V->Hp->VK->Prop}:tBM K T f te A σ H Q=te σ H fun x H1=>tyV K T x H1/\A σ H1 fun xs H2=>f x xs H2 Q:=rfl
theorem V0 {x:V}{vs:List V}:Yb x vs H Q=∃l xs y,x=.ref l/\vs=[y]/\H l=some (.lst xs)/\xs.length<sizeLine/\Q .non (upd H l (.lst (xs++[y]))):=rfl
theorem Bb_ {to ti:TE}{ts:TSet}{N:St->Hp->Prop}:gSub to ti ts v σ H N=to σ H fun o H1=>ti σ H1 fun i H2=>ts o i v H2 fun H3=>N σ H3:=rfl
theorem Bc_ {o k:V}{N:Hp->Prop}:Dj_ o k v H N=∃p xs m j,o=.ref p/\k=.int m/\H p=some (.lst xs)/\ixN xs.length m=some j/\N (upd H p (.lst (xs.set j v))):=rfl
theorem r_Eq {x y:V}:rEq x y H Q=(scal x y=true/\Q (.bl (decide (x=y))) H):=rfl
theorem r_Ne {x y:V}:rNe x y H Q=(scal x y=true/\Q (.bl (!decide (x=y))) H):=rfl
theorem Yn {Z:It->Hp->Prop}:BO_ K te σ H Z=te σ H fun x H1=>∃a,x=.ref a/\(∃xs,SqL K H1 a xs)/\Z (Itl K a) H1:=rfl
theorem Bd_ {Z:It->Hp->Prop}:iTup K te σ H Z=te σ H fun x H1=>∃a,x=.ref a/\(∃xs,SqT K H1 a xs)/\Z (Itt K a) H1:=rfl
theorem Yo {Z:It->Hp->Prop}:CY_ A σ H Z=A σ H fun vs H1=>∃j:Int,vs=[.int j] /\ -(2 ^ 62)<=j/\j<2 ^ 62/\Z (Itr 0 j.toNat) H1:=rfl
theorem DD_ {ti:TIp}:tAug i te ti D σ H=∃x,σ[i]?=some (some x)/\te σ H fun y H1=>ti x y H1 fun z H2=>D.nx (σ.set i (some z)) H2:=rfl
theorem r_ip {f:Int->Int->Int}{x y:V}:ipI f x y H Q=∃i j,x=.int i/\y=.int j/\Q (.int (f i j)) H:=rfl
theorem Yp:N3 σ H R=R true H:=rfl
end
theorem Same.new {H:Hp}{p:Addr}{o:HO}(h:H p=none):Same H (upd H p o):=fun b u e=>by rw[Av (BP e h)];exact e
theorem Same.newT {H H':Hp}{p:Addr}{o:HO}(s:Same H H')(h:H' p=none):Same H (upd H' p o):=s.trans (Same.new h)
theorem Same.over {H H':Hp}{p:Addr}{o:HO}(s:Same H H')(h:H p=none):Same H (upd H' p o):=fun b u e=>by rw[Av (BP e h)];exact s b u e
theorem Same.seqT {K:PySem.W.Frag}{H H':Hp}{a:Addr}{xs:List V}(e:Same H H')(h:SqT K H a xs):SqT K H' a xs:=by
 rcases h with (h|⟨o,h⟩)|h
 ·exact .inl (.inl (e _ _ h))
 ·exact .inl (.inr ⟨o,e _ _ h⟩)
 ·exact .inr h
theorem hu9 {k:Nat}{A:Around}(hr:Room k A):A.units+8<cLine:=by have:=hr.units;omega
section
variable {K:PySem.W.Frag} {wi:TI} {cp:Caps} {g:TG} {tc:TT} {te:TE} {σ:St} {H:Hp} {Q:VK}
theorem DE_ {CX:CXT}{P:Program}{w:World}{mg:Str->Option Value}{base:Heap}{N:List Str}{qual:Str}{scope:Scope}{f:Addr}{cd:Value}{A:Around}{outer:List Env}{s:Shared}{E:XK}:(cxOf CX P w K mg base N qual scope f cd A outer s H E).K=K:=rfl
def Jh (J:It)(cp:Caps)(g:TG)(tc:TT)(te:TE)(σ:St)(H1:Hp)(Q:VK):Prop:=∃W:Nat->Nat->List V->St->Hp->Prop,(∃m,W 0 m [] (cp.st σ) H1)/\∀i m ys σ' H',W i m ys σ' H' ->
 ys.length<sizeLine/\((J.stop i H'/\∀D,H' D=none->Q (.ref D) (upd H' D (.lst ys)))\/(J.go i H'/\∃N:List V->St->Hp->Prop,(∀zs σ2 H2,N zs σ2 H2->∃m',m'<m/\W (i+1) m' zs σ2 H2)/\∀x H2,J.yld i H' x H2->g x σ' H2 fun σ2 H3=>tc σ2 H3 fun b H4=>
  if b=true then te σ2 H4 fun v H5=>N (ys++[v]) σ2 H5 else N ys σ2 H4))
theorem Be_:Yi wi cp g tc te σ H Q=wi σ H fun J H1=>Jh J cp g tc te σ H1 Q:=rfl
def ForW (J:It)(g:TG)(tb:TS)(D:Ends)(σ:St)(H1:Hp):Prop:=∃W:Nat->Nat->St->Hp->Prop,(∃m,W 0 m σ H1)/\∀i m σ H,W i m σ H ->
 (J.stop i H/\D.nx σ H)\/(J.go i H/\∃N:St->Hp->Prop,(∀σ' H',N σ' H'->∃m',m'<m/\W (i+1) m' σ' H')/\∀x H',J.yld i H x H'->g x σ H' fun σ2 H2=>tb {D with nx:=N,ct:=N,bk:=D.nx} σ2 H2)
theorem DF_ {tb:TS}{D:Ends}:tFor wi g tb D σ H=wi σ H fun J H1=>ForW J g tb D σ H1:=rfl
theorem forL {a:Addr}{xs:List V}{g:TG}{tb:TS}{D:Ends}{σ:St}{H:Hp}(Pv:Nat->St->Hp->Prop)(h0:Pv 0 σ H)(hl:∀i σ H,i<=xs.length->Pv i σ H->SqL K H a xs)
  (hs:∀i x σ H,xs[i]?=some x->Pv i σ H->g x σ H fun σ2 H2=>tb {D with nx:=Pv (i+1),ct:=Pv (i+1),bk:=D.nx} σ2 H2) (hd:∀σ H,Pv xs.length σ H->D.nx σ H):ForW (Itl K a) g tb D σ H:=Zx Pv h0 hl hs hd
theorem forT {a:Addr}{xs:List V}{g:TG}{tb:TS}{D:Ends}{σ:St}{H:Hp}(Pv:Nat->St->Hp->Prop)(h0:Pv 0 σ H)(hl:∀i σ H,i<=xs.length->Pv i σ H->SqT K H a xs)
  (hs:∀i x σ H,xs[i]?=some x->Pv i σ H->g x σ H fun σ2 H2=>tb {D with nx:=Pv (i+1),ct:=Pv (i+1),bk:=D.nx} σ2 H2) (hd:∀σ H,Pv xs.length σ H->D.nx σ H):ForW (Itt K a) g tb D σ H:=BP_ Pv h0 hl hs hd
theorem forR {lo:Int}{n:Nat}{g:TG}{tb:TS}{D:Ends}{σ:St}{H:Hp}(Pv:Nat->St->Hp->Prop)(h0:Pv 0 σ H)
  (hs:∀i σ H,i<n->Pv i σ H->g (.int (lo+i)) σ H fun σ2 H2=>tb {D with nx:=Pv (i+1),ct:=Pv (i+1),bk:=D.nx} σ2 H2) (hd:∀σ H,Pv n σ H->D.nx σ H):ForW (Itr lo n) g tb D σ H:=XX Pv h0 hs hd
theorem U9 {a:Addr}{xs:List V}(Pv:Nat->List V->St->Hp->Prop)(h0:Pv 0 [] (cp.st σ) H)(hz:xs.length<sizeLine)
  (hl:∀i ys σ H,i<=xs.length->Pv i ys σ H->SqL K H a xs/\ys.length<=i)
  (hs:∀i x ys σ H,xs[i]?=some x->Pv i ys σ H->g x σ H fun σ2 H2=>tc σ2 H2 fun b H3=>if b=true then te σ2 H3 fun v H4=>Pv (i+1) (ys++[v]) σ2 H4 else Pv (i+1) ys σ2 H3)
  (hd:∀ys σ H,Pv xs.length ys σ H->∀D,H D=none->Q (.ref D) (upd H D (.lst ys))):Jh (Itl K a) cp g tc te σ H Q:=Yj Pv h0 hz hl hs hd
theorem Yq {a:Addr}{xs:List V}(Pv:Nat->List V->St->Hp->Prop)(h0:Pv 0 [] (cp.st σ) H)(hz:xs.length<sizeLine)
  (hl:∀i ys σ H,i<=xs.length->Pv i ys σ H->SqT K H a xs/\ys.length<=i)
  (hs:∀i x ys σ H,xs[i]?=some x->Pv i ys σ H->g x σ H fun σ2 H2=>tc σ2 H2 fun b H3=>if b=true then te σ2 H3 fun v H4=>Pv (i+1) (ys++[v]) σ2 H4 else Pv (i+1) ys σ2 H3)
  (hd:∀ys σ H,Pv xs.length ys σ H->∀D,H D=none->Q (.ref D) (upd H D (.lst ys))):Jh (Itt K a) cp g tc te σ H Q:=ZK Pv h0 hz hl hs hd
theorem L8 {lo:Int}{n:Nat}(Pv:Nat->List V->St->Hp->Prop)(h0:Pv 0 [] (cp.st σ) H)(hz:n<sizeLine)
  (hl:∀i ys σ H,i<=n->Pv i ys σ H->ys.length<=i)
  (hs:∀i ys σ H,i<n->Pv i ys σ H->g (.int (lo+i)) σ H fun σ2 H2=>tc σ2 H2 fun b H3=>if b=true then te σ2 H3 fun v H4=>Pv (i+1) (ys++[v]) σ2 H4 else Pv (i+1) ys σ2 H3)
  (hd:∀ys σ H,Pv n ys σ H->∀D,H D=none->Q (.ref D) (upd H D (.lst ys))):Jh (Itr lo n) cp g tc te σ H Q:=WD Pv h0 hz hl hs hd
theorem PX {a:Addr}{xs:List V}{σ':St}(f:V->V)(e:cp.st σ=none::σ')(hl:SqT K H a xs)(hz:xs.length<sizeLine)(hs:∀x∈xs,∀R:VK,R (f x) H->te (some x::σ') H R)(hd:∀D,H D=none->Q (.ref D) (upd H D (.lst (xs.map f)))):
  Jh (Itt K a) cp (J2 0) N3 te σ H Q:=by
 refine Yq (xs:=xs) (fun i ys σ2 H2=>H2=H/\ys=(xs.take i).map f/\∃o,σ2=o::σ') ⟨rfl,by simp,none,e⟩ hz (fun i ys σ2 H2 hi h=>?_) (fun i x ys σ2 H2 hx h=>?_) (fun ys σ2 H2 h=>?_)
 ·obtain⟨rfl,rfl,_⟩:=h
  exact⟨hl,by rw[List.length_map,List.length_take];omega⟩
 ·obtain⟨rfl,rfl,o,rfl⟩:=h
  refine hs x (List.mem_of_getElem? hx) _ ⟨rfl,?_,some x,rfl⟩
  rw[List.take_add_one,hx];simp
 ·obtain⟨rfl,rfl,_⟩:=h
  rw[List.take_length]
  exact hd
theorem ZM {a:Addr}{xs:List V}{σ':St}(f:V->V)(e:cp.st σ=none::σ')(hl:SqL K H a xs)(hz:xs.length<sizeLine)(hs:∀x∈xs,∀R:VK,R (f x) H->te (some x::σ') H R)(hd:∀D,H D=none->Q (.ref D) (upd H D (.lst (xs.map f)))):
  Jh (Itl K a) cp (J2 0) N3 te σ H Q:=by
 refine U9 (xs:=xs) (fun i ys σ2 H2=>H2=H/\ys=(xs.take i).map f/\∃o,σ2=o::σ') ⟨rfl,by simp,none,e⟩ hz (fun i ys σ2 H2 hi h=>?_) (fun i x ys σ2 H2 hx h=>?_) (fun ys σ2 H2 h=>?_)
 ·obtain⟨rfl,rfl,_⟩:=h
  exact⟨hl,by rw[List.length_map,List.length_take];omega⟩
 ·obtain⟨rfl,rfl,o,rfl⟩:=h
  refine hs x (List.mem_of_getElem? hx) _ ⟨rfl,?_,some x,rfl⟩
  rw[List.take_add_one,hx];simp
 ·obtain⟨rfl,rfl,_⟩:=h
  rw[List.take_length]
  exact hd
end
def tCut (t u:TS):TS:=fun D σ H=>∃R:St->Hp->Prop,t {D with nx:=R} σ H/\∀σ' H',R σ' H'->u D σ' H'
theorem Va {X:Cx}{st:Stmt}{rest:List Stmt}{t u:TS}(h1:PS X st t)(h2:PSs X rest u):PSs X (st::rest) (tCut t u):=by
 intro pins s σ H D I h
 obtain⟨R,ha,hb⟩:=h
 refine wpAny_execs_cons (thn (h1 pins s σ H {D with nx:=R} I ha) fun f s1 q=>?_)
 cases f with
 |next=>
  obtain⟨σ',H',I',q⟩:=q
  exact h2 pins s1 σ' H' D I' (hb σ' H' q)
 |ret v=>exact q
 |brk=>exact q
 |cont=>exact q
theorem Al:1000000<sizeLine:=by rw[sizeLine_eq];decide
theorem J8 {ns:List Int}{x:V}(h:x∈ns.map V.int):∃n,n∈ns/\x=.int n:=by
 obtain⟨n,hn,e⟩:=List.mem_map.mp h
 exact⟨n,hn,e.symm⟩
theorem Ja {ns:List Int}{i:Nat}{x:V}(h:(ns.map V.int)[i]?=some x):∃n,ns[i]?=some n/\x=.int n:=by
 rw[List.getElem?_map]at h
 cases e:ns[i]? with
 |none=>rw[e]at h;cases h
 |some n=>rw[e]at h;exact⟨n,rfl,(Option.some.inj h).symm⟩
theorem DG_ {n:Nat}{i:Int}(h0:0<=i)(h1:i<n):ixN n i=some i.toNat:=by
 unfold ixN;rw[if_pos h0,if_pos h1]
theorem Yr {α:Type}{xs:List α}{i:Int}{v:α}(h0:0<=i)(h:xs[i.toNat]?=some v):atI xs i=some v:=by
 have:=Cq h
 rwa [show ((i.toNat:Nat):Int)=i by omega]at this
theorem GD {K:PySem.W.Frag}{t:Value}:PySem.W.kitOne K t t=some true:=by unfold PySem.W.kitOne;rw[if_pos (by simp)]
theorem Tu {K:PySem.W.Frag}:PySem.W.kitOne K (.type "int") (.type "bool")=some false:=by
 first|rfl|decide +kernel|(unfold PySem.W.kitOne;kernel_rfl)
theorem LO {n:String}:∀u,RelV (V.ty n) u->u=.type n:=fun _ h=>h
end L2
namespace L2
open PySem PySem.W PySem.Spec PySem.Calls PyProof.Rows
section
variable {prog:Program} {w:World} {A:Around} {E:Value->Shared->Prop} {s:Shared} {K:Frag} {x D:Addr} {ox:Obj}
structure ExcCls (K:Frag)(D:Addr):Prop where
 ga:findIn K (.ref D) "__getattribute__"=some (some (.builtin "BaseException.__getattribute__"))
 hk:findIn K (.ref D) "__getattr__"=some none
 cl:(clsIn K D).isSome=true
 ca:findIn K (.ref D) "__class__"=some (some (.builtin "object.__class__"))
 gs:specialIn K (.builtin "object.__class__") "__get__"=some (some (.builtin "getset_descriptor.__get__"))
 tk:takesIn K (.builtin "object.__class__")=some true
 mo:mroIn K D (.type "object")=some true
 mb:mroIn K D (.type "BaseException")=some true
def ExcAt (x D:Addr)(h:Heap):Prop:=∃ox,h.get? x=some ox/\ox.cls=.ref D
theorem ExcAt.type {M:Model}{h:Heap}(I:ExcAt x D h):Looks M h (typeOf (.ref x)) (.ref D):=by
 obtain⟨ox,h1,h2⟩:=I
 exact h2 ▸ (Looks.ld h1).andThen .now
theorem ZN {M:Model}{h:Heap}(X:K.In h)(C:ExcCls K D):Looks M h (Builtin.ObjectAttr.find (.ref x) (.ref D) "__class__") (.bind (.builtin "getset_descriptor.__get__") (.builtin "object.__class__")):=
 (looks_findIn X C.ca).andThen ((show Looks M h (Builtin.ObjectAttr.getOf (some (.builtin "object.__class__"))) _ from looks_specialIn X C.gs).andThen
  ((show Looks M h (Builtin.ObjectAttr.dataDescriptor? (some (.builtin "object.__class__")) (some (.builtin "getset_descriptor.__get__"))) (some (.builtin "getset_descriptor.__get__",.builtin "object.__class__")) from (looks_takesIn X C.tk).andThen .now).andThen (Looks.tag .now)))
open Builtin Builtin.ObjectAttr Builtin.Getset_descriptor in
theorem Cb_ {R:Result->Shared->Prop}{tp:Value}(X:K.In s.heap)(I:ExcAt x D s.heap)(hm:mroIn K D (.type "object")=some true)(h:R (.ok (.ret (.ref D))) s):codeAny (model prog w) A (.call (.builtin "getset_descriptor.__get__") ⟨[.builtin "object.__class__",.ref x,tp],[]⟩) R s:=by
 have l0:=I.type (M:=model prog w)
 have l1:=looks_mroIn (M:=model prog w) X hm
 obtain⟨_,_,_,_,_⟩:=s
 have sg:=KF.slot_gs
 refine codeAny_call_builtin sg.plain KF.entry_gs (sg.check _ _ _ _ _ _ _ _ KF.type_class (KF.args_gs _ _ _) ?_)
 unfold Builtin.«getset_descriptor.__get__» descrGet
 rw[dga_obj]
 unfold descrGetter descrCheckInstance isInstance descrNameAndClass
 refine wpAny_bind (wpAny_pure ?_)
 simp only[KF.owner_class]
 repeat lk
 refine⟨Code.quiet_builtin _ (by decide +kernel),codeAny_builtin KF.entry_class ?_⟩
 unfold Builtin.«object.__class__» shownTypeOf
 repeat lk
 exact h
theorem Ys {M:Model}{nameV:Value}{Q:Unit->Shared->Prop}(X:K.In s.heap)(I:ExcAt x D s.heap)(C:ExcCls K D)(hq:Q () s):wpAny M A (checkBuiltinCall "BaseException.__getattribute__" ⟨[.ref x,nameV],[]⟩) Q E s:=by
 have a1:=F.args_bexc_ga (.ref x) nameV
 have l0:=I.type (M:=M)
 have l1:=looks_mroIn (M:=M) X C.mb
 obtain⟨_,_,_,_,_⟩:=s
 simp only[checkBuiltinCall,show builtinKind "BaseException.__getattribute__"=some .slot by decide +kernel,show splitId "BaseException.__getattribute__"=some ("BaseException","__getattribute__") by decide +kernel,isInstance]
 repeat (first|lk|wp_step)
 exact hq
theorem Yt {tk:Tok}{Q:Fin->Shared->Prop}(X:K.In s.heap)(I:ExcAt x D s.heap)(C:ExcCls K D)(hq:Q (.done (.ret (.ref D))) s):wpAny (model prog w) A (Builtin.«object.__getattribute__» ⟨[.ref x,.str "__class__" tk],[]⟩) Q E s:=by
 obtain⟨hh,g,d,t,os⟩:=s
 have L0:=I.type (M:=model prog w)
 have L1:=ZN (M:=model prog w) (x:=x) X C
 unfold Builtin.«object.__getattribute__»
 refine wpAny_bind (wpAny_pure ?_)
 refine wpAny_bind (wpAny_pure ?_)
 refine wpAny_bind (L0.at ?_)
 refine wpAny_bind (L1.at ?_)
 show wpAny _ _ (Builtin.ObjectAttr.bindTo _ _ _ _) _ _ _
 unfold Builtin.ObjectAttr.bindTo
 dsimp only
 refine wpAny_bind (wpAny_holding (wpAny_call (Cb_ (K:=K) (s:=⟨hh,g,d,t,os⟩) X I C.mo ?_)))
 exact wpAny_pure hq
theorem Yu {Q:Option Value->Shared->Prop}(X:K.In s.heap)(I:ExcAt x D s.heap)(C:ExcCls K D)(h:Q (some (.ref D)) {s with toks:=s.toks+1}):wpAny (model prog w) A (getAttr? (.ref x) "__class__") Q E s:=by
 obtain⟨hh,g,d,t,os⟩:=s
 have L0:=I.type (M:=model prog w)
 have L1:=looks_findIn (M:=model prog w) X C.ga
 have L2:=looks_findIn (M:=model prog w) X C.hk
 unfold getAttr? getAttrBy? getAttrBy
 refine wpAny_bind (wpAny_mkText (wpAny_bind (wpAny_attempt (wpAny_holding (wpAny_bind (L0.at (wpAny_bind (L1.at ?_))))))))
 show wpAny _ _ (getAttrByItsOwn _ _ _ _ _ _) _ _ _
 unfold getAttrByItsOwn hookBefore
 refine wpAny_bind ?_
 rw[if_pos (by rfl)]
 refine L2.at (wpAny_bind (wpAny_attempt (wpAny_holding ?_)))
 unfold callGetattribute
 rw[if_neg (by decide)]
 unfold boundAndCalled
 have f3:=PySem.F.attr_ValueError.ga.bind (.ref x)
 refine wpAny_bind (wpAny_of_eq f3 ?_)
 refine wpAny_call (codeAny_call_builtin PySem.F.attr_ValueError.ga.plain F.entry_bexc_ga (Ys (K:=K) (s:=⟨hh,g,d,t+1,os⟩) X I C (Yt (K:=K) (s:=⟨hh,g,d,t+1,os⟩) X I C ?_)))
 exact wpAny_pure (wpAny_pure h)
theorem ZO (C:ExcCls K D):KitX K (.ref x) (.ref D) (ExcAt x D):=by
 have cl:=C.cl
 unfold clsIn at cl
 refine⟨fun _ _ _ I=>I.type,fun _ _ X _=>?_,fun h tp dd its n sl X htp=>?_,fun X I k=>Yu X I C k⟩
 ·split at cl
  ·rename_i ho
   intro A' Q' E' s' k q
   exact wpAny_bind (wpAny_loadPart (k _ _ (X _ _ ho)) (wpAny_pure q))
  ·cases cl
 ·split at cl
  ·rename_i ho
   cases hb:(Value.ref D==Value.ref tp) with
   |false=>rfl
   |true=>
    obtain rfl:D=tp:=Value.ref.inj (beq_iff_eq.mp hb)
    cases (X _ _ ho).symm.trans htp
  ·cases cl
end
section
variable {P:Program} {w:World}
theorem Bk.there {H:Hp}{h:Heap}{a:Addr}{o:HO}(x:Bk P w H h a o):∃ob,h.get? a=some ob:=by
 induction o with
 |lst xs=>obtain⟨_,_,_,_,e⟩:=x;exact⟨_,e⟩
 |tup xs=>obtain⟨_,_,_,ob,e,_⟩:=x;exact⟨_,e⟩
 |dK kvs=>obtain⟨_,_,_,_,o,_,_,e,_⟩:=x;exact⟨_,e⟩
 |dT kvs=>obtain⟨_,_,_,_,o,_,_,e,_⟩:=x;exact⟨_,e⟩
 |set S n=>obtain⟨o,_,_,_,e,_⟩:=x;exact⟨_,e⟩
 |ins C dx fs=>obtain⟨_,_,_,e,_⟩:=x;exact⟨_,e⟩
 |own y=>obtain⟨_,e⟩:=x;exact⟨_,e⟩
 |xd fs=>obtain⟨_,⟨_,_,_,e,_⟩,_⟩:=x;exact⟨_,e⟩
 |rng lo hi=>obtain⟨_,_,_,e⟩:=x;exact⟨_,e⟩
 |frz ob u ih=>obtain⟨e,_⟩:=x;exact⟨_,e⟩
 |tbl ps=>exact⟨_,(show h.get? a=some _ from x)⟩
 |met f y=>exact⟨_,(show h.get? a=some _ from x)⟩
 |ext φ=>obtain⟨_,⟨_,e⟩,_⟩:=x;exact⟨_,e⟩
structure Fly (P:Program)(w:World)(fs:List Addr)(H1 H':Hp)(h1 g B:Heap):Prop where
 un:Un fs [] H1 H' h1 g
 hok:HOk P w H' g
 cov:∀b o,g.get? b=some o->(H' b≠none \/ ∃o',h1.get? b=some o')->b∉fs->B.get? b=some o
theorem Fly.move {fs:List Addr}{H1 H':Hp}{h1 g B h2:Heap}(x:Fly P w fs H1 H' h1 g B)(frees:∀b∈fs,H' b=none)(st:B.StaysIn h2)(up:∀b∈fs,∀o,g.get? b=some o->∃sl,h2.get? b=some {o with slots:=sl}):Fly P w fs H1 H' h1 h2 B:=by
 have keep:∀b o,g.get? b=some o->(H' b≠none \/ ∃o',h1.get? b=some o')->b∉fs->h2.get? b=some o:=fun b o e h n=>st b o (x.cov b o e h n)
 have nfs:∀b u,H' b=some u->b∉fs:=fun b u e z=>by rw[frees b z]at e;cases e
 refine⟨⟨fun b o e n hb hx=>?_,fun b o e n hb hx=>?_,fun b o e n hx=>x.un.free b o e n hx,fun b o e hx=>?_,x.un.tups,x.un.frzs,x.un.tbls⟩,fun b u e=>?_,fun b o e h n=>?_⟩
 ·exact keep b o (x.un.keep b o e n hb hx) (.inr ⟨o,e⟩) hb
 ·obtain⟨sl,e1⟩:=x.un.slot b o e n hb hx
  obtain⟨sl',e2⟩:=up b hb _ e1
  exact⟨sl',e2⟩
 ·obtain⟨o',e1⟩:=x.un.there b o e hx
  by_cases hb:b∈fs
  ·obtain⟨sl',e2⟩:=up b hb _ e1
   exact⟨_,e2⟩
  ·exact⟨o',keep b o' e1 (.inr ⟨o,e⟩) hb⟩
 ·refine (x.hok b u e).stay (fun c v hc q=>?_) (fun _ q=>q) fun _ _ q=>q
  rcases hc with rfl|hc
  ·exact keep c v q (.inl (by rw[e];simp)) (nfs c u e)
  ·exact keep c v q (.inl (by rw[hc];simp)) (nfs c _ hc)
 ·-- B has it still
  have ⟨o1,e1⟩:∃o1,g.get? b=some o1:=by
   rcases h with h|⟨o',h⟩
   ·cases q:H' b with
    |none=>exact absurd q h
    |some u=>exact (x.hok b u q).there
   ·exact x.un.there b o' h (by simp)
  have e2:=x.cov b o1 e1 h n
  have e3:=st b o1 e2
  rw[e]at e3
  cases e3
  exact e2
def CXe (P:Program)(w:World):CXT:=fun outer H s E e s'=>∃(ea:Addr) (cls a0:Value) (H':Hp) (B:Heap),e=.ref ea/\s'.os=s.os/\AllBare s'.gens/\Fly P w (frs outer) H H' s.heap s'.heap B/\Heap.FlyingW B outer ea cls a0 s'.heap/\E cls none H'
theorem Tv {X:Cx}{pins:List (Addr×Obj)}{σ:St}{H1 H':Hp}{s1:Shared}{g B:Heap}(I:Inv X pins σ H1 s1)(x:Fly P w (frs X.stack) H1 H' s1.heap g B):∀b∈frs X.stack,H' b=none:=fun b hb=>by
 obtain⟨_,o,ho,_⟩:=I.stack.mem hb
 exact x.un.free b o ho (I.stkFree b hb) (by simp)
theorem Cc_ {K:PySem.W.Frag}{mg:Str->Option Value}{base:Heap}{N:List Str}{qual:Str}{scope:Scope}{f:Addr}{cd:Value}{A:Around}{outer:List Env}{s:Shared}{H:Hp}{E E':XK}(hE:∀c d H',E' c d H'->E c d H'):
  Tj (CXe P w) (cxOf (CXe P w) P w K mg base N qual scope f cd A outer s H E) E':=by
 intro pins σ H1 s1 e s' I hc
 obtain⟨ea,cls,a0,H',B,rfl,os,bare,fl,fw,q⟩:=hc
 have fr:(cxOf (CXe P w) P w K mg base N qual scope f cd A outer s H E).A.frames=some (envOfC qual scope s.heap.objs.size f cd::outer):=I.ok.frames
 refine wpAny_leaves_onW fr rfl fw fun h' fw' ups=>?_
 have fl2:=fl.move (Tv I fl) fw'.1 (fun b hb o e=>by
  obtain⟨_,o',ho',nf⟩:=fw.2.2.1.mem hb
  rw[e]at ho';cases ho'
  exact ups b o e nf)
 have I2:Inv (cxOf (CXe P w) P w K mg base N qual scope f cd A outer s H E) pins σ H' {s' with heap:=h' }:=I.call' (s':={s' with heap:=h' }) os fl2.un fl2.hok bare (fun b hb=>by cases hb)
 refine⟨ea,cls,a0,H',B,rfl,I2.os,I2.bare,⟨I2.base,I2.hok,fun b o e h n=>fl2.cov b o e ?_ (fun z=>?_)⟩,fw',hE _ _ _ q⟩
 ·rcases h with h|⟨o',h⟩
  ·exact .inl h
  ·obtain⟨o2,e2⟩:=I.base.there b o' h (by show b∉([]:List Addr);simp)
   exact .inr ⟨o2,e2⟩
 ·rcases List.mem_cons.mp (I.stkSub b z) with e' | e'
  ·rcases h with h|⟨o',h⟩
   ·exact h (by rw[e'];exact I2.free)
   ·have:=Heap.lt_size h
    rw[e']at this
    exact absurd (Nat.lt_of_lt_of_le this I.ok.above) (Nat.lt_irrefl _)
  ·exact n e'
theorem DH_ {K:PySem.W.Frag}{mg:Str->Option Value}{base:Heap}{N:List Str}{qual:Str}{scope:Scope}{f:Addr}{cd:Value}{A:Around}{outer:List Env}{s:Shared}{H:Hp}{E:XK}
  {pins:List (Addr×Obj)} {σ:St} {H1:Hp} {s1:Shared} {h':Heap} {ea:Addr} {cls:Value} {vs:List Value}
  (I:Inv (cxOf (CXe P w) P w K mg base N qual scope f cd A outer s H E) pins σ H1 s1) (hx:Heap.MadeExcOf s1.heap h' ea cls vs) (q:E cls none H1):
  (cxOf (CXe P w) P w K mg base N qual scope f cd A outer s H E).xe (.ref ea) {s1 with heap:=h' }:=by
 have fr:(cxOf (CXe P w) P w K mg base N qual scope f cd A outer s H E).A.frames=some (envOfC qual scope s.heap.objs.size f cd::outer):=I.ok.frames
 have hin:∀env∈(envOfC qual scope s.heap.objs.size f cd::outer),∀b,env.frame=some b->b∈frs (envOfC qual scope s.heap.objs.size f cd::outer):=fun env he b hb=>List.mem_filterMap.mpr ⟨env,he,hb⟩
 have stk:=I.stack
 have fl:Fly P w (frs (envOfC qual scope s.heap.objs.size f cd::outer)) H1 H1 s1.heap s1.heap (PySem.W.hideAll s1.heap (frs (envOfC qual scope s.heap.objs.size f cd::outer))):=⟨Un.refl,I.hok,fun b o e _ n=>PySem.W.hideAll_get _ e n⟩
 refine wpAny_leaves_madeW (base:=PySem.W.hideAll s1.heap (frs (envOfC qual scope s.heap.objs.size f cd::outer))) (h:=s1.heap) fr rfl (fun b o q=>PySem.W.of_hideAll _ q) ?_ hx fun h'' t fw' ht hnt ups=>?_
 ·exact PySem.W.funFrames_hide stk hin
 ·have fl2:=fl.move (Tv (X:=cxOf (CXe P w) P w K mg base N qual scope f cd A outer s H E) I fl) fw'.1 (fun b hb o e=>by
   obtain⟨_,o',ho',nf⟩:=stk.mem hb
   rw[e]at ho';cases ho'
   exact ups b o (hx.keeps b o e) nf)
  have I2:Inv (cxOf (CXe P w) P w K mg base N qual scope f cd A outer s H E) pins σ H1 {s1 with heap:=h'' }:=I.call' (s':={s1 with heap:=h'' }) rfl fl2.un fl2.hok I.bare (fun b hb=>by cases hb)
  refine⟨ea,cls,.ref t,H1,_,rfl,I2.os,I2.bare,⟨I2.base,I2.hok,fun b o e h n=>fl2.cov b o e ?_ (fun z=>?_)⟩,fw',q⟩
  ·rcases h with h|⟨o',h⟩
   ·exact .inl h
   ·obtain⟨o2,e2⟩:=I.base.there b o' h (by show b∉([]:List Addr);simp)
    exact .inr ⟨o2,e2⟩
  ·rcases List.mem_cons.mp (I.stkSub b z) with e' | e'
   ·rcases h with h|⟨o',h⟩
    ·exact h (by rw[e'];exact I2.free)
    ·have:=Heap.lt_size h
     rw[e']at this
     exact absurd (Nat.lt_of_lt_of_le this I.ok.above) (Nat.lt_irrefl _)
   ·exact n e'
end
theorem Cd_ {K:Frag}{h:Heap}{C:Addr}{bmB:List Value}{newId:String}(X:K.In h)(q:excIn K C bmB newId=true):
  ∃bm N nm q bs hdct sn sub ab col dd k0 k1 k2 k3 k5 mN,h.get? C=some (excClassObj nm q C N bs bm hdct sn sub ab col dd k0 k1 k2 k3 k5 newId)/\h.Ns N mN/\mN "__init__"=none/\OwnTail h bmB bm:=by
 unfold excIn at q
 split at q
 case h_2=>cases q
 rename_i d0 c0 s0 hl
 split at q
 case h_2=>cases q
 rename_i B tl a0 a1 a2 a3 id0 a5 em es
 have g:=X C _ hl
 repeat rw[Bool.and_eq_true]at q
 rcases q with ⟨⟨⟨⟨⟨e1,e2⟩,e3⟩,e4⟩,e5⟩,e6⟩
 cases eq_of_beq e1
 cases eq_of_beq e2
 rcases s0 with ⟨l0⟩
 cases es
 rcases c0 with ⟨f0,f1,f2,f3,f4,f5,f6,f7,f8,f9,f10⟩
 cases em
 cases f10
 ·exact⟨tl,f3,f0,f4,f1,f5,f6,f7,f8,f9,d0,a0,a1,a2,a3,a5,h.nsMap f3,g,.of_isNs (isNs_of_in X e5),nsMap_none_of_in X e5 (eq_of_beq e6),tail_of_in X e4⟩
 ·cases e3
def bmV:List Value:=[.type "ValueError",.type "Exception",.type "BaseException",.type "object"]
section
variable {P:Program} {w:World} {K:PySem.W.Frag} {mg:Str->Option Value} {base:Heap} {N:List Str} {qual:Str} {scope:Scope} {f:Addr} {cd:Value} {A:Around} {outer:List Env} {s:Shared} {H:Hp} {E:XK}
def Bf_ (C:Addr)(E:XK)(ta:TA):TS:=fun _ σ H=>ta σ H fun vs H1=>vs.length<=sizeLine/\E (.ref C) none H1
theorem V1 {x:Str}{C:Addr}{newId:String}{np cpos pos:Pos}{e₀:Expr}{rest:List Expr}{ta:TA}(hm:mg x=some (.ref C))(hx:excIn K C bmV newId=true)(hg:Gl (cxOf (CXe P w) P w K mg base N qual scope f cd A outer s H E) x)
  (hn:newId = "ValueError.__new__") (ha:PA (cxOf (CXe P w) P w K mg base N qual scope f cd A outer s H E) (e₀::rest) ta)
  (he:starEach (e₀::rest) (cxOf (CXe P w) P w K mg base N qual scope f cd A outer s H E).env=(false,eval e₀ (cxOf (CXe P w) P w K mg base N qual scope f cd A outer s H E).env)::starEach rest (cxOf (CXe P w) P w K mg base N qual scope f cd A outer s H E).env:=by rfl)
  (hplain:(backTo cpos (starEach rest (cxOf (CXe P w) P w K mg base N qual scope f cd A outer s H E).env)).any (·.1)=false:=by rfl) (hd:(x==("__debug__" : Str))=false:=by decide):
  PS (cxOf (CXe P w) P w K mg base N qual scope f cd A outer s H E) (.Raise (some (.Call (.Name x np) (e₀::rest) [] cpos)) none pos) (Bf_ C E ta):=by
 intro pins s1 σ H1 D I h
 subst hn
 obtain⟨bm,Nc,nm,q,bs,hdct,sn,sub,ab,col,dd,k0,k1,k2,k3,k5,mN,hC,hN,hni,T⟩:=Cd_ I.mod.kin hx
 refine wpAny_Raise_call_subU (C:=C) (nm:=nm) (q:=q) (N:=Nc) (bs:=bs) (bm:=bm) (hdct:=hdct) (sn:=sn) (sub:=sub) (ab:=ab) (col:=col) (dd:=dd) (k0:=k0) (k1:=k1) (k2:=k2) (k3:=k3) (k5:=k5)
  PySem.F.excBase_ValueError (bmB:=bmV) (by decide +kernel) PySem.F.excBase_ValueError (mN:=mN) (T.hasType PySem.F.excBase_ValueError.hasBase) (I.ok.hd rfl) (by rw[he];show (false||(backTo cpos (starEach rest _)).any (·.1))=false;rw[hplain];rfl) hni (XS I hg hm ⟨rfl,?_⟩ hd)
 have hA:=ha cpos pins s1 σ H1 _ I h
 rw[he]at hA ⊢
 refine Calls.evalArgs_plain (thn hA fun us s2 ⟨vs,H2,I2,r2,hz,q2⟩=>⟨rfl,by rw[<-r2.length];exact hz,I2.bk _ _ hC,hN.keeps I2.bk,T.keeps I2.bk,fun h' e hm=>DH_ I2 hm q2⟩)
end
end L2
namespace L2
open PySem PySem.Spec PyProof.Rows
def excO (ea C:Addr):HO:=.ext (ExcAt ea C)
theorem Tw {X:Cx}:Jg X (.builtin "isinstance") (fun xs H Q=>∃ea C c cv b,xs=[.ref ea,c]/\H ea=some (excO ea C)/\ExcCls X.K C/\(∀u,RelV c u->u=cv)/\PySem.W.kitOne X.K (.ref C) cv=some b/\Q (.bl b) H):=by
 intro pins s σ H xs us Q I r h
 obtain⟨ea,C,c,cv,b,rfl,hea,hC,hc,hk,q⟩:=h
 obtain⟨u,w',rfl,rx,rc⟩:=vals2 r
 rw[hc _ rc]
 cases rx
 obtain⟨p,_,_⟩:=(show Bk X.prog X.w H s.heap ea (.ext (ExcAt ea C)) from I.hok ea _ hea)
 exact PySem.W.kia_one (ZO hC) I.kIn p hk (fun z=>nomatch z) fun tk=>⟨.bl b,H,I.tok tk,rfl,q⟩
end L2
namespace HT
open PySem PySem.Spec PyProof.Rows
open PySem.AutoSeq1 (wpAny_loadPart')
section
open PySem.SeqAt PySem.MeetsSeq PySem.MeetsSeq2 PySem.MeetsSeq3
theorem int_rmul_tup (a:Int)(t:Tok)(l:Addr)(items:Array Value)(n:Nat)(dd:Option Addr)(sl:Array (Option Value)):
  Meets (Builtin.«int.__rmul__» ⟨[.int a t,.ref l],[]⟩) (fun _ R s=>s.heap.get? l=some {cls:=.type "tuple",dict:=dd,data:=.seq items n,slots:=sl}/\R (.ok (.ret Value.notImplemented)) s):=
 .of_wp fun prog w A R s h=>by obtain⟨hp,g,d,tk,os⟩:=s;obtain⟨hl,h⟩:=h;wp_walk using wpAny_loadPart' hl;exact⟨_,rfl,h⟩
theorem noFill_tuple_mul:fillsNumberSlot (.type "tuple") "mul"=pure false:=by
 first|exact fillsNumberSlot_false (by decide +kernel)|(unfold fillsNumberSlot;kernel_rfl)|kernel_rfl
theorem repeat_tuple:seqRepeat? (.type "tuple")=pure (some (.builtin "tuple.__mul__")):=by
 unfold seqRepeat?
 rw[PySem.seqSlot_of (T := "tuple") (name := "__mul__") (id := "tuple.__mul__") F.slot_tuple_mul.lookup (by decide +kernel),PySem.seqSlot_of (T := "tuple") (name := "__rmul__") (id := "tuple.__rmul__") F.slot_tuple_rmul.lookup (by decide +kernel)]
 rfl
theorem tup_mul_one (l:Addr)(items:Array Value)(n:Nat)(dd:Option Addr)(sl:Array (Option Value))(u:Tok):
  Meets (Builtin.«tuple.__mul__» ⟨[.ref l,.int 1 u],[]⟩) (fun _ R s=>s.heap.get? l=some {cls:=.type "tuple",dict:=dd,data:=.seq items n,slots:=sl}/\R (.ok (.ret (Value.ref l))) s):=
 .of_wp fun prog w A R s h=>by
  obtain⟨hp,g,d,tk,os⟩:=s;obtain⟨hl,h⟩:=h
  have f1:=AutoSeq1.idx_int
  unfold Builtin.«tuple.__mul__»
  wp_walk using wpAny_loadPart' hl
  exact⟨_,rfl,h⟩
theorem tup_mul_none (l:Addr)(items:Array Value)(n:Nat)(dd:Option Addr)(sl:Array (Option Value))(x:Int)(u:Tok)(h0:¬ items.isEmpty=true)(h1:x<=0)(h2 : -(2 ^ 63)<=x):
  Meets (Builtin.«tuple.__mul__» ⟨[.ref l,.int x u],[]⟩) (fun _ R s=>s.heap.get? l=some {cls:=.type "tuple",dict:=dd,data:=.seq items n,slots:=sl}/\R (.ok (.ret (Value.ref s.heap.objs.size))) {s with heap:=s.heap.push {cls:=.type "tuple",data:=.seq #[]} }):=
 .of_wp fun prog w A R s h=>by
  obtain⟨hp,g,d,tk,os⟩:=s;obtain⟨hl,h⟩:=h
  have f1:=AutoSeq1.idx_int
  have c1:(decide (x < -(2 ^ 63:Int))||decide (x >= 2 ^ 63))=false:=by simp;omega
  have c2:(items.isEmpty||x==1)=false:=by simp at h0 ⊢;exact⟨h0,by omega⟩
  have c3:(decide (x<=0)||items.isEmpty)=true:=by simp[h1]
  unfold Builtin.«tuple.__mul__»
  wp_walk using wpAny_loadPart' hl
  rw[if_neg (by rw[c1];exact Bool.false_ne_true)]
  wp_walk using wpAny_loadPart' hl
  rw[if_neg (by rw[c2];exact Bool.false_ne_true)]
  rw[if_pos c3]
  wp_walk using wpAny_loadPart' hl
  exact⟨_,rfl,h⟩
theorem tup_mul_many (l:Addr)(items:Array Value)(n:Nat)(dd:Option Addr)(sl:Array (Option Value))(x:Int)(u:Tok)(h0:¬ items.isEmpty=true)(h1:1<x)(h2:x<2 ^ 63)(h3:items.size*x.toNat<=sizeLine):
  Meets (Builtin.«tuple.__mul__» ⟨[.ref l,.int x u],[]⟩) (fun _ R s=>s.heap.get? l=some {cls:=.type "tuple",dict:=dd,data:=.seq items n,slots:=sl}/\R (.ok (.ret (Value.ref s.heap.objs.size))) {s with heap:=s.heap.push {cls:=.type "tuple",data:=.seq ((List.replicate x.toNat items).foldl (· ++ ·) #[])} }):=
 .of_wp fun prog w A R s h=>by
  obtain⟨hp,g,d,tk,os⟩:=s;obtain⟨hl,h⟩:=h
  have f1:=AutoSeq1.idx_int
  have hs:sizeLine=16777216:=sizeLine_eq
  have c1:(decide (x < -(2 ^ 63:Int))||decide (x >= 2 ^ 63))=false:=by simp;omega
  have c2:(items.isEmpty||x==1)=false:=by simp at h0 ⊢;exact⟨h0,by omega⟩
  have c3:(decide (x<=0)||items.isEmpty)=false:=by simp at h0 ⊢;exact⟨by omega,h0⟩
  obtain⟨k,rfl⟩:∃k:Nat,x=(k:Int):=⟨x.toNat,by omega⟩
  have c4:¬ ((items.size:Int)*(k:Int) > (2 ^ 63-1) / 8):=by
   rw[Int.toNat_natCast]at h3
   have:((items.size*k:Nat):Int)=(items.size:Int)*(k:Int):=by push_cast;rfl
   omega
  have c5:Builtin.Tuple.tupleTooMany ((items.size:Int)*(k:Int))=false:=by
   unfold Builtin.Tuple.tupleTooMany
   rw[Int.toNat_natCast]at h3
   have:((items.size*k:Nat):Int)=(items.size:Int)*(k:Int):=by push_cast;rfl
   simp
   omega
  unfold Builtin.«tuple.__mul__»
  wp_walk using wpAny_loadPart' hl
  rw[if_neg (by rw[c1];exact Bool.false_ne_true)]
  wp_walk using wpAny_loadPart' hl
  rw[if_neg (by rw[c2];exact Bool.false_ne_true)]
  rw[if_neg (by rw[c3];exact Bool.false_ne_true),if_neg c4,if_neg (by rw[c5];exact Bool.false_ne_true)]
  wp_walk using wpAny_loadPart' hl
  have hz:¬ (List.foldl (fun x1 x2=>x1++x2) #[] (List.replicate ((k:Int)).toNat items)).size > sizeLine:=by
   have:=L2.foldl_rep items.toList k []
   rw[List.nil_append]at this
   have e:items.toList.toArray=items:=by simp
   rw[e]at this
   rw[Int.toNat_natCast,this,List.size_toArray,L2.len_rep]
   rw[Int.toNat_natCast]at h3
   rw[Array.length_toList,Nat.mul_comm]
   omega
  rw[if_neg hz]
  wp_walk using wpAny_loadPart' hl
  exact⟨_,rfl,h⟩
end
end HT
namespace L2
open PySem PySem.Spec PyProof.Rows
section
variable {X:Cx}
def PY (K:PySem.W.Frag):R2:=fun x y H Q=>∃l k xs,x=.ref l/\y=.int k/\SqT K H l xs/\xs ≠ [] /\ -(2 ^ 63)<=k/\k<2 ^ 63/\xs.length*k.toNat<=sizeLine /\
 (k=1->Q (.ref l) H)/\(k≠1->∀p,H p=none->Q (.ref p) (upd H p (.tup (List.replicate k.toNat xs).flatten)))
theorem PZ:OpR X (binaryOp .Mult) (PY X.K):=by
 intro pins s σ H x y v u Q I rx ry h
 obtain⟨l,k,xs,rfl,rfl,hq,hne,h1,h2,hz,q1,q2⟩:=h
 cases rx
 obtain⟨t,rfl⟩:=ry
 obtain⟨its,r,p1,_⟩:=I.tuple hq
 have hlen:=r.length
 have hn':¬ its.toArray.isEmpty=true:=by
  intro z
  have:its=[]:=by simpa using z
  exact hne (r.nil_iff.mp this)
 obtain⟨⟨cls,dd,data,sl⟩,ho,hc,n,hd⟩:=id p1
 simp only at hc hd
 subst hc hd
 refine wpAny_binaryOp_repeat_ref (T := "tuple") (U := "int") (by decide) ⟨_,ho,rfl⟩ (fun s'=>typeIs_int s' k t) HT.noFill_tuple_mul F.fills_int_mul F.slot_int_rmul HT.repeat_tuple F.slot_int_index.lookup
  (call_meets F.slot_int_rmul (typeIs_int s k t) F.entry_int_rmul (F.args_int_rmul_2 _ _) (HT.int_rmul_tup k t l its.toArray n dd sl) ⟨ho,rfl,⟨_,ho,rfl⟩,?_⟩)
 by_cases k1:k=1
 ·subst k1
  exact call_meets F.slot_tuple_mul ⟨_,ho,rfl⟩ F.entry_tuple_mul (F.args_tuple_mul_2 _ _) (HT.tup_mul_one l its.toArray n dd sl t) ⟨ho,⟨.ref l,H,I,rfl,q1 rfl⟩⟩
 ·have fin:∀(ys:List Value),Vals (List.replicate k.toNat xs).flatten ys->EP X pins σ Q (.ref s.heap.objs.size) {s with heap:=s.heap.push {cls:=.type "tuple",data:=.seq ys.toArray} }:=fun ys rv=>
   ⟨.ref s.heap.objs.size,_,I.laid (t':=s.toks) (o:=.tup (List.replicate k.toNat xs).flatten) (fun b ob q=>Heap.get?_push_of_some _ q) (Nat.le_refl _) ⟨by rw[len_rep,Nat.mul_comm];exact hz,_,rv,IsTup.new _ _⟩,rfl,q2 k1 _ (I.hok.fresh (Nat.le_refl _))⟩
  by_cases k0:k<=0
  ·refine call_meets F.slot_tuple_mul ⟨_,ho,rfl⟩ F.entry_tuple_mul (F.args_tuple_mul_2 _ _) (HT.tup_mul_none l its.toArray n dd sl k t hn' k0 h1) ⟨ho,?_⟩
   exact fin [] (by rw[show k.toNat=0 by omega];exact .nil)
  ·refine call_meets F.slot_tuple_mul ⟨_,ho,rfl⟩ F.entry_tuple_mul (F.args_tuple_mul_2 _ _) (HT.tup_mul_many l its.toArray n dd sl k t hn' (by omega) h2 (by rw[List.size_toArray,<-hlen];exact hz)) ⟨ho,?_⟩
   have e:=foldl_rep its k.toNat []
   rw[List.nil_append]at e
   have e':List.foldl (fun x1 x2=>x1++x2) #[] (List.replicate k.toNat its.toArray)=(List.replicate k.toNat its).flatten.toArray:=e
   rw[e']
   exact fin _ (r.rep k.toNat)
def DH (K:PySem.W.Frag):R2:=fun x y H Q=>∃a b xs ys,x=.ref a/\y=.ref b/\SqT K H a xs/\SqT K H b ys/\xs.length+ys.length<=sizeLine /\
 (xs=[]->Q (.ref b) H)/\(xs ≠ []->ys=[]->Q (.ref a) H)/\(xs ≠ []->ys ≠ []->∀p,H p=none->Q (.ref p) (upd H p (.tup (xs++ys))))
theorem DM:OpR X (binaryOp .Add) (DH X.K):=by
 intro pins s σ H x y v u Q I rx ry h
 obtain⟨a,b,xs,ys,rfl,rfl,ha,hb,hz,q0,q1,q2⟩:=h
 by_cases hx:xs=[]
 ·subst hx
  cases rx
  cases ry
  obtain⟨its,r1,p1,_⟩:=I.tuple ha
  obtain⟨its2,r2,p2,_⟩:=I.tuple hb
  have:its=[]:=r1.nil_iff.mpr rfl
  subst this
  obtain⟨⟨cls,dd,data,sl⟩,ho,hc,n,hd⟩:=id p1
  obtain⟨⟨cls2,dd2,data2,sl2⟩,ho2,hc2,n2,hd2⟩:=id p2
  simp only at hc hd hc2 hd2
  subst hc hd hc2 hd2
  exact concat_meets ⟨_,ho,rfl⟩ ⟨_,ho2,rfl⟩ noFill_tuple_add seq_tuple_add PySem.F.slot_tuple_add PySem.F.entry_tuple_add (PySem.F.args_tuple_add_2 _ _)
   (PyProof.Rows.tuple_addW0 a b _ _ n n2 dd dd2 sl sl2 rfl) ⟨ho,ho2,⟨.ref b,H,I,rfl,q0 rfl⟩⟩
 ·exact BS_ pins s σ H _ _ v u Q I rx ry ⟨a,b,xs,ys,rfl,rfl,ha,hb,hx,hz,q1 hx,q2 hx⟩
end
theorem Yv {c:TT}{tb:TS}{D:Ends}{σ:St}{H:Hp}(Pv:Nat->St->Hp->Prop)(h0:∃m,Pv m σ H)
  (hs:∀m σ H,Pv m σ H->c σ H fun b H1=>if b=true then ∃N:St->Hp->Prop,(∀σ' H',N σ' H'->∃m',m'<m/\Pv m' σ' H')/\tb {D with nx:=N,ct:=N,bk:=D.nx} σ H1 else D.nx σ H1):AM_ c tb D σ H:=⟨Pv,h0,hs⟩
section
variable {K:PySem.W.Frag} {H:Hp} {Q:VK}
theorem PY.of {l:Addr}{k:Int}{xs:List V}(hq:SqT K H l xs)(hne:xs ≠ [])(h1 : -(2 ^ 63)<=k)(h2:k<2 ^ 63)(hz:xs.length*k.toNat<=sizeLine)(h:∀p H',Same H H'->SqT K H' p (List.replicate k.toNat xs).flatten->Q (.ref p) H'):PY K (.ref l) (.int k) H Q:=by
 refine⟨l,k,xs,rfl,rfl,hq,hne,h1,h2,hz,fun e=>?_,fun _ p hp=>h p _ (Same.new hp) (SqT.of Ac)⟩
 subst e
 exact h l H (Same.refl _) (by simpa using hq)
theorem DH.of {a b:Addr}{xs ys:List V}(ha:SqT K H a xs)(hb:SqT K H b ys)(hz:xs.length+ys.length<=sizeLine)(h:∀p H',Same H H'->SqT K H' p (xs++ys)->Q (.ref p) H'):DH K (.ref a) (.ref b) H Q:=by
 refine⟨a,b,xs,ys,rfl,rfl,ha,hb,hz,fun e=>?_,fun _ e=>?_,fun _ _ p hp=>h p _ (Same.new hp) (SqT.of Ac)⟩
 ·subst e;exact h b H (Same.refl _) (by simpa using hb)
 ·subst e;exact h a H (Same.refl _) (by simpa using ha)
end
theorem DI_ {K:PySem.W.Frag}{H:Hp}{Q:VK}{x:V}{lo hi:Option Int}:rSlT K x lo hi H Q=∃a xs,x=.ref a/\SqT K H a xs /\
 ¬ (HT.sIx xs.length 0 lo=0/\HT.sIx xs.length xs.length hi=xs.length)/\∀p,H p=none->Q (.ref p) (upd H p (.tup (cutV xs lo hi))):=rfl
inductive TyW (K:PySem.W.Frag)(H:Hp):V->Value->Prop where
 | non:TyW K H .non (.type "NoneType")
 | bl (x:Bool):TyW K H (.bl x) (.type "bool")
 | int (i:Int):TyW K H (.int i) (.type "int")
 | str (x:Str):TyW K H (.str x) (.type "str")
 | lst {a:Addr} {xs:List V} (e:SqL K H a xs):TyW K H (.ref a) (.type "list")
 | tup {a:Addr} {xs:List V} (e:SqT K H a xs):TyW K H (.ref a) (.type "tuple")
 | exc {a C:Addr} (e:H a=some (excO a C)) (c:ExcCls K C):TyW K H (.ref a) (.ref C)
theorem Cm {X:Cx}:Jg X (.builtin "isinstance") (fun xs H Q=>∃x c cv t b,xs=[x,c]/\TyW X.K H x t/\(∀u,RelV c u->u=cv)/\PySem.W.kitOne X.K t cv=some b/\Q (.bl b) H):=by
 intro pins s σ H xs us Q I r h
 obtain⟨x,c,cv,t,b,rfl,ty,hc,hk,q⟩:=h
 cases ty with
 |non=>exact GC pins s σ H _ us Q I r ⟨_,c,cv,_,b,rfl,.non,hc,hk,q⟩
 |bl y=>exact GC pins s σ H _ us Q I r ⟨_,c,cv,_,b,rfl,.bl y,hc,hk,q⟩
 |int y=>exact GC pins s σ H _ us Q I r ⟨_,c,cv,_,b,rfl,.int y,hc,hk,q⟩
 |str y=>exact GC pins s σ H _ us Q I r ⟨_,c,cv,_,b,rfl,.str y,hc,hk,q⟩
 |exc e hC=>exact Tw pins s σ H _ us Q I r ⟨_,_,c,cv,b,rfl,e,hC,hc,hk,q⟩
 |@lst a xs e=>
  obtain⟨u,w',rfl,rx,rc⟩:=vals2 r
  rw[hc _ rc]
  cases rx
  obtain⟨its,_,pl,_⟩:=I.list e
  obtain⟨o,ho,hcl,_⟩:=pl.isList
  exact PySem.W.kia_one PySem.W.kitx_list I.kIn ⟨o,ho,hcl⟩ hk (fun z=>nomatch z) fun tk=>⟨.bl b,H,I.tok tk,rfl,q⟩
 |@tup a xs e=>
  obtain⟨u,w',rfl,rx,rc⟩:=vals2 r
  rw[hc _ rc]
  cases rx
  obtain⟨its,_,⟨o,ho,hcl,_⟩,_⟩:=I.tuple e
  exact PySem.W.kia_one PySem.W.kitx_tuple I.kIn ⟨o,ho,hcl⟩ hk (fun z=>nomatch z) fun tk=>⟨.bl b,H,I.tok tk,rfl,q⟩
end L2
namespace GW
def CO (L:Int):List Int->Int
 |[]=>0
 |x::r=>CO L r*L+x+1
def place (L:Int)(w:List Int):Int:=CO L w.reverse
def inW (L x:Int):Bool:=decide (0<=x)&&decide (x<L)
def isW (L:Int)(ws:List Int):Bool:=ws.all (inW L)
theorem Ce_ {L x:Int}:inW L x=true↔0<=x/\x<L:=by simp[inW]
theorem Bl {L:Int}{ws:List Int}:isW L ws=true ↔ ∀x∈ws,0<=x/\x<L:=by simp[isW,Ce_]
theorem Tx (L:Int):place L []=0:=rfl
def many (L:Int):Nat->Int
 |0=>0
 |k+1=>many L k*L+1
theorem Fp {L:Int}(hL:0<L):∀k,0<=many L k
 |0=>Int.le_refl _
 |k+1=>by
  have:=Int.mul_nonneg (Fp hL k) (Int.le_of_lt hL)
  show 0<=many L k*L+1
  omega
theorem Fc {L:Int}(hL:0<L):∀{l:List Int},(∀x∈l,0<=x/\x<L)->many L l.length<=CO L l/\CO L l<many L (l.length+1)
 |[],_=>by simp[CO,many]
 |x::r,h=>by
  have hx:=h x List.mem_cons_self
  obtain⟨h1,h2⟩:=Fc hL (l:=r) fun y hy=>h y (List.mem_cons_of_mem _ hy)
  show many L r.length*L+1<=CO L r*L+x+1/\CO L r*L+x+1<many L (r.length+1)*L+1
  have a1:=Int.mul_le_mul_of_nonneg_right h1 (Int.le_of_lt hL)
  have a2:=Int.mul_le_mul_of_nonneg_right (show CO L r+1<=many L (r.length+1) by omega) (Int.le_of_lt hL)
  rw[Int.add_mul]at a2
  omega
theorem LP {L:Int}(hL:0<L){w:List Int}(h:isW L w=true):many L w.length<=place L w/\place L w<many L (w.length+1):=by
 have:=Fc hL (l:=w.reverse) (fun x hx=>Bl.mp h x (List.mem_reverse.mp hx))
 rw[List.length_reverse]at this
 exact this
theorem Gp (L:Int)(w:List Int)(x:Int):place L (w++[x])=place L w*L+x+1:=by
 unfold place
 rw[List.reverse_append];rfl
end GW
namespace PySem
section
variable {prog:Program} {w:World} {A:Around} {E:Value->Shared->Prop} {s:Shared}
abbrev lsO (acc:Array Value)(c:Nat):Obj:={cls:=.type "list",dict:=none,data:=.seq acc c,slots := #[]}
def KP (wr:Addr->Prop)(h h':Heap):Prop:=∀b o,¬ wr b->h.get? b=some o->h'.get? b=some o
structure Gat (prog:Program)(w:World)(s:Shared)(r I:Addr)(T:String)(n:Nat)(wr:Addr->Prop)(J:Nat->List Value->Heap->Prop)(Fn:List Value->Heap->Prop):Prop where
 type:s.TypeIs (.ref r) T
 nl:(Value.type T==Value.type "list")=false
 nt:(Value.type T==Value.type "tuple")=false
 le:n<=sizeLine
 hint:∀(A:Around) (t:Shared) (Q:Bool->Shared->Prop) (E:Value->Shared->Prop),(∀b o,s.heap.get? b=some o->t.heap.get? b=some o)->(∀b tk,Q b {t with toks:=tk})->wpAny (model prog w) A (Builtin.List.listLengthHint (.ref r)) Q E t
 iter:∀(A:Around) (h1:Heap) (Q:Value->Shared->Prop) (E:Value->Shared->Prop),(∀b o,s.heap.get? b=some o->h1.get? b=some o)->h1.objs.size=s.heap.objs.size+1->(∀h',J 0 [] h'->(∀b o,h1.get? b=some o->h'.get? b=some o)->Q (.ref I) {s with heap:=h' })->wpAny (model prog w) A (pyIter (.ref r)) Q E {s with heap:=h1}
 next:∀(A:Around) i acc (t:Shared) (Q:Option Value->Shared->Prop) (E:Value->Shared->Prop),A.handled=none->J i acc t.heap->acc.length=i->i<=n->s.heap.objs.size<t.heap.objs.size ->
  (∀v h' tk,i<n->J (i+1) (acc++[v]) h'->KP wr t.heap h'->Q (some v) {t with heap:=h',toks:=tk})->(∀h' tk,i=n->Fn acc h'->KP wr t.heap h'->Q none {t with heap:=h',toks:=tk})->wpAny (model prog w) A (pyNext (.ref I)) Q E t
 frame:∀i acc h h',J i acc h->(∀b o,b≠s.heap.objs.size->h.get? b=some o->h'.get? b=some o)->J i acc h'
 nw:¬ wr s.heap.objs.size
variable {I r:Addr} {T:String} {n:Nat} {wr:Addr->Prop} {J:Nat->List Value->Heap->Prop} {Fn:List Value->Heap->Prop} {R:Result->Shared->Prop} {res:Value}
theorem Gat.loop (G:Gat prog w s r I T n wr J Fn)(hh:A.handled=none)
  (hR:∀h' tk acc c,Fn acc h'->acc.length=n->h'.get? s.heap.objs.size=some (lsO acc.toArray c)->KP wr s.heap h'->R (.ok (.ret res)) {s with heap:=h',toks:=tk}):
  ∀(k:Nat) (h:Heap) (tk c:Nat) (acc:List Value),n-acc.length=k->acc.length<=n->J acc.length acc h->h.get? s.heap.objs.size=some (lsO acc.toArray c)->KP wr s.heap h->codeAny (model prog w) A (.builtin "list.extend.loop" ⟨[.ref s.heap.objs.size,.ref I,res],[]⟩) R {s with heap:=h,toks:=tk}:=by
 intro k
 induction k with
 |zero=>
  intro h tk c acc hk hi j hS kp
  refine codeAny_builtin F.entry_extend_loop ?_
  rw[Around.under_plainId F.plain_extend_loop _]
  refine wpAny_bind (G.next A.in1 _ acc {s with heap:=h,toks:=tk} _ _ hh j rfl hi (Heap.lt_size hS) (fun v h' tk l=>by omega) fun h' tk e j' kk=>?_)
  exact wpAny_pure (hR h' tk acc c j' (by omega) (kk _ _ G.nw hS) fun b o m q=>kk b o m (kp b o m q))
 |succ k ih=>
  intro h tk c acc hk hi j hS kp
  refine codeAny_builtin F.entry_extend_loop ?_
  rw[Around.under_plainId F.plain_extend_loop _]
  refine wpAny_bind (G.next A.in1 _ acc {s with heap:=h,toks:=tk} _ _ hh j rfl hi (Heap.lt_size hS) (fun v h' tk l j' kk=>?_) fun h' tk e=>by omega)
  have hS':=kk _ _ G.nw hS
  have up:∀b o,b≠s.heap.objs.size->h'.get? b=some o->(h'.update s.heap.objs.size (Obj.mapSeq (·.push v))).get? b=some o:=fun b o m q=>(Heap.get?_update_other _ _ (Ne.symm m)).trans q
  have hl:(acc++[v]).length=acc.length+1:=by simp
  have:=G.le
  obtain⟨c',hS2⟩:∃c',(h'.update s.heap.objs.size (Obj.mapSeq (·.push v))).get? s.heap.objs.size=some (lsO (acc++[v]).toArray c'):=⟨_,by rw[<-List.push_toArray];exact Heap.get?_update_self _ hS' rfl⟩
  exact wpAny_bind (wpAny_updateSeq hS' rfl (wpAny_pure ⟨plainId_quiet F.plain_extend_loop _,ih _ tk c' (acc++[v]) (by omega) (by omega) (by rw[hl];exact G.frame _ _ _ _ j' up) hS2 fun b o m q=>up b o (Nat.ne_of_lt (Heap.lt_size q)) (kk b o m (kp b o m q))⟩) (by simp;omega))
theorem Gat.extend {Z:Fin->Shared->Prop}{c₀:Nat}{h1:Heap}(G:Gat prog w s r I T n wr J Fn)(hh:A.handled=none)(k1:∀b o,s.heap.get? b=some o->h1.get? b=some o)(hz:h1.objs.size=s.heap.objs.size+1)(hS:h1.get? s.heap.objs.size=some (lsO #[] c₀))
  (hZ:∀c t,c.quiet=true->codeAny (model prog w) A c R t->Z (.again c) t)
  (hR:∀h' tk acc c,Fn acc h'->acc.length=n->h'.get? s.heap.objs.size=some (lsO acc.toArray c)->KP wr s.heap h'->R (.ok (.ret res)) {s with heap:=h',toks:=tk}):
  wpAny (model prog w) A.in1 (Builtin.List.listExtendWith (.ref s.heap.objs.size) (.ref r) res) Z E {s with heap:=h1}:=by
 have hr:r<s.heap.objs.size:=let ⟨_,ho,_⟩:=G.type;Heap.lt_size ho
 have e1:Builtin.List.listSameRef (.ref s.heap.objs.size) (.ref r)=false:=by simp[Builtin.List.listSameRef,Nat.ne_of_gt hr]
 have hT:Shared.TypeIs {s with heap:=h1} (.ref r) T:=let ⟨o,ho,x⟩:=G.type;⟨o,k1 _ _ ho,x⟩
 have oth:∀(h:Heap) f b o,b≠s.heap.objs.size->h.get? b=some o->(h.update s.heap.objs.size f).get? b=some o:=fun h f b o n q=>(Heap.get?_update_other _ _ (Ne.symm n)).trans q
 have go:∀(h:Heap) c tk,J 0 [] h->h.get? s.heap.objs.size=some (lsO #[] c)->(∀b o,b≠s.heap.objs.size->h1.get? b=some o->h.get? b=some o)->Z (.again (.builtin "list.extend.loop" ⟨[.ref s.heap.objs.size,.ref I,res],[]⟩)) {s with heap:=h,toks:=tk}:=fun h c tk j q k=>
  hZ _ _ (plainId_quiet F.plain_extend_loop _) (G.loop hh hR n h tk c [] rfl (Nat.zero_le _) j q fun b o _ x=>k b o (Nat.ne_of_lt (Heap.lt_size x)) (k1 b o x))
 unfold Builtin.List.listExtendWith
 refine wpAny_bind (wpAny_typeOf hT ?_)
 simp only[e1,G.nl,G.nt,Bool.or_false,Bool.false_eq_true,if_false]
 refine wpAny_bind (G.iter A.in1 h1 _ _ k1 hz fun h' j kk=>wpAny_bind (wpAny_holding (G.hint A.in1 _ _ _ (fun b o q=>kk b o (k1 b o q)) fun bb tk=>?_)))
 have hS':=kk _ _ hS
 refine wpAny_ite_split (fun _=>?_) fun _=>wpAny_pure (go h' c₀ tk j hS' fun b o _ q=>kk b o q)
 wp_walk
 exact go _ _ tk (G.frame _ _ _ _ (G.frame _ _ _ _ j fun b o m q=>oth _ _ b o m q) fun b o m q=>oth _ _ b o m q) (Heap.get?_update_self _ (Heap.get?_update_self _ hS' rfl) rfl) fun b o m q=>oth _ _ b o m (oth _ _ b o m (kk b o q))
theorem Gat.collect {Q:List Value->Shared->Prop}(G:Gat prog w s r I T n wr J Fn)(hh:A.handled=none)(hQ:∀h' tk acc,Fn acc h'->acc.length=n->KP wr s.heap h'->Q acc {s with heap:=h',toks:=tk}):wpAny (model prog w) A (collect (.ref r)) Q E s:=by
 have hS:(s.heap.push (lsO #[] 0)).get? s.heap.objs.size=some (lsO #[] 0):=Heap.get?_push_size _ rfl
 unfold PySem.collect
 refine wpAny_bind (wpAny_runValue (codeAny_builtin F.entry_proto_collect ?_))
 rw[Around.under_plainId F.plain_proto_collect _]
 wp_walk
 refine⟨plainId_quiet F.plain_list_iadd _,codeAny_builtin F.entry_list_iadd ?_⟩
 rw[Around.under_plainId F.plain_list_iadd _]
 refine G.extend hh (fun b o e=>Heap.get?_push_of_some _ e) (Heap.size_push ..) hS (fun _ _ a b=>⟨a,b⟩) fun h' tk acc c k1 k2 k3 k4=>?_
 exact wpAny_bind (wpAny_load k3 (wpAny_pure (hQ h' tk acc k1 k2 k4)))
theorem Gat.tuple {Q:Value->Shared->Prop}(G:Gat prog w s r I T n wr J Fn)(hh:A.handled=none)
  (hQ:∀(h':Heap) tk acc,Fn acc h'->acc.length=n->KP wr s.heap h'->Q (.ref h'.objs.size) {s with heap:=h'.push {cls:=.type "tuple",data:=.seq acc.toArray},toks:=tk}):wpAny (model prog w) A (call (.type "tuple") [.ref r]) Q E s:=by
 have hsub:=sub_tuple_self
 have hinit:=init_tuple_lookup
 have hmh:=madeHere_tuple
 have hT:=G.type
 refine callType_codes (Q₁:=fun obj s₁=>s₁.TypeIs obj "tuple" /\ Q obj s₁) F.called_tuple (F.typeCall_tuple_1 _) F.entry_object_init ?_ fun obj s₁ h₁=>⟨h₁.1,F.args_object_init_2 obj _,object_init_meets F.called_tuple.init.lookup F.called_tuple.made (by decide) prog w A.in1 _ s₁ ⟨h₁.1,rfl,h₁.2⟩⟩
 refine codeAny_of_tree (wpAny_bind (wpAny_of_eq (F.newCall_tuple_1 _) (wpAny_pure ⟨plainId_quiet F.plain_tuple_new _,codeAny_builtin F.entry_tuple_new ?_⟩)))
 rw[Around.under_plainId F.plain_tuple_new _]
 have h2:A.in1.in1.handled=none:=hh
 have n1:=G.nl
 have n2:=G.nt
 wp_walk using wpAny_typeOf hT,G.collect h2
 intro h' tk acc k1 k2 k3
 have hl:acc.length<=sizeLine:=k2 ▸ G.le
 have q:=hQ h' tk acc k1 k2 k3
 clear k2
 wp_walk
 exact⟨⟨_,Heap.get?_push_size _ rfl,rfl⟩,q⟩
theorem Gat.ofWalks {fp wl:List Addr}{P:Nat->Value->Prop}{St:Nat->Heap->Prop}(W:∀A:Around,A.handled=none->Walks prog w A I fp wl n P St)(hh:A.handled=none)(hf:s.heap.objs.size∉fp)(ty:s.TypeIs (.ref r) T)(nl:(Value.type T==Value.type "list")=false)(nt:(Value.type T==Value.type "tuple")=false)(le:n<=sizeLine)
  (hint:∀(A:Around) (t:Shared) (Q:Bool->Shared->Prop) (E:Value->Shared->Prop),(∀b o,s.heap.get? b=some o->t.heap.get? b=some o)->(∀b tk,Q b {t with toks:=tk})->wpAny (model prog w) A (Builtin.List.listLengthHint (.ref r)) Q E t)
  (iter:∀(A:Around) (h1:Heap) (Q:Value->Shared->Prop) (E:Value->Shared->Prop),(∀b o,s.heap.get? b=some o->h1.get? b=some o)->h1.objs.size=s.heap.objs.size+1->(∀h',St 0 h'->(∀b o,h1.get? b=some o->h'.get? b=some o)->Q (.ref I) {s with heap:=h' })->wpAny (model prog w) A (pyIter (.ref r)) Q E {s with heap:=h1}):
  Gat prog w s r I T n (· ∈ wl) (fun i acc h=>St i h/\∀(j:Nat) v,acc[j]?=some v->P j v) (fun acc _=>∀(j:Nat) v,acc[j]?=some v->P j v) where
 type:=ty
 nl:=nl
 nt:=nt
 le:=le
 hint:=hint
 iter:=fun A h1 Q E k z q=>iter A h1 Q E k z fun h' st=>q h' ⟨st,fun j v e=>by simp at e⟩
 next:=fun A i acc t Q E hh j hl hi _ q1 q2=>by
  have W:=W A hh
  rcases Nat.lt_or_ge i n with l|l
  ·refine W.item i t Q E l j.1 fun v h' tk p st' k=>q1 v h' tk l ⟨st',fun m u e=>?_⟩ k
   rcases Nat.lt_or_ge m acc.length with a|a
   ·rw[List.getElem?_append_left a]at e
    exact j.2 m u e
   ·have:=(List.getElem?_eq_some_iff.mp e).1
    obtain rfl:m=i:=by simp at this;omega
    rw[List.getElem?_append_right a,hl,Nat.sub_self]at e
    exact (show v=u by simpa using e) ▸ p
  ·obtain rfl:i=n:=by omega
   exact W.done t Q E j.1 fun h' tk k=>q2 h' tk rfl j.2 k
 frame:=fun i acc h h' j k=>⟨(W A hh).frame _ _ _ j.1 fun b hb o q=>k b o (fun z=>hf (z ▸ hb)) q,j.2⟩
 nw:=fun m=>hf ((W A hh).sub _ m)
end
end PySem
namespace PySem
open Sem (wp)
open AutoSeq1 (wpAny_loadPart')
section
variable {prog:Program} {w:World} {A:Around} {E:Value->Shared->Prop} {s:Shared}
theorem Yw {items:Array Value}{acc:List Value}(l:acc.length=items.size)(h:∀(j:Nat) v,acc[j]?=some v->items[items.size-1-j]?=some v):ItemsOf (fun i v=>items[items.size-1-i]?=some v) acc.toArray items.size:=⟨by simpa using l,fun i v e=>h i v (by simpa using e)⟩
end
end PySem
namespace L2
open PySem PySem.Spec PyProof.Rows
section
variable {P:Program} {w:World} {K:PySem.W.Frag} {mg:Str->Option Value} {base:Heap}
theorem Fun.okE {x qual:Str}{st:Stmt}{f:Addr}{fd:FuncData}{N ps:List Str}{k:Nat}{sp:Sp}(F:Fun K x qual st f fd)(S:FnScope N ps (Ae st))(len:∀vs H Q E,sp vs H Q E->vs.length=ps.length)
  (hbody:∀(cdv:Value) (A:Around) (outer:List Env) (s:Shared) (H:Hp) (vs:List V) (Q:VK) (E:XK),Room k (A.deeper (envOfC qual (Ae st) s.heap.objs.size f cdv))->sp vs H Q E ->
   ∃t,PSs (cxOf (CXe P w) P w K mg base N qual (Ae st) f cdv A outer s H E) (Am st) t/\t {nx:=fun _ H'=>Q .non H',rt:=Q} (start N vs) H):FnOk P w K mg base (CXe P w) (k+1) f fd ps sp:=by
 obtain⟨oc,od,kV,doc,pm,an,cdv,ct,osl,rfl,lk,hcd⟩:=F.ex
 exact Df_ lk hcd S len fun A outer s H vs Q E hr hsp=>hbody cdv A outer s H vs Q E hr hsp
theorem Vb {X:Cx}:Tj (CXe P w) X E0:=fun _ _ _ _ _ _ _ h=>by
 obtain⟨_,_,_,_,_,_,_,_,_,_,q⟩:=h
 exact q.elim
end
section
variable {te ta tb:TE} {A:TA} {D:Ends} {σ:St} {H:Hp} {Q:VK} {K:PySem.W.Frag} {tbd ts:TS}
theorem DJ_ {x y:V}:rCat x y H Q=∃l b xs zs,x=.ref l/\y=.ref b/\H l=some (.lst xs)/\H b=some (.lst zs)/\xs.length+zs.length<=sizeLine/\∀p,H p=none->Q (.ref p) (upd H p (.lst (xs++zs))):=rfl
theorem Yx {C:Addr}{E:XK}:Bf_ C E A D σ H=A σ H fun vs H1=>vs.length<=sizeLine/\E (.ref C) none H1:=rfl
end
section
variable {X:Cx} {tg:Expr}
theorem Yy {xs:List V}{its:List Value}{acc:Array Value}(rv:Vals xs its)(h:ItemsOf (fun i v=>its.toArray[its.toArray.size-1-i]?=some v) acc its.toArray.size):Vals xs.reverse acc.toList:=by
 have hl:=rv.length
 have e:acc.toList=its.reverse:=by
  apply List.ext_getElem?
  intro i
  by_cases hi:i<its.length
  ·have hs:acc.size=its.length:=by rw[h.1,List.size_toArray]
   have:=h.2 i acc[i] (by simp[hs,hi])
   rw[List.size_toArray]at this
   rw[List.getElem?_reverse hi]
   have z:its[its.length-1-i]?=some acc[i]:=by simpa using this
   rw[z];simp[hs,hi]
  ·have hs:acc.size=its.length:=by rw[h.1,List.size_toArray]
   rw[List.getElem?_eq_none (by simp;omega),List.getElem?_eq_none (by simp;omega)]
 rw[e]
 exact rv.reverse
end
end L2
namespace L2
open PySem PySem.Spec PyProof.Rows
theorem Cf_ (x y:Int):eqV (.int x) (.int y)=decide (V.int x=V.int y):=by
 by_cases h:x=y
 ·subst h;simp[eqV]
 ·rw[decide_eq_false (fun z=>h (by injection z))];simp[eqV,h]
theorem EqD.ints {K:PySem.W.Frag}{H:Hp}{a c:Addr}{xs ys:List Int}(hq:(SqL K H a (xs.map V.int)/\SqL K H c (ys.map V.int))\/(SqT K H a (xs.map V.int)/\SqT K H c (ys.map V.int)))(n:Nat):EqD K H (n+1) (.ref a) (.ref c) (decide (xs=ys)):=by
 have:=EqD.flat hq (fun x hx=>by obtain⟨_,_,rfl⟩:=J8 hx;rfl) (fun x hx=>by obtain⟨_,_,rfl⟩:=J8 hx;rfl) (fun x hx y hy=>by obtain⟨_,_,rfl⟩:=J8 hx;obtain⟨_,_,rfl⟩:=J8 hy;exact Cf_ _ _) n
 have e:decide (xs.map V.int=ys.map V.int)=decide (xs=ys):=by
  rw[Bool.eq_iff_iff]
  simp only[decide_eq_true_eq]
  constructor
  ·intro h
   exact (List.map_inj_right (fun a b h=>by injection h)).mp h
  ·intro h;rw[h]
 rw[e]at this
 exact this
end L2
namespace L2
open PySem PySem.Spec PyProof.Rows
def iSeq (K:PySem.W.Frag)(tl:TE):TI:=fun σ H R=>tl σ H fun x H1=>∃a,x=.ref a/\(((∃xs,SqL K H1 a xs)/\R (Itl K a) H1)\/((∃xs,SqT K H1 a xs)/\R (Itt K a) H1))
theorem Bg_ {K:PySem.W.Frag}{te:TE}{σ:St}{H:Hp}{Z:It->Hp->Prop}:iSeq K te σ H Z=te σ H fun x H1=>∃a,x=.ref a/\(((∃xs,SqL K H1 a xs)/\Z (Itl K a) H1)\/((∃xs,SqT K H1 a xs)/\Z (Itt K a) H1)):=rfl
theorem Yz {X:Cx}{tg l:Expr}{tl:TE}(hl:PE X l tl):PI X tg l (iSeq X.K tl):=by
 intro pins s σ H R I h
 refine thn (hl pins s σ H _ I h) fun v s1 ⟨x,H1,I1,r1,q1⟩=>?_
 obtain⟨a,e,q⟩:=q1
 subst e
 cases r1
 rcases q with ⟨⟨xs,hq⟩,q⟩|⟨⟨xs,hq⟩,q⟩
 ·obtain⟨its,rv,p,hz⟩:=I1.list hq
  refine wpAny_pyIter_list p.isList ?_
  refine⟨s1.heap.objs.size,[s1.heap.objs.size],_,_,H1,rfl,I1.kept (t':=s1.toks) fun b o e=>Heap.get?_push_of_some _ e,Th a _,⟨_,Heap.get?_push_size _ rfl,rfl,rfl⟩,fun b hb=>?_,q⟩
  have e:b=s1.heap.objs.size:=by simpa using hb
  subst e
  exact I1.fpOk (Nat.le_refl _) (I1.hok.fresh (Nat.le_refl _))
 ·obtain⟨its,rv,p,hz⟩:=I1.tuple hq
  refine wpAny_pyIter_tuple (show s1.heap.IsTuple a its.toArray from p) ?_
  refine⟨s1.heap.objs.size,[s1.heap.objs.size],_,_,H1,rfl,I1.kept (t':=s1.toks) fun b o e=>Heap.get?_push_of_some _ e,OZ a _,⟨_,Heap.get?_push_size _ rfl,rfl,rfl⟩,fun b hb=>?_,q⟩
  have e:b=s1.heap.objs.size:=by simpa using hb
  subst e
  exact I1.fpOk (Nat.le_refl _) (I1.hok.fresh (Nat.le_refl _))
end L2
namespace GW
theorem YA {L:Int}(hL:0<L):∀{xs ys:List Int},isW L xs=true->isW L ys=true->place L xs=place L ys->xs=ys:=by
 have key:∀{l m:List Int},(∀x∈l,0<=x/\x<L)->(∀x∈m,0<=x/\x<L)->CO L l=CO L m->l=m:=by
  intro l
  induction l with
  |nil=>
   intro m _ hm h
   cases m with
   |nil=>rfl
   |cons y s=>
    have hy:=hm y List.mem_cons_self
    have:=(Fc hL (l:=s) fun z hz=>hm z (List.mem_cons_of_mem _ hz)).1
    have h0:=Fp hL s.length
    have hp:=Int.mul_nonneg (show 0<=CO L s by omega) (Int.le_of_lt hL)
    have h':(0:Int)=CO L s*L+y+1:=h
    omega
  |cons x r ih=>
   intro m hl hm h
   have hx:=hl x List.mem_cons_self
   cases m with
   |nil=>
    have:=(Fc hL (l:=r) fun z hz=>hl z (List.mem_cons_of_mem _ hz)).1
    have h0:=Fp hL r.length
    have hp:=Int.mul_nonneg (show 0<=CO L r by omega) (Int.le_of_lt hL)
    have h':CO L r*L+x+1=(0:Int):=h
    omega
   |cons y s=>
    have hy:=hm y List.mem_cons_self
    have h':CO L r*L+x+1=CO L s*L+y+1:=h
    have e1:CO L r=CO L s:=by
     rcases Int.lt_trichotomy (CO L r) (CO L s) with hlt|he|hlt
     ·have:=Int.mul_le_mul_of_nonneg_right (show CO L r+1<=CO L s by omega) (Int.le_of_lt hL)
      rw[Int.add_mul]at this;omega
     ·exact he
     ·have:=Int.mul_le_mul_of_nonneg_right (show CO L s+1<=CO L r by omega) (Int.le_of_lt hL)
      rw[Int.add_mul]at this;omega
    rw[e1]at h'
    rw[ih (fun z hz=>hl z (List.mem_cons_of_mem _ hz)) (fun z hz=>hm z (List.mem_cons_of_mem _ hz)) e1,show x=y by omega]
 intro xs ys hx hy h
 have:=key (l:=xs.reverse) (m:=ys.reverse) (fun x h=>Bl.mp hx x (List.mem_reverse.mp h)) (fun x h=>Bl.mp hy x (List.mem_reverse.mp h)) h
 exact List.reverse_inj.mp this
end GW
namespace L2
open PySem PySem.Spec PyProof.Rows
section
variable {X:Cx} {K:PySem.W.Frag}
theorem Ec (h:X.K=K):IxR X (rIxT K):=by subst h;exact Au
theorem P0 (h:X.K=K):IxR X (rIxL K):=by subst h;exact E6
end
end L2
namespace GW
def DK_ (ways:List (List Int))(r x:Int):Int:=(ways.getD r.toNat []).getD x.toNat 0
end GW
namespace L2
open PySem PySem.Spec PyProof.Rows GW
theorem YB {α:Type}{xs:List α}{v:α}(h:xs[xs.length-1]?=some v):atI xs (-1)=some v:=by
 have hlt:=(List.getElem?_eq_some_iff.mp h).1
 unfold atI ixN
 rw[if_neg (by omega),if_pos (by omega)]
 show xs[(-1+(xs.length:Int)).toNat]?=some v
 rw[show (-1+(xs.length:Int)).toNat=xs.length-1 by omega]
 exact h
theorem Fq {ns:List Int}{i:Int}{v:Int}(h0:0<=i)(h:ns[i.toNat]?=some v):atI (ns.map V.int) i=some (V.int v):=Yr h0 (by rw[List.getElem?_map,h];rfl)
theorem AO {K:PySem.W.Frag}{H:Hp}{p t:Addr}{xs ys zs:List V}(hp:H p=some (.lst zs))(h:SqT K H t xs):SqT K (upd H p (.lst ys)) t xs:=by
 rcases h with (q|⟨o,q⟩)|q
 ·refine .inl (.inl ?_)
  rw[Av (fun z=>by rw[z,hp]at q;cases q)];exact q
 ·refine .inl (.inr ⟨o,?_⟩)
  rw[Av (fun z=>by rw[z,hp]at q;cases q)];exact q
 ·exact .inr q
end L2
namespace PySem
open Sem (wp)
open AutoSeq1 (wpAny_loadPart')
section
variable {prog:Program} {w:World} {A:Around} {E:Value->Shared->Prop} {s:Shared}
theorem newT {l:List Value}{Q:Value->Shared->Prop}(hl:l.length<=sizeLine)(h:∀h',s.heap.push {cls:=.type "tuple",data:=.seq l.toArray}=h'->Q (.ref s.heap.objs.size) {s with heap:=h' }):wpAny (model prog w) A (newTuple l) Q E s:=wpAny_newTuple (h _ rfl)
theorem psh {h h':Heap}{o:Obj}(q:h.push o=h')(ho:o.isFreed=false):(∀c u,h.get? c=some u->h'.get? c=some u)/\h'.get? h.objs.size=some o/\h'.objs.size=h.objs.size+1:=by
 subst q
 exact⟨fun c u x=>Heap.get?_push_of_some _ x,Heap.get?_push_size _ ho,Heap.size_push ..⟩
theorem K5 {it l:Addr}{i:Nat}{items:Array Value}{Q:Value->Shared->Prop}(hit:s.heap.IsTupleIter it l i)(hl:s.heap.IsTuple l items)
  (hQ:∀x h',items[i]?=some x->h'.IsTupleIter it l (i+1)->Heap.SameBut it s.heap h'->Q x {s with heap:=h' })
  (hE:items[i]?=none->A.handled=none/\∀h' e,Heap.ExtBut it s.heap h'->(∃o,h'.get? e=some o/\o.cls=.type "StopIteration")->E (.ref e) {s with heap:=h' }):wpAny (model prog w) A (Builtin.SmallTypes.nextOf (.ref it)) Q E s:=by
 obtain⟨⟨c,dc,da,sl⟩,ho,hc,hd⟩:=id hit
 obtain⟨⟨c',dc',da',sl'⟩,hol,hc',nl,hdl⟩:=hl
 replace hc:c=_:=hc;replace hd:da=_:=hd;replace hc':c'=_:=hc';replace hdl:da'=_:=hdl
 subst hc hd hc' hdl
 have e1:=F.slot_tuple_iterator_next
 unfold Builtin.SmallTypes.nextOf
 refine wpAny_bind (wpAny_callSpecial?_slot hit.typeIs e1 (wpAny_call_entry e1 hit.typeIs F.entry_tuple_iterator_next ?_ (F.args_tuple_iterator_next_1 _)))
 wp_walk
 cases hx:items[i]? with
 |some x=>
  simp only[Int.toNat_natCast,hx]
  wp_walk
  exact⟨x,rfl,wpAny_pure (hQ x _ hx ⟨_,Heap.get?_update_self _ ho (by simp[Obj.mapFields,Obj.isFreed]),rfl,by simp[Obj.mapFields,rawInt]⟩ (Heap.SameBut.update ..))⟩
 |none=>
  obtain⟨hh,hE⟩:=hE hx
  have h1:A.in1.handled=none:=hh
  simp only[Int.toNat_natCast,hx]
  wp_walk
  unfold raiseNew
  wp_walk
  exact hE _ _ (((Heap.SameBut.update ..).extBut.push _).push _) ⟨_,Heap.get?_push_size _ rfl,rfl⟩
theorem Draws.tuple (hh:A.handled=none)(it l:Addr)(hne:l≠it)(items:Array Value):
  Draws prog w A it [it,l] items.size (fun i v=>items[i]?=some v) (fun i h=>h.IsTupleIter it l i/\h.IsTuple l items) where
 live:=fun _ _ st=>let ⟨o,e,_⟩:=st.1;⟨o,e⟩
 frame:=fun _ _ _ st k=>⟨st.1.at fun o e=>k it (by simp) o e,let ⟨o,e,r⟩:=st.2;⟨o,k l (by simp) o e,r⟩⟩
 item:=fun i t Q E hi st q=>K5 st.1 st.2 (fun x h' e1 e2 e3=>q x h' t.toks e1 ⟨e2,st.2.extBut e3.extBut hne⟩ e3) fun z=>by rw[Array.getElem?_eq_none_iff]at z;omega
 done:=fun t Q E st q=>K5 st.1 st.2 (fun x h' e1=>by have:=(Array.getElem?_eq_some_iff.mp e1).1;omega) fun _=>⟨hh,q⟩
theorem Ji {l:Addr}{items:Array Value}{Q:Value->Shared->Prop}(hL:s.heap.IsTuple l items)
  (h:∀h',IsEnum h' (s.heap.objs.size+1) s.heap.objs.size 0 .none->h'.IsTupleIter s.heap.objs.size l 0->h'.objs.size=s.heap.objs.size+2->(∀b o,s.heap.get? b=some o->h'.get? b=some o)->Q (.ref (s.heap.objs.size+1)) {s with heap:=h' }):
  wpAny (model prog w) A (call (.type "enumerate") [.ref l]) Q E s:=by
 have M:Meets (Builtin.«enumerate.__new__» ⟨[.type "enumerate",.ref l],[]⟩) fun _ R t=>t.heap.IsTuple l items/\∀h',IsEnum h' (t.heap.objs.size+1) t.heap.objs.size 0 .none->h'.IsTupleIter t.heap.objs.size l 0->h'.objs.size=t.heap.objs.size+2->(∀b o,t.heap.get? b=some o->h'.get? b=some o)->R (.ok (.ret (.ref (t.heap.objs.size+1)))) {t with heap:=h' }:=.of_wp fun prog w A R t ⟨hl,q⟩=>by
  have hsub:=sub_enumerate
  obtain⟨hp,g,d,tk,os⟩:=t
  obtain⟨⟨c,dc,da,sl⟩,e1,hc,n,hd⟩:=id hl
  have fin:∀f,f=Fin.done (.ret (.ref (hp.push {cls:=.type "tuple_iterator",data:=.fields #[.ref l,.int 0 0]}).objs.size))->∃x,f=.done (.ret x)/\R (.ok (.ret x)) ⟨(hp.push {cls:=.type "tuple_iterator",data:=.fields #[.ref l,.int 0 0]}).push {cls:=.type "enumerate",data:=.fields #[.none,.bool false,.ref hp.objs.size,rawInt 0,.none,.none]},g,d,tk,os⟩:=fun f hf=>by
   have z:=Heap.size_push hp {cls:=.type "tuple_iterator",data:=.fields #[.ref l,.int 0 0]}
   rw[z]at hf
   have y:=Heap.get?_push_size (hp.push {cls:=.type "tuple_iterator",data:=.fields #[.ref l,.int 0 0]}) (o:={cls:=.type "enumerate",data:=.fields #[.none,.bool false,.ref hp.objs.size,rawInt 0,.none,.none]}) rfl
   rw[z]at y
   exact⟨_,hf,q _ y ⟨_,Heap.get?_push_of_some _ (Heap.get?_push_size _ rfl),rfl,rfl⟩ (by rw[Heap.size_push,z]) fun b o x=>Heap.get?_push_of_some _ (Heap.get?_push_of_some _ x)⟩
  wp_walk using AutoSeq1.wpAny_loadPart' e1
  refine wpAny_stack_any fun st=>wpAny_pure ?_
  split
  ·rename_i c _ _ _ _ _
   cases (c==Value.type "enumerate")<;>(wp_walk using AutoSeq1.wpAny_loadPart' e1,wpAny_pyIter_tuple hl;exact fin _ rfl)
  ·wp_walk using AutoSeq1.wpAny_loadPart' e1,wpAny_pyIter_tuple hl
   exact fin _ rfl
 exact callType_new F.called_enumerate (by decide) (F.typeCall_enumerate_1 _) (F.newCall_enumerate_1 _) (fun obj=>F.args_object_init_2 obj _) F.entry_enumerate_new M ⟨hL,fun h' a b c d=>⟨⟨_,a,rfl⟩,h h' a b c d⟩⟩
end
end PySem
namespace L2
open PySem PySem.Spec PyProof.Rows
section
variable {X:Cx} {pins:List (Addr×Obj)} {σ:St} {H:Hp} {s:Shared}
theorem Inv.un2 {h':Heap}{e it:Addr}(I:Inv X pins σ H s)(k:∀b o,b≠e->b≠it->s.heap.get? b=some o->h'.get? b=some o)(f1:FpOk X pins H e)(f2:FpOk X pins H it):Un (frs X.stack) [e,it] H H s.heap h'/\HOk X.prog X.w H h':=by
 have ne:∀b u,H b=some u->b≠e/\b≠it:=fun b u q=>⟨(fun z=>by rw[z,f1.1]at q;cases q),(fun z=>by rw[z,f2.1]at q;cases q)⟩
 have nch:∀{b:Addr},b ∉ [e,it]->b≠e/\b≠it:=fun hb=>by simpa using hb
 refine⟨⟨fun b o q _ _ hb=>k b o (nch hb).1 (nch hb).2 q,fun b o q _ _ hb=>⟨o.slots,k b o (nch hb).1 (nch hb).2 q⟩,fun _ _ _ n _=>n,fun b o q hb=>⟨o,k b o (nch hb).1 (nch hb).2 q⟩,fun _ _ q=>q,fun _ _ _ q=>q,fun b ps q=>⟨#[],by rw[q];simp⟩⟩,fun b u q=>?_⟩
 refine (I.hok b u q).stay (fun c v hc qv=>?_) (fun _ q=>q) fun _ _ q=>q
 have hne:c≠e/\c≠it:=by
  rcases hc with rfl|hc
  ·exact ne _ _ q
  ·exact ne _ _ hc
 exact k c v hne.1 hne.2 qv
theorem FpOk.ch {b:Addr}(f:FpOk X pins H b):(b∈X.ex\/X.s₀.heap.objs.size<=b)/\b≠X.env.locals/\(∀x c,X.env.cells.lookup x=some c->c≠b)/\∀p∈X.pn++pins,p.1≠b:=⟨f.2.2.2.1,f.2.1,f.2.2.2.2.1,f.2.2.2.2.2⟩
end
def Itn (K:PySem.W.Frag)(a:Addr)(xs:List V):It:=⟨fun i H=>i<xs.length/\SqT K H a xs,fun i H x H'=>∃t v,H t=none/\xs[i]?=some v/\x=.ref t/\H'=upd H t (.tup [.int i,v]),fun i H=>i=xs.length/\SqT K H a xs⟩
theorem WE {P:Program}{w:World}{K:PySem.W.Frag}{elts:List Expr}{x1}{tpos:Pos}(a e it:Addr)(hei:e≠it)(hai:a≠it)(hae:a≠e)(xs:List V):Turn P w K (.Tuple elts x1 tpos) (Itn K a xs) [e,it] e (fun i h=>∃old,IsEnum h e it (i:Nat) old/\h.IsTupleIter it a i) where
 mem:=by simp
 obj:=fun i h st b hb=>by
  obtain⟨old,h1,o,h2,c,d⟩:=st
  rcases List.mem_cons.mp hb with rfl|hb
  ·exact⟨_,h1,fun v z=>by cases z⟩
  ·rw[List.mem_singleton.mp hb]
   exact⟨o,h2,fun v z=>by rw[d]at z;cases z⟩
 keep:=fun i h h' st k=>by
  obtain⟨old,h1,h2⟩:=st
  exact⟨old,k e (by simp) _ h1,h2.at fun o q=>k it (by simp) o q⟩
 item:=by
  intro X hP hw hK hc i pins s σ H E I hf st hg
  subst hP hw hK
  obtain⟨hi,hq⟩:=hg
  obtain⟨old,he,hit⟩:=st
  obtain⟨its,rv,p,hz⟩:=I.tuple hq
  have hl:=rv.length
  have pt:s.heap.IsTuple a its.toArray:=p
  have f1:=hf e (by simp)
  have f2:=hf it (by simp)
  have Dw:=Draws.tuple (prog:=X.prog) (w:=X.w) (A:=X.A.in1) (I.ok.hd hc) it a hai its.toArray
  refine wpAny_pyNext_enum_itemD Dw he ⟨hit,pt⟩ (by simp;omega) hei (by simp[hei,Ne.symm hae]) fun u h' tk hu heo hst' hget hsz hk=>?_
  have hT:s.heap.objs.size≠e:=Nat.ne_of_gt (Heap.lt_size he)
  refine⟨_,rfl,wpAny_letOwnedTupleGo_enum heo fun h2 he2 hs2=>?_⟩
  have hk2:∀b o,b≠e->b≠it->s.heap.get? b=some o->h2.get? b=some o:=fun b o h1 h3 q=>(hs2.2 b h1).trans (hk b o h1 h3 q)
  obtain⟨un,hok⟩:=I.un2 hk2 f1 f2
  have hn:H s.heap.objs.size=none:=I.hok.fresh (Nat.le_refl _)
  have hv:xs[i]?=some xs[i]:=by simp[hi]
  obtain⟨u',hu',ru⟩:=rv.get hv
  have eu:u'=u:=by
   have hu2:its[i]?=some u:=by simpa using hu
   rw[hu']at hu2
   exact Option.some.inj hu2
  subst eu
  have hget2:h2.get? s.heap.objs.size=some {cls:=.type "tuple",data:=.seq #[.int i tk,u']}:=(hs2.2 _ hT).trans hget
  have new:Bk X.prog X.w (upd H s.heap.objs.size (.tup [.int i,xs[i]])) h2 s.heap.objs.size (.tup [.int i,xs[i]]):=⟨by have:=Al;simp;omega,[.int i tk,u'],.cons ⟨tk,rfl⟩ (.cons ru .nil),_,hget2,rfl,_,rfl⟩
  refine⟨.ref s.heap.objs.size,upd H s.heap.objs.size (.tup [.int i,xs[i]]),I.call' (s':={s with heap:=h2,toks:=tk+1}) (ch:=[e,it]) rfl (un.track (Nat.le_refl _) hn) (hok.track hn new) I.bare (fun b hb=>?_),rfl,⟨_,_,hn,hv,rfl,rfl⟩,?_,fun b hb=>?_⟩
  ·exact (hf b hb).ch
  ·refine⟨u',by simpa using he2,?_⟩
   exact hst'.1.at fun o q=>(hs2.2 it (Ne.symm hei)).trans q
  ·have hb':=hf b hb
   have:∃o,s.heap.get? b=some o:=by
    rcases List.mem_cons.mp hb with rfl|hb
    ·exact⟨_,he⟩
    ·rw[List.mem_singleton.mp hb]
     obtain⟨o,ho,_⟩:=hit
     exact⟨o,ho⟩
   obtain⟨o,ho⟩:=this
   rw[Av (Nat.ne_of_lt (Heap.lt_size ho))]
   exact hb'.1
 done:=by
  intro X hP hw hK hc i pins s σ H E I hf st hg
  subst hP hw hK
  obtain⟨hi,hq⟩:=hg
  subst hi
  obtain⟨old,he,hit⟩:=st
  obtain⟨its,rv,p,hz⟩:=I.tuple hq
  have hl:=rv.length
  have pt:s.heap.IsTuple a its.toArray:=p
  have Dw:=Draws.tuple (prog:=X.prog) (w:=X.w) (A:=X.A.in1) (I.ok.hd hc) it a hai its.toArray
  obtain⟨f0,f1,f2,f3,f4,f5⟩:=hf it (by simp)
  refine wpAny_pyNext_enum_endD Dw he ⟨by rw[List.size_toArray,<-hl];exact hit,pt⟩ fun h' eb=>⟨rfl,I.turned (t':=s.toks) (fun b o hb e=>eb b o hb e) f0 f1 f3 f4 f5⟩
 self:=fun A i s Q E st h=>by
  obtain⟨old,he,_⟩:=st
  exact wpAny_pyIter_enum he h
def Bh_ (K:PySem.W.Frag)(tl:TE):TI:=fun σ H R=>tl σ H fun x H1=>∃a xs,x=.ref a/\SqT K H1 a xs/\R (Itn K a xs) H1
theorem V2 {K:PySem.W.Frag}{te:TE}{σ:St}{H:Hp}{Z:It->Hp->Prop}:Bh_ K te σ H Z=te σ H fun x H1=>∃a xs,x=.ref a/\SqT K H1 a xs/\Z (Itn K a xs) H1:=rfl
theorem Bi_ {K:PySem.W.Frag}{n:Nat}{t:TGs}{v:V}{σ:St}{H:Hp}{N:St->Hp->Prop}:gTup K n t v σ H N=∃a xs,v=.ref a/\SqT K H a xs/\xs.length=n/\t xs σ H N:=rfl
theorem YC {t:TG}{u:TGs}{vs:List V}{σ:St}{H:Hp}{N:St->Hp->Prop}:CT_ t u vs σ H N=∃v r,vs=v::r/\t v σ H fun σ' H'=>u r σ' H' N:=rfl
theorem Bj_ {vs:List V}{σ:St}{H:Hp}{N:St->Hp->Prop}:gNil vs σ H N=(vs=[]/\N σ H):=rfl
theorem P4 {X:Cx}{elts:List Expr}{x1}{tpos:Pos}{e:Expr}{te:TE}{p pos:Pos}(hg:Gl X "enumerate")(hm:X.mg "enumerate"=none)(he:PE X e te)(hs:starEach [e] X.env=[(false,eval e X.env)]:=by rfl):PI X (.Tuple elts x1 tpos) (.Call (.Name "enumerate" p) [e] [] pos) (Bh_ X.K te):=by
 intro pins s σ H R I h
 refine Call_ (Jl I hg hm boot_enumerate (PyProof.Rows.callWith_type1 (thn (Aa he Ab hs pos pins s σ H (fun vs H1=>∃a xs,vs=[.ref a]/\SqT X.K H1 a xs/\R (Itn X.K a xs) H1) I ?_) fun us s1 ⟨vs,H1,I1,r1,q1⟩=>?_) hs rfl))
 ·show te σ H _
  have:(fun x H1=>∃a xs,x=V.ref a/\SqT X.K H1 a xs/\R (Itn X.K a xs) H1)=(fun x H1=>tNil σ H1 fun xs H2=>∃a ys,x::xs=[V.ref a]/\SqT X.K H2 a ys/\R (Itn X.K a ys) H2):=by
   funext x H1
   simp[tNil]
  rw[<-this]
  exact h
 ·obtain⟨a,xs,rfl,hq,q⟩:=q1
  cases r1 with
  |cons r rr=>
   cases rr
   cases r
   obtain⟨its,rv,p,hz⟩:=I1.tuple hq
   have pt:s1.heap.IsTuple a its.toArray:=p
   obtain⟨oa,hoa,_⟩:=id pt
   have ha:=Heap.lt_size hoa
   refine Ji pt fun h' he' hit' hsz hk=>?_
   refine wpAny_pyIter_enum (s:={s1 with heap:=h' }) he' ?_
   have I2:Inv X pins σ H1 {s1 with heap:=h' }:=I1.kept (t':=s1.toks) hk
   refine⟨s1.heap.objs.size+1,[s1.heap.objs.size+1,s1.heap.objs.size],_,_,H1,rfl,I2,WE a (s1.heap.objs.size+1) s1.heap.objs.size (Nat.succ_ne_self _) (Nat.ne_of_lt ha) (Nat.ne_of_lt (Nat.lt_succ_of_lt ha)) xs,⟨_,he',hit'⟩,fun b hb=>?_,q⟩
   have hle:s1.heap.objs.size<=b:=by
    rcases List.mem_cons.mp hb with rfl|hb
    ·omega
    ·rw[List.mem_singleton.mp hb];exact Nat.le_refl _
   exact I1.fpOk hle (I1.hok.fresh hle)
theorem forN {K:PySem.W.Frag}{a:Addr}{xs:List V}{g:TG}{tb:TS}{D:Ends}{σ:St}{H:Hp}(Pv:Nat->St->Hp->Prop)(h0:Pv 0 σ H)(hl:∀i σ H,i<=xs.length->Pv i σ H->SqT K H a xs)
  (hs:∀i v σ H t,xs[i]?=some v->Pv i σ H->H t=none->g (.ref t) σ (upd H t (.tup [.int i,v])) fun σ2 H2=>tb {D with nx:=Pv (i+1),ct:=Pv (i+1),bk:=D.nx} σ2 H2) (hd:∀σ H,Pv xs.length σ H->D.nx σ H):ForW (Itn K a xs) g tb D σ H:=by
 refine⟨fun i m σ H=>m=xs.length-i/\i<=xs.length/\Pv i σ H,⟨xs.length,by simp,Nat.zero_le _,h0⟩,?_⟩
 rintro i m σ H ⟨rfl,hi,p⟩
 by_cases hlt:i<xs.length
 ·refine .inr ⟨⟨hlt,hl i σ H hi p⟩,Pv (i+1),fun σ' H' p'=>⟨xs.length-(i+1),by omega,rfl,hlt,p'⟩,fun x H' y=>?_⟩
  obtain⟨t,v,hn,hv,rfl,rfl⟩:=y
  exact hs i v σ H t hv p hn
 ·have e:i=xs.length:=by omega
  subst e
  exact .inl ⟨⟨rfl,hl _ σ H hi p⟩,hd σ H p⟩
section
variable {td ty tv tx:TE} {D:Ends} {σ:St} {H:Hp} {Q:VK}
theorem Bk_:Dn_ td ty σ H Q=td σ H fun x H1=>ty σ H1 fun y H2=>∃a v,x=.ref a/\DGet H2 a y (some v)/\Q v H2:=rfl
theorem Bl_:Do_ td ty tv D σ H=tv σ H fun v H1=>td σ H1 fun x H2=>ty σ H2 fun y H3=>∃a H4,x=.ref a/\DPut H3 a y v H4/\D.nx σ H4:=rfl
theorem Bm_ {trs:List (TE×TE)}:BY_ trs σ H Q=∀p,H p=none->MQ trs σ (upd H p (.dK [])) fun ps H2=>H2 p=some (.dK [])/\∃kvs:List (Key×V),ps=kvs.map (fun kv=>(kV kv.1,kv.2))/\kvs.length<=15/\Q (.ref p) (upd H2 p (.dK (LM [] kvs))):=rfl
theorem V3 {R:List (V×V)->Hp->Prop}:MQ [] σ H R=R [] H:=rfl
theorem V4 {r:List (TE×TE)}{R:List (V×V)->Hp->Prop}:MQ ((td,tv)::r) σ H R=td σ H fun x H1=>tv σ H1 fun y H2=>MQ r σ H2 fun ps H3=>R ((x,y)::ps) H3:=rfl
end
end L2
namespace GW
def Bn_ (w:List Int):List (Int×List Int)->Nat->List Int->List (Int×List Int)
 |ents,_,[]=>ents
 |ents,x,g::r=>Bn_ w (if g∈ents.map (·.1) then ents else ents++[(g,w++[(x:Int)])]) (x+1) r
def bfs (ways:List (List Int)):Nat->List (Int×List Int)->Nat->List (Int×List Int)
 |0,ents,_=>ents
 |f+1,ents,i=>match ents[i]? with
  |none=>ents
  |some e=>bfs ways f (Bn_ e.2 ents 0 (ways.getD e.1.toNat [])) (i+1)
def YD (ways:List (List Int)):List (Int×List Int):=bfs ways (ways.length+1) [(0,[])] 0
def Seen (L:Int)(ways:List (List Int))(ents:List (Int×List Int))(r:Int)(w:List Int)(x:Nat):Prop:=∀y:Int,0<=y->y<x->∃e'∈ents,e'.1=DK_ ways r y/\place L e'.2<=place L (w++[y])
end GW
namespace L2
open PySem PySem.Spec PyProof.Rows GW
def Ents (K:PySem.W.Frag)(H:Hp)(d:Addr)(ents:List (Int×List Int)):Prop:=∃kvs:List (Key×V),H d=some (.dK kvs)/\kvs.length=ents.length/\∀(i:Nat) (e:Int×List Int),ents[i]?=some e->∃t,kvs[i]?=some (Sum.inl e.1,V.ref t)/\SqT K H t (e.2.map V.int)
theorem Tz {K:PySem.W.Frag}{H:Hp}{p t:Addr}{xs:List V}{kvs kvs':List (Key×V)}(hp:H p=some (.dK kvs))(h:SqT K H t xs):SqT K (upd H p (.dK kvs')) t xs:=by
 rcases h with (q|⟨o,q⟩)|q
 ·refine .inl (.inl ?_)
  rw[Av (fun z=>by rw[z,hp]at q;cases q)];exact q
 ·refine .inl (.inr ⟨o,?_⟩)
  rw[Av (fun z=>by rw[z,hp]at q;cases q)];exact q
 ·exact .inr q
theorem Ents.no {K:PySem.W.Frag}{H:Hp}{d:Addr}{ents:List (Int×List Int)}(h:Ents K H d ents){g:Int}(hg:g∉ents.map (·.1)):DGet H d (.int g) none:=by
 obtain⟨kvs,h1,h2,h3⟩:=h
 have e:valV kvs (Sum.inl g:Key)=none:=by
  unfold valV
  rw[Option.map_eq_none_iff,List.find?_eq_none]
  intro kv hkv
  obtain⟨i,hi,e⟩:=List.getElem_of_mem hkv
  obtain⟨t,a,_⟩:=h3 i ents[i] (by simp[show i<ents.length by omega])
  have e2:kvs[i]?=some kv:=by rw[List.getElem?_eq_getElem hi,e]
  rw[e2]at a
  cases a
  simp only[decide_eq_true_eq]
  intro z
  injection z with z
  exact hg (List.mem_map.mpr ⟨ents[i],List.getElem_mem _,z⟩)
 have:=DGet.k (k:=(Sum.inl g:Key)) h1
 rw[e]at this
 exact this
theorem Ents.put {K:PySem.W.Frag}{H:Hp}{d t:Addr}{ents:List (Int×List Int)}{g:Int}{w:List Int}(h:Ents K H d ents)(hg:g∉ents.map (·.1))(hz:ents.length<1000)(ht:SqT K H t (w.map V.int)):∃H',DPut H d (.int g) (.ref t) H'/\(∃kvs kvs',H d=some (.dK kvs)/\H'=upd H d (.dK kvs'))/\Ents K H' d (ents++[(g,w)]):=by
 have hno:=h.no hg
 obtain⟨kvs,h1,h2,h3⟩:=h
 have hl:=Al
 have hv:valV kvs (Sum.inl g:Key)=none:=by
  rcases hno with ⟨kvs',k,e,ey,er⟩|⟨kvs',k,b,e,ey,_⟩
  ·have e1:kvs'=kvs:=by
    rcases e with e|⟨o,e⟩
    ·rw[h1]at e;cases e;rfl
    ·rw[h1]at e;cases e
   subst e1
   cases k with
   |inl m=>
    have:m=g:=by injection ey with ey;exact ey.symm
    subst this
    exact er.symm
   |inr m=>cases ey
  ·cases ey
 have hp:putK kvs (Sum.inl g:Key) (V.ref t)=kvs++[(Sum.inl g,V.ref t)]:=by
  unfold putK
  rw[J6,hv]
  rfl
 refine⟨_,DPut.k (k:=(Sum.inl g:Key)) h1 (by omega),⟨kvs,_,h1,rfl⟩,kvs++[(Sum.inl g,V.ref t)],by rw[Ac,hp],by simp[h2],fun i e he=>?_⟩
 by_cases hi:i<ents.length
 ·rw[List.getElem?_append_left hi]at he
  obtain⟨t',a,b⟩:=h3 i e he
  exact⟨t',by rw[List.getElem?_append_left (by omega)];exact a,Tz h1 b⟩
 ·have hlt:=(List.getElem?_eq_some_iff.mp he).1
  rw[List.length_append,List.length_singleton]at hlt
  have e1:i=ents.length:=by omega
  subst e1
  rw[List.getElem?_append_right (Nat.le_refl _),Nat.sub_self]at he
  simp at he
  subst he
  exact⟨t,by rw[List.getElem?_append_right (by omega),h2,Nat.sub_self];rfl,Tz h1 ht⟩
end L2
namespace L2
open PySem PySem.Spec PyProof.Rows
def ups (n:Nat):List Int:=(List.range n).map fun i:Nat=>(i:Int)
def rNeD (K:PySem.W.Frag)(n:Nat):R2:=fun x y H Q=>∃a c b,x=.ref a/\y=.ref c/\EqD K H n x y b/\Q (.bl (!b)) H
theorem DL_ {K:PySem.W.Frag}{n:Nat}{x y:V}{H:Hp}{Q:VK}:rNeD K n x y H Q=∃a c b,x=.ref a/\y=.ref c/\EqD K H n x y b/\Q (.bl (!b)) H:=rfl
theorem YE {X:Cx}(n:Nat)(hu:X.A.units+n<cLine):OpR X (compareOp .NotEq) (rNeD X.K n):=by
 intro pins s σ H x y v u Q I rx ry h
 obtain⟨a,c,b,rfl,rfl,h,q⟩:=h
 cases rx
 cases ry
 cases n with
 |zero=>exact absurd (show false=true from h.1) Bool.false_ne_true
 |succ n=>
  rcases h with ⟨fx,_⟩|⟨a',c',xs,ys,e1,e2,hq,e,he,rfl⟩
  ·exact absurd (show false=true from fx) Bool.false_ne_true
  ·cases e1
   cases e2
   have key:∀(its its2:List Value),Vals xs its->Vals ys its2->∀j (h1:j<its.toArray.size) (h2:j<its2.toArray.size),SeqAt.EqAt X.A.in1 s its.toArray[j] its2.toArray[j] (e j):=fun its its2 r1 r2 j h1 h2=>by
    have l1:=r1.length
    have l2:=r2.length
    rw[List.size_toArray]at h1 h2
    obtain⟨u1,g1,q1⟩:=r1.get (i:=j) (x:=xs[j]'(by omega)) (by simp[show j<xs.length by omega])
    obtain⟨u2,g2,q2⟩:=r2.get (i:=j) (x:=ys[j]'(by omega)) (by simp[show j<ys.length by omega])
    have k1:its.toArray[j]'(by rw[List.size_toArray];exact h1)=u1:=by
     have:=(List.getElem?_eq_some_iff.mp g1).2
     simpa using this
    have k2:its2.toArray[j]'(by rw[List.size_toArray];exact h2)=u2:=by
     have:=(List.getElem?_eq_some_iff.mp g2).2
     simpa using this
    rw[k1,k2]
    exact (EqD.at I n X.A.in1 (by rw[in1_units];omega) q1 q2 (he j _ _ (by simp[show j<xs.length by omega]) (by simp[show j<ys.length by omega]))).1
   have fin:EP X pins σ Q (.bool (!(decide (xs.length=ys.length)&&(List.range (min xs.length ys.length)).all e))) s:=⟨.bl _,H,I,rfl,q⟩
   rcases hq with ⟨h1,h2⟩|⟨h1,h2⟩
   ·obtain⟨its,r1,p1,_⟩:=I.list h1
    obtain⟨its2,r2,p2,_⟩:=I.list h2
    have l1:=r1.length
    have l2:=r2.length
    by_cases hl:xs.length=ys.length
    ·have:=SeqAt.RcNeAt.lists (e:=e) p1.isList p2.isList (by rw[List.size_toArray,List.size_toArray];omega) (by omega) (key its its2 r1 r2)
     rw[List.size_toArray,<-l1]at this
     rw[decide_eq_true hl,Bool.true_and,<-hl,Nat.min_self]at fin
     exact this _ _ _ _ fin
    ·have:=SeqAt.RcNeAt.lists_lengths (A:=X.A) p1.isList p2.isList (by rw[List.size_toArray,List.size_toArray];simp;omega) (by omega)
     rw[decide_eq_false hl,Bool.false_and]at fin
     exact this _ _ _ _ fin
   ·obtain⟨its,r1,p1,_⟩:=I.tuple h1
    obtain⟨its2,r2,p2,_⟩:=I.tuple h2
    have l1:=r1.length
    have l2:=r2.length
    have:=SeqAt.RcNeAt.tuples (e:=e) (show s.heap.IsTuple a its.toArray from p1) (show s.heap.IsTuple c its2.toArray from p2) (by omega) (key its its2 r1 r2)
    rw[List.size_toArray,List.size_toArray,<-l1,<-l2,Yk]at this
    exact this _ _ _ _ fin
def Bo_ (tk tv:TE):TE:=BY_ [(tk,tv)]
theorem ZP {X:Cx}{pos:Pos}{k v:Expr}{tk tv:TE}(hk:PE X k tk)(hv:PE X v tv):PE X (.Dict [some k] [v] pos) (Bo_ tk tv):=BZ_ (ZJ hk hv BX_) rfl rfl (by intro z;cases z) (by show 1<=15;decide)
theorem YF {tk tv:TE}{σ:St}{H:Hp}{Q:VK}:Bo_ tk tv σ H Q=∀p,H p=none->tk σ (upd H p (.dK [])) fun x H1=>tv σ H1 fun y H2=>H2 p=some (.dK [])/\∃kvs:List (Key×V),[(x,y)]=kvs.map (fun kv=>(kV kv.1,kv.2))/\kvs.length<=15/\Q (.ref p) (upd H2 p (.dK (LM [] kvs))):=rfl
theorem Vals.ofIx:∀{xs:List V} {us:List Value},us.length=xs.length->(∀(i:Nat) (v:Value),us[i]?=some v->∃x,xs[i]?=some x/\RelV x v)->Vals xs us
 |[],[],_,_=>.nil
 |[],_::_,h,_=>by simp at h
 |_::_,[],h,_=>by simp at h
 |x::xs,u::us,h,k=>by
  refine .cons ?_ (Vals.ofIx (by simpa using h) fun i v hv=>?_)
  ·obtain⟨y,e,r⟩:=k 0 u rfl
   cases e
   exact r
  ·obtain⟨y,e,r⟩:=k (i+1) v (by simpa using hv)
   exact⟨y,by simpa using e,r⟩
theorem TB {k:Key}{v:Value}(h:UY k v=true):RelV (kV k) v:=by
 rcases B6 h with ⟨i,t,rfl,e⟩|⟨x,t,rfl,e⟩
 ·exact⟨t,e⟩
 ·exact⟨t,e⟩
def Itm (K:PySem.W.Frag)(a:Addr)(xs:List V):It:=⟨fun i H=>i<xs.length/\SqL K H a xs,fun i H x H'=>∃t v,H t=none/\xs[i]?=some v/\x=.ref t/\H'=upd H t (.tup [.int i,v]),fun i H=>i=xs.length/\SqL K H a xs⟩
theorem WG {P:Program}{w:World}{K:PySem.W.Frag}{elts:List Expr}{x1}{tpos:Pos}(a e it:Addr)(hei:e≠it)(hai:a≠it)(hae:a≠e)(xs:List V):Turn P w K (.Tuple elts x1 tpos) (Itm K a xs) [e,it] e (fun i h=>∃old,IsEnum h e it (i:Nat) old/\h.IsListIter it a i) where
 mem:=by simp
 obj:=fun i h st b hb=>by
  obtain⟨old,h1,o,h2,c,d⟩:=st
  rcases List.mem_cons.mp hb with rfl|hb
  ·exact⟨_,h1,fun v z=>by cases z⟩
  ·rw[List.mem_singleton.mp hb]
   exact⟨o,h2,fun v z=>by rw[d]at z;cases z⟩
 keep:=fun i h h' st k=>by
  obtain⟨old,h1,h2⟩:=st
  exact⟨old,k e (by simp) _ h1,h2.at fun o q=>k it (by simp) o q⟩
 item:=by
  intro X hP hw hK hc i pins s σ H E I hf st hg
  subst hP hw hK
  obtain⟨hi,hq⟩:=hg
  obtain⟨old,he,hit⟩:=st
  obtain⟨its,rv,p,hz⟩:=I.list hq
  have hl:=rv.length
  have pt:s.heap.IsList a its.toArray:=p.isList
  have f1:=hf e (by simp)
  have f2:=hf it (by simp)
  have Dw:=Draws.list (prog:=X.prog) (w:=X.w) (A:=X.A.in1) (I.ok.hd hc) it a hai its.toArray
  refine wpAny_pyNext_enum_itemD Dw he ⟨hit,pt⟩ (by simp;omega) hei (by simp[hei,Ne.symm hae]) fun u h' tk hu heo hst' hget hsz hk=>?_
  have hT:s.heap.objs.size≠e:=Nat.ne_of_gt (Heap.lt_size he)
  refine⟨_,rfl,wpAny_letOwnedTupleGo_enum heo fun h2 he2 hs2=>?_⟩
  have hk2:∀b o,b≠e->b≠it->s.heap.get? b=some o->h2.get? b=some o:=fun b o h1 h3 q=>(hs2.2 b h1).trans (hk b o h1 h3 q)
  obtain⟨un,hok⟩:=I.un2 hk2 f1 f2
  have hn:H s.heap.objs.size=none:=I.hok.fresh (Nat.le_refl _)
  have hv:xs[i]?=some xs[i]:=by simp[hi]
  obtain⟨u',hu',ru⟩:=rv.get hv
  have eu:u'=u:=by
   have hu2:its[i]?=some u:=by simpa using hu
   rw[hu']at hu2
   exact Option.some.inj hu2
  subst eu
  have hget2:h2.get? s.heap.objs.size=some {cls:=.type "tuple",data:=.seq #[.int i tk,u']}:=(hs2.2 _ hT).trans hget
  have new:Bk X.prog X.w (upd H s.heap.objs.size (.tup [.int i,xs[i]])) h2 s.heap.objs.size (.tup [.int i,xs[i]]):=⟨by have:=Al;simp;omega,[.int i tk,u'],.cons ⟨tk,rfl⟩ (.cons ru .nil),_,hget2,rfl,_,rfl⟩
  refine⟨.ref s.heap.objs.size,upd H s.heap.objs.size (.tup [.int i,xs[i]]),I.call' (s':={s with heap:=h2,toks:=tk+1}) (ch:=[e,it]) rfl (un.track (Nat.le_refl _) hn) (hok.track hn new) I.bare (fun b hb=>?_),rfl,⟨_,_,hn,hv,rfl,rfl⟩,?_,fun b hb=>?_⟩
  ·exact (hf b hb).ch
  ·refine⟨u',by simpa using he2,?_⟩
   exact hst'.1.at fun o q=>(hs2.2 it (Ne.symm hei)).trans q
  ·have hb':=hf b hb
   have:∃o,s.heap.get? b=some o:=by
    rcases List.mem_cons.mp hb with rfl|hb
    ·exact⟨_,he⟩
    ·rw[List.mem_singleton.mp hb]
     obtain⟨o,ho,_⟩:=hit
     exact⟨o,ho⟩
   obtain⟨o,ho⟩:=this
   rw[Av (Nat.ne_of_lt (Heap.lt_size ho))]
   exact hb'.1
 done:=by
  intro X hP hw hK hc i pins s σ H E I hf st hg
  subst hP hw hK
  obtain⟨hi,hq⟩:=hg
  subst hi
  obtain⟨old,he,hit⟩:=st
  obtain⟨its,rv,p,hz⟩:=I.list hq
  have hl:=rv.length
  have pt:s.heap.IsList a its.toArray:=p.isList
  have Dw:=Draws.list (prog:=X.prog) (w:=X.w) (A:=X.A.in1) (I.ok.hd hc) it a hai its.toArray
  obtain⟨f0,f1,f2,f3,f4,f5⟩:=hf it (by simp)
  refine wpAny_pyNext_enum_endD Dw he ⟨by rw[List.size_toArray,<-hl];exact hit,pt⟩ fun h' eb=>⟨rfl,I.turned (t':=s.toks) (fun b o hb e=>eb b o hb e) f0 f1 f3 f4 f5⟩
 self:=fun A i s Q E st h=>by
  obtain⟨old,he,_⟩:=st
  exact wpAny_pyIter_enum he h
def Bp_ (K:PySem.W.Frag)(tl:TE):TI:=fun σ H R=>tl σ H fun x H1=>∃a xs,x=.ref a/\SqL K H1 a xs/\R (Itm K a xs) H1
theorem V5 {K:PySem.W.Frag}{te:TE}{σ:St}{H:Hp}{Z:It->Hp->Prop}:Bp_ K te σ H Z=te σ H fun x H1=>∃a xs,x=.ref a/\SqL K H1 a xs/\Z (Itm K a xs) H1:=rfl
theorem V6 {X:Cx}{elts:List Expr}{x1}{tpos:Pos}{e:Expr}{te:TE}{p pos:Pos}(hg:Gl X "enumerate")(hm:X.mg "enumerate"=none)(he:PE X e te)(hs:starEach [e] X.env=[(false,eval e X.env)]:=by rfl):PI X (.Tuple elts x1 tpos) (.Call (.Name "enumerate" p) [e] [] pos) (Bp_ X.K te):=by
 intro pins s σ H R I h
 refine Call_ (Jl I hg hm boot_enumerate (PyProof.Rows.callWith_type1 (thn (Aa he Ab hs pos pins s σ H (fun vs H1=>∃a xs,vs=[.ref a]/\SqL X.K H1 a xs/\R (Itm X.K a xs) H1) I ?_) fun us s1 ⟨vs,H1,I1,r1,q1⟩=>?_) hs rfl))
 ·show te σ H _
  have:(fun x H1=>∃a xs,x=V.ref a/\SqL X.K H1 a xs/\R (Itm X.K a xs) H1)=(fun x H1=>tNil σ H1 fun xs H2=>∃a ys,x::xs=[V.ref a]/\SqL X.K H2 a ys/\R (Itm X.K a ys) H2):=by
   funext x H1
   simp[tNil]
  rw[<-this]
  exact h
 ·obtain⟨a,xs,rfl,hq,q⟩:=q1
  cases r1 with
  |cons r rr=>
   cases rr
   cases r
   obtain⟨its,rv,p,hz⟩:=I1.list hq
   have pt:s1.heap.IsList a its.toArray:=p.isList
   obtain⟨oa,hoa,_⟩:=id pt
   have ha:=Heap.lt_size hoa
   refine call_enumerate_list pt fun h' he' hit' hsz hk=>?_
   refine wpAny_pyIter_enum (s:={s1 with heap:=h' }) he' ?_
   have I2:Inv X pins σ H1 {s1 with heap:=h' }:=I1.kept (t':=s1.toks) hk
   refine⟨s1.heap.objs.size+1,[s1.heap.objs.size+1,s1.heap.objs.size],_,_,H1,rfl,I2,WG a (s1.heap.objs.size+1) s1.heap.objs.size (Nat.succ_ne_self _) (Nat.ne_of_lt ha) (Nat.ne_of_lt (Nat.lt_succ_of_lt ha)) xs,⟨_,he',hit'⟩,fun b hb=>?_,q⟩
   have hle:s1.heap.objs.size<=b:=by
    rcases List.mem_cons.mp hb with rfl|hb
    ·omega
    ·rw[List.mem_singleton.mp hb];exact Nat.le_refl _
   exact I1.fpOk hle (I1.hok.fresh hle)
theorem forM {K:PySem.W.Frag}{a:Addr}{xs:List V}{g:TG}{tb:TS}{D:Ends}{σ:St}{H:Hp}(Pv:Nat->St->Hp->Prop)(h0:Pv 0 σ H)(hl:∀i σ H,i<=xs.length->Pv i σ H->SqL K H a xs)
  (hs:∀i v σ H t,xs[i]?=some v->Pv i σ H->H t=none->g (.ref t) σ (upd H t (.tup [.int i,v])) fun σ2 H2=>tb {D with nx:=Pv (i+1),ct:=Pv (i+1),bk:=D.nx} σ2 H2) (hd:∀σ H,Pv xs.length σ H->D.nx σ H):ForW (Itm K a xs) g tb D σ H:=by
 refine⟨fun i m σ H=>m=xs.length-i/\i<=xs.length/\Pv i σ H,⟨xs.length,by simp,Nat.zero_le _,h0⟩,?_⟩
 rintro i m σ H ⟨rfl,hi,p⟩
 by_cases hlt:i<xs.length
 ·refine .inr ⟨⟨hlt,hl i σ H hi p⟩,Pv (i+1),fun σ' H' p'=>⟨xs.length-(i+1),by omega,rfl,hlt,p'⟩,fun x H' y=>?_⟩
  obtain⟨t,v,hn,hv,rfl,rfl⟩:=y
  exact hs i v σ H t hv p hn
 ·have e:i=xs.length:=by omega
  subst e
  exact .inl ⟨⟨rfl,hl _ σ H hi p⟩,hd σ H p⟩
def rng (i j:Int):List Int:=(List.range (j-i).toNat).map fun k:Nat=>i+(k:Int)
end L2
namespace PySem
open Sem (wp)
def Heap.DEnt (h:Heap)(d:Addr)(es:Array DictEntry)(ep:Nat):Prop:=∃o,h.get? d=some o/\o.ExactDict/\o.data=.dict es ep
section
variable {prog:Program} {w:World} {A:Around} {E:Value->Shared->Prop} {s:Shared} {d it:Addr} {es:Array DictEntry} {i ep:Nat}
theorem Heap.DEnt.typeIs (h:s.heap.DEnt d es ep):s.TypeIs (.ref d) "dict" := let ⟨o,ho,hc,_⟩:=h;⟨o,ho,hc.1⟩
theorem Heap.DEnt.at {h h':Heap}(x:h.DEnt d es ep)(e:∀o,h.get? d=some o->h'.get? d=some o):h'.DEnt d es ep:=let ⟨o,ho,r⟩:=x;⟨o,e _ ho,r⟩
theorem Heap.DEnt.lt_size {h:Heap}(x:h.DEnt d es ep):d<h.objs.size:=let ⟨_,ho,_⟩:=x;Heap.lt_size ho
theorem MS {Q:Value->Shared->Prop}(hd:(d==sysModules)=false)(hm:s.heap.DEnt d es ep)
  (hQ:Q (.ref s.heap.objs.size) {s with heap:=s.heap.push {cls:=.type "dict_keyiterator",data:=.fields #[.ref d,.int 0 0,.int es.size 0,.int ep 0]} }):wpAny (model prog w) A (pyIter (.ref d)) Q E s:=by
 have hT:=hm.typeIs
 obtain⟨o,ho,hc,hdat⟩:=id hm
 refine wpAny_pyIter_slot hT F.slot_dict_iter (wpAny_call_entry F.slot_dict_iter hT F.entry_dict_iter (?_:wpAny _ _ (Builtin.«dict.__iter__» _) _ _ s) (F.args_dict_iter_1 _))
 unfold Builtin.«dict.__iter__»;refine wpAny_bind ?_
 unfold Builtin.Dict.dictSlotNone;refine wpAny_bind (wpAny_notOrdered_dict hT ?_)
 show wpAny _ _ (pure (Value.ref d)) _ _ s;refine wpAny_pure ?_
 show wpAny _ _ (Builtin.Dict.showsAll d >>= _) _ _ s;unfold Builtin.Dict.showsAll
 rw[if_neg (fun z=>by rw[hd]at z;cases z)]
 refine wpAny_bind (wpAny_pure (wpAny_bind (wpAny_dictEntries ho hdat (wpAny_bind (wpAny_dictEpoch ho hdat ?_)))))
 refine wpAny_bind (wpAny_newObj_type (wpAny_pure ⟨_,rfl,"dict_keyiterator",_,⟨_,Heap.get?_push_size _ rfl,rfl⟩,F.slot_dict_keyiterator_next.lookup,?_⟩));simpa [rawInt] using hQ
theorem Ho {Q:Option Value->Shared->Prop}(hit:s.heap.IsKeyIter it d i es.size ep)(hm:s.heap.DEnt d es ep)(hlt:i<es.size)
  (hQ:∀h',h'.IsKeyIter it d (i+1) es.size ep->Heap.SameBut it s.heap h'->Q (some es[i].key) {s with heap:=h' }):wpAny (model prog w) A (pyNext (.ref it)) Q E s:=by
 obtain⟨o,ho,hc,hd⟩:=id hit
 obtain⟨od,hod,hcd,hdd⟩:=id hm
 have hown:Builtin.Dict_items.ownsTuple "dict_keyiterator"=false:=by decide
 unfold pyNext
 refine wpAny_bind (wpAny_attempt (wpAny_callSpecial?_slot (name:=Str.ofString "__next__") hit.typeIs F.slot_dict_keyiterator_next (wpAny_call_entry F.slot_dict_keyiterator_next hit.typeIs F.entry_dict_keyiterator_next ?_ (F.args_dict_keyiterator_next_1 _))))
 refine wpAny_bind (wpAny_pure (wpAny_bind (wpAny_bind ?_)))
 first|refine wpAny_bind (wpAny_typeNameOfWhole_keyiter hit.typeIs (wpAny_pure (wpAny_bind (wpAny_fieldsOf ho hd ?_))))|refine wpAny_bind (wpAny_typeNameOf_keyiter hit.typeIs (wpAny_pure (wpAny_bind (wpAny_fieldsOf ho hd ?_))))
 simp only[hown,Bool.false_eq_true,if_false];show wpAny _ _ (if (Value.ref d==Value.none)=true then _ else _) _ _ s
 rw[if_neg (show ¬ ((Value.ref d==Value.none)=true) from fun z=>Bool.false_ne_true z)]
 refine wpAny_bind (wpAny_pure (wpAny_bind (wpAny_dictEntries hod hdd ?_)))
 rw[if_neg (by simp)];refine wpAny_bind (wpAny_pure (wpAny_bind (wpAny_dictEpoch hod hdd ?_)))
 rw[if_neg (by simp)];refine wpAny_pure ?_
 simp only[show ¬ ((i:Int)<0) from by omega,if_false,Int.toNat_natCast,Array.getElem?_eq_getElem hlt];refine wpAny_bind ?_
 first|refine wpAny_bind (wpAny_typeNameOfWhole_keyiter hit.typeIs (wpAny_pure (wpAny_bind (wpAny_isOneOf_keyiter hit.typeIs ?_))))|refine wpAny_bind (wpAny_typeNameOf_keyiter hit.typeIs (wpAny_pure (wpAny_bind (wpAny_isOneOf_keyiter hit.typeIs ?_))))
 show wpAny _ _ (setField (.ref it) 1 (rawInt ((i:Int)+1)) >>= _) _ _ s;refine wpAny_bind (wpAny_setField ho hd (by simp) ?_)
 have hit':(s.heap.update it (Obj.mapFields (·.setIfInBounds 1 (rawInt ((i:Int)+1))))).IsKeyIter it d (i+1) es.size ep:=⟨_,Heap.get?_update_self _ ho (Obj.isFreed_of_fields (Obj.data_mapFields hd _)),(Obj.cls_mapFields ..).trans hc,by rw[Obj.data_mapFields hd];simp[rawInt]⟩
 refine wpAny_bind (wpAny_holding (wpAny_bind (wpAny_isOneOf_keyiter (s:={s with heap:=s.heap.update it (Obj.mapFields (·.setIfInBounds 1 (rawInt ((i:Int)+1))))}) hit'.typeIs ?_)))
 show wpAny _ _ (pure es[i].key) _ _ _;exact wpAny_pure (wpAny_pure ⟨_,rfl,wpAny_pure (hQ _ hit' (Heap.SameBut.update ..))⟩)
theorem HD {Q:Option Value->Shared->Prop}(hh:A.handled=none)(hit:s.heap.IsKeyIter it d i es.size ep)(hm:s.heap.DEnt d es ep)(hge:es.size<=i)
  (hQ:∀h',Heap.ExtBut it s.heap h'->Q none {s with heap:=h' }):wpAny (model prog w) A (pyNext (.ref it)) Q E s:=by
 obtain⟨o,ho,hc,hd⟩:=id hit
 obtain⟨od,hod,hcd,hdd⟩:=id hm
 have hown:Builtin.Dict_items.ownsTuple "dict_keyiterator"=false:=by decide
 unfold pyNext
 refine wpAny_bind (wpAny_attempt (wpAny_callSpecial?_slot (name:=Str.ofString "__next__") hit.typeIs F.slot_dict_keyiterator_next (wpAny_call_entry F.slot_dict_keyiterator_next hit.typeIs F.entry_dict_keyiterator_next ?_ (F.args_dict_keyiterator_next_1 _))))
 refine wpAny_bind (wpAny_pure (wpAny_bind (wpAny_bind ?_)))
 first|refine wpAny_bind (wpAny_typeNameOfWhole_keyiter hit.typeIs (wpAny_pure (wpAny_bind (wpAny_fieldsOf ho hd ?_))))|refine wpAny_bind (wpAny_typeNameOf_keyiter hit.typeIs (wpAny_pure (wpAny_bind (wpAny_fieldsOf ho hd ?_))))
 simp only[hown,Bool.false_eq_true,if_false];show wpAny _ _ (if (Value.ref d==Value.none)=true then _ else _) _ _ s
 rw[if_neg (show ¬ ((Value.ref d==Value.none)=true) from fun z=>Bool.false_ne_true z)]
 refine wpAny_bind (wpAny_pure (wpAny_bind (wpAny_dictEntries hod hdd ?_)))
 rw[if_neg (by simp)];refine wpAny_bind (wpAny_pure (wpAny_bind (wpAny_dictEpoch hod hdd ?_)))
 rw[if_neg (by simp)];refine wpAny_pure ?_
 simp only[show ¬ ((i:Int)<0) from by omega,if_false,Int.toNat_natCast,Array.getElem?_eq_none hge];refine wpAny_bind ?_
 first|refine wpAny_bind (wpAny_typeNameOfWhole_keyiter hit.typeIs (wpAny_pure ?_))|refine wpAny_bind (wpAny_typeNameOf_keyiter hit.typeIs (wpAny_pure ?_))
 show wpAny _ _ (setField (.ref it) 0 .none >>= _) _ _ s;refine wpAny_bind (wpAny_setField ho hd (by simp) ?_)
 show wpAny _ _ (newExc (.type "StopIteration") [] >>= _) _ _ _;refine wpAny_bind ?_
 simp only[newExc,newTuple];refine wpAny_bind (wpAny_newObj_type ?_ (by size_fits))
 refine wpAny_bind (m:=firstArgMember _ _) (wpAny_of_eq (a:=Value.none) (by first|rfl|(simp only[firstArgMember];rfl)) (wpAny_newObj_type ?_ (by size_fits)))
 simp only[raiseNew];refine wpAny_bind (wpAny_handled ?_)
 rw[show A.in1.handled=none from hh];refine wpAny_bind (wpAny_pure (wpAny_throw ?_))
 refine wpAny_bind (wpAny_isInstance (T := "StopIteration") (b:=true) ⟨_,Heap.get?_push_size _ rfl,rfl⟩ isSubtype_stop (wpAny_pure (hQ _ (((Heap.SameBut.update ..).extBut.push _).push _))))
theorem Walks.dent (hh:A.handled=none)(I:Addr)(hne:d≠I):Walks prog w A I [I,d] [I] es.size (fun i v=>∃e,es[i]?=some e/\v=e.key) (fun i h=>h.IsKeyIter I d i es.size ep/\h.DEnt d es ep) where
 sub:=fun b hb=>by simp at hb;simp[hb]
 frame:=fun _ _ _ st hk=>⟨st.1.at fun o e=>hk I (by simp) o e,st.2.at fun o e=>hk d (by simp) o e⟩
 item:=fun i s Q E hi st hQ=>by
  refine Ho st.1 st.2 hi fun h' hit' hs'=>?_
  exact hQ _ h' s.toks ⟨es[i],by simp[hi],rfl⟩ ⟨hit',st.2.at fun o e=>hs'.extBut d o hne e⟩ fun b o hb e=>hs'.extBut b o (fun z=>hb (by simp[z])) e
 done:=fun s Q E st hQ=>HD hh st.1 st.2 (Nat.le_refl _) fun h' he'=>hQ h' s.toks fun b o hb e=>he' b o (fun z=>hb (by simp[z])) e
 self:=fun _ _ _ _ st hQ=>wpAny_pyIter_keyiter st.1 hQ
theorem ZQ (lo:(d==sysModules)=false):PySem.W.KdlSrc prog w "dict" d d es.size (fun i v=>∃e,es[i]?=some e/\v=e.key) (fun h=>h.DEnt d es ep) where
 type:=fun _ hm=>hm.typeIs
 there:=fun _ hm=>⟨hm.lt_size,hm.lt_size⟩
 keep:=fun _ _ hm hk=>hm.at fun o e=>hk d (.inl rfl) o e
 notList:=by decide
 notTuple:=by decide
 hint:=fun _ _ _ _ hm hq=>PySem.W.kdl_hint_dict hm.typeIs hq
 iter:=fun _ _ hh hm=>⟨_,_,(fun _ _ hq=>MS lo hm hq),Walks.dent hh _ (Nat.ne_of_lt hm.lt_size),⟨⟨_,Heap.get?_push_size _ rfl,rfl,rfl⟩,hm.at fun o e=>Heap.get?_push_of_some _ e⟩⟩
end
end PySem
namespace L2
open PySem PySem.Spec PyProof.Rows
theorem Jb {α β:Type}{F:α->β->Prop}:∀{l:List α} {m:List β} {i:Nat} {a:α},Paired F l m->l[i]?=some a->∃b,m[i]?=some b/\F a b
 |_,_,_,_,.nil,e=>by simp at e
 |_,_,0,_,.cons r _,e=>by simp at e;subst e;exact⟨_,rfl,r⟩
 |_,_,i+1,a,.cons _ t,e=>by
  obtain⟨b,h1,h2⟩:=Jb (i:=i) (a:=a) t (by simpa using e)
  exact⟨b,by simpa using h1,h2⟩
theorem Vc {P:Program}{w:World}{H:Hp}{h:Heap}{a:Addr}{kvs:List (List Key×V)}(ok:HOk P w H h)(e:Rd H a (.dT kvs)):
  ∃o es ep,h.get? a=some o/\o.ExactDict/\o.data=.dict es ep/\es.size=kvs.length/\(a==sysModules)=false/\kvs.length<=sizeLine /\
   ∀(i:Nat) (k:List Key) (v:V),kvs[i]?=some (k,v)->∃b en,es[i]?=some en/\en.key=.ref b/\H b=some (.tup (k.map kV)):=by
 obtain⟨z,y,xs,r,o,es,ep,h1,h2,h3,h4,h5⟩:=(show Bk P w H h a (.dT kvs) from ZF ok e)
 have hl:=Paired.length r
 have hs:es.size=kvs.length:=by rw[<-Array.length_toList,h4,List.length_map,hl]
 refine⟨o,es,ep,h1,h2,h3,hs,y,z,fun i k v hk=>?_⟩
 obtain⟨q,hq,e1,e2,_⟩:=Jb r hk
 refine⟨q.2.1,entryOfKey (tupleKind (Cd P w)) q,?_,rfl,e2⟩
 rw[<-Array.getElem?_toList,h4,List.getElem?_map,hq];rfl
section
variable {X:Cx} {pins:List (Addr×Obj)} {σ:St} {H:Hp} {s:Shared} {a:Addr}
theorem Inv.freeze {kvs:List (List Key×V)}{o:Obj}(I:Inv X pins σ H s)(e:H a=some (.dT kvs))(ho:s.heap.get? a=some o):Inv X pins σ (upd H a (.frz o (.dT kvs))) s:=by
 refine MO (h':=s.heap) (t':=s.toks) I (by rw[e];exact True.intro) ⟨rfl,fun _ _=>rfl⟩ ⟨o,ho⟩ ?_
 obtain⟨z,y,xs,r,q⟩:=(show Bk X.prog X.w H s.heap a (.dT kvs) from I.hok a _ e)
 refine⟨ho,z,y,xs,Paired.mapP r fun p x hx=>⟨hx.1,?_,hx.2.2⟩,q⟩
 rw[Av (fun z=>by have h1:=hx.2.1;rw[z,e]at h1;cases h1)]
 exact hx.2.1
end
def Itd (o:Obj)(a:Addr)(kvs:List (List Key×V)):It:=⟨fun i H=>i<kvs.length/\H a=some (.frz o (.dT kvs)),fun i H x H'=>H'=H/\∃b k v,kvs[i]?=some (k,v)/\x=.ref b/\H b=some (.tup (k.map kV)),fun i H=>kvs.length<=i/\H a=some (.frz o (.dT kvs))⟩
theorem WH {P:Program}{w:World}{K:PySem.W.Frag}{tg:Expr}{o:Obj}{a it:Addr}{kvs:List (List Key×V)}{es:Array DictEntry}{ep:Nat}(hai:a≠it)(hc:o.ExactDict)(hd:o.data=.dict es ep)(hs:es.size=kvs.length):
  Turn P w K tg (Itd o a kvs) [it] it (fun i h=>h.IsKeyIter it a i es.size ep) where
 mem:=by simp
 obj:=fun i h st b hb=>by
  have e:b=it:=by simpa using hb
  subst e
  obtain⟨o,e,c,d⟩:=st
  exact⟨o,e,fun v z=>by rw[d]at z;cases z⟩
 keep:=fun i h h' st k=>st.at fun o e=>k it (by simp) o e
 item:=by
  intro X hP hw hK hcm i pins s σ H E I hf st hg
  subst hP hw hK
  obtain⟨hi,hq⟩:=hg
  obtain⟨hko,_⟩:=(show Bk X.prog X.w H s.heap a (.frz o (.dT kvs)) from I.hok a _ hq)
  obtain⟨o',es',ep',g1,g2,g3,g4,g5,g6,g7⟩:=Vc I.hok (.inr ⟨o,hq⟩)
  rw[hko]at g1
  cases g1
  rw[hd]at g3
  cases g3
  obtain⟨kv,hkv⟩:∃kv,kvs[i]?=some kv:=⟨kvs[i],by simp[hi]⟩
  obtain⟨k,v⟩:=kv
  obtain⟨b,en,e1,e2,e3⟩:=g7 i k v hkv
  obtain⟨f0,f1,f2,f3,f4,f5⟩:=hf it (by simp)
  have hlt:i<es.size:=by omega
  have ee:es[i]=en:=by rw[Array.getElem?_eq_getElem hlt]at e1;exact Option.some.inj e1
  refine Ho st ⟨o,hko,hc,hd⟩ hlt fun h' st' sb=>?_
  have I1:Inv X pins σ H {s with heap:=h' }:=I.turned (t':=s.toks) (fun b o hb e=>(sb.2 b hb).trans e) f0 f1 f3 f4 f5
  obtain⟨io,e,c,d⟩:=id st'
  exact⟨_,rfl,XT (s:={s with heap:=h' }) e c d (by decide) ⟨.ref b,H,I1,(by rw[ee,e2];rfl),⟨rfl,b,k,v,hkv,rfl,e3⟩,st',fun b hb=>(hf b hb).1⟩⟩
 done:=by
  intro X hP hw hK hcm i pins s σ H E I hf st hg
  subst hP hw hK
  obtain⟨hi,hq⟩:=hg
  obtain⟨hko,_⟩:=(show Bk X.prog X.w H s.heap a (.frz o (.dT kvs)) from I.hok a _ hq)
  obtain⟨f0,f1,f2,f3,f4,f5⟩:=hf it (by simp)
  exact HD (I.ok.hd hcm) st ⟨o,hko,hc,hd⟩ (by omega) fun h' eb=>⟨rfl,I.turned (t':=s.toks) (fun b o hb e=>eb b o hb e) f0 f1 f3 f4 f5⟩
 self:=fun _ _ _ _ _ st h=>wpAny_pyIter_keyiter st h
def Bq_ (td:TE):TI:=fun σ H R=>td σ H fun x H1=>∃a kvs,x=.ref a/\H1 a=some (.dT kvs)/\∀o,R (Itd o a kvs) (upd H1 a (.frz o (.dT kvs)))
theorem V7 {te:TE}{σ:St}{H:Hp}{Z:It->Hp->Prop}:Bq_ te σ H Z=te σ H fun x H1=>∃a kvs,x=.ref a/\H1 a=some (.dT kvs)/\∀o,Z (Itd o a kvs) (upd H1 a (.frz o (.dT kvs))):=rfl
theorem ZR {X:Cx}{tg:Expr}{l:Expr}{tl:TE}(hl:PE X l tl):PI X tg l (Bq_ tl):=by
 intro pins s σ H R I h
 refine thn (hl pins s σ H _ I h) fun v s1 ⟨x,H1,I1,r1,q1⟩=>?_
 obtain⟨a,kvs,e,hq,q⟩:=q1
 subst e
 cases r1
 obtain⟨o,es,ep,g1,g2,g3,g4,g5,g6,g7⟩:=Vc I1.hok (.inl hq)
 have I2:=I1.freeze hq g1
 refine MS g5 ⟨o,g1,g2,g3⟩ ?_
 refine⟨s1.heap.objs.size,[s1.heap.objs.size],_,_,_,rfl,I2.kept (t':=s1.toks) fun b o e=>Heap.get?_push_of_some _ e,WH (o:=o) (kvs:=kvs) (Nat.ne_of_lt (Heap.lt_size g1)) g2 g3 g4,⟨_,Heap.get?_push_size _ rfl,rfl,rfl⟩,fun b hb=>?_,q o⟩
 have e:b=s1.heap.objs.size:=by simpa using hb
 subst e
 exact I2.fpOk (Nat.le_refl _) (I2.hok.fresh (Nat.le_refl _))
theorem HE {X:Cx}(hc:X.calm=true):Jg X (.type "list") (fun xs H Q=>∃p kvs,xs=[.ref p]/\Rd H p (.dT kvs)/\∀l rs,H l=none->rs.length=kvs.length ->
  (∀(i:Nat) (k:List Key) (v:V),kvs[i]?=some (k,v)->∃b,rs[i]?=some (V.ref b)/\H b=some (.tup (k.map kV)))->Q (.ref l) (upd H l (.lst rs))):=by
 intro pins s σ H xs us Q I r h
 obtain⟨p,kvs,rfl,hp,q⟩:=h
 obtain⟨u,rfl,rx⟩:=vals1 r
 cases rx
 obtain⟨o,es,ep,g1,g2,g3,g4,g5,g6,g7⟩:=Vc I.hok hp
 refine PySem.W.kdl_call (ZQ (es:=es) (ep:=ep) g5) (I.ok.hd hc) ⟨o,g1,g2,g3⟩ (by omega) fun h' tk acc' c' hk hD hacc=>?_
 let f:DictEntry->V:=fun e=>match e.key with | .ref b=>V.ref b|_=>.non
 have hat:∀(i:Nat) (k:List Key) (v:V),kvs[i]?=some (k,v)->∃b,(es.toList.map f)[i]?=some (V.ref b)/\H b=some (.tup (k.map kV)):=fun i k v hkv=>by
  obtain⟨b,en,e1,e2,e3⟩:=g7 i k v hkv
  refine⟨b,?_,e3⟩
  rw[List.getElem?_map,Array.getElem?_toList,e1]
  show some (f en)=_
  simp only[f,e2]
 have hlen:(es.toList.map f).length=kvs.length:=by rw[List.length_map,Array.length_toList,g4]
 have hv:Vals (es.toList.map f) acc'.toList:=by
  refine Vals.ofIx (by rw[hlen,<-g4];simpa using hacc.1) fun i v hv=>?_
  obtain⟨e,he,rfl⟩:=hacc.2 i v (by simpa using hv)
  have hi:i<kvs.length:=by rw[<-g4];exact (Array.getElem?_eq_some_iff.mp he).1
  obtain⟨b,en,e1,e2,e3⟩:=g7 i kvs[i].1 kvs[i].2 (by simp[hi])
  rw[he]at e1
  cases e1
  refine⟨V.ref b,?_,by rw[e2];rfl⟩
  rw[List.getElem?_map,Array.getElem?_toList,he]
  show some (f e)=_
  simp only[f,e2]
 exact⟨.ref _,_,I.laid (t':=tk) hk (Nat.le_refl _) (show Bk X.prog X.w _ h' _ (.lst (es.toList.map f)) from ⟨by rw[hlen];exact g6,acc'.toList,c',hv,by simpa using hD⟩),rfl,q _ _ (I.hok.fresh (Nat.le_refl _)) hlen hat⟩
end L2
namespace GB
open GW
variable {α:Type} [DecidableEq α]
def Em_ (step:α->Int->α)(a:α)(ws:List Int):α:=ws.foldl step a
structure B (L:Int)(step:α->Int->α)(st:α)(ok:α->Prop)(ents:List (α×List Int))(i:Nat)(top:Int):Prop where
 hd:ents[0]?=some (st,[])
 il:i<=ents.length
 sh:∀(j:Nat) (e:α×List Int),ents[j]?=some e->e.2.length<=j
 nod:(ents.map (·.1)).Nodup
 rng:∀e∈ents,ok e.1
 wd:∀e∈ents,isW L e.2=true/\Em_ step st e.2=e.1
 inc:∀(j k:Nat) (a b:α×List Int),j<k->ents[j]?=some a->ents[k]?=some b->place L a.2<place L b.2
 bnd:∀e∈ents,place L e.2<top
 don:∀j,j<i->∀e,ents[j]?=some e->∀x:Int,0<=x->x<L->∃e'∈ents,e'.1=step e.1 x/\place L e'.2<=place L (e.2++[x])
variable {L:Int} {step:α->Int->α} {st:α} {ok:α->Prop} {ents:List (α×List Int)} {i:Nat} {top:Int}
def En_ (ways:List (List Int))(r:Int)(ws:List Int):Int:=ws.foldl (DK_ ways) r
end GB
namespace L2
open PySem PySem.Spec PyProof.Rows GW GB
def TK (H H':Hp):Prop:=∀b xs,H b=some (.tup xs)->H' b=some (.tup xs)
theorem TK.of {H H':Hp}(s:Same H H'):TK H H':=fun b xs h=>s b _ h
theorem TK.new {H:Hp}{p:Addr}{o:HO}(h:H p=none):TK H (upd H p o):=TK.of (Same.new h)
end L2
namespace L2
theorem YG {σ:St}{H:Hp}{Q:VK}:AR_ σ H Q=∀p,H p=none->Q (.ref p) (upd H p (.dK [])):=rfl
theorem YH {σ:St}{H:Hp}{Q:VK}:AS_ σ H Q=∀p,H p=none->Q (.ref p) (upd H p (.dT [])):=rfl
end L2
namespace GB
open GW
theorem YI {L:Int}(hL:0<L){w:List Int}(hw:isW L w=true):0<=place L w:=by
 have:=(LP hL hw).1
 have:=Fp hL w.length
 omega
theorem MT {L:Int}{v w:List Int}(h:isW L v=true)(g:isW L w=true):isW L (v++w)=true:=Bl.mpr fun x hx=>(List.mem_append.mp hx).elim (Bl.mp h x) (Bl.mp g x)
end GB
namespace L2
open PySem PySem.Spec PyProof.Rows GW
theorem Same.none {H H':Hp}(s:Same H H'){p:Addr}(h:H' p=none):H p=none:=by
 cases e:H p with
 |none=>rfl
 |some u=>rw[s _ _ e]at h;cases h
end L2
namespace L2
open PySem PySem.Spec PyProof.Rows
theorem Vd:∀(names:List (Str×NameKind)) (h:Heap) (acc:List (Str×Addr)) (x:Str) (c:Addr),(cellsFrom h.objs.size names acc).lookup x=some c->((pushCells h names).IsCell c none/\h.objs.size<=c)\/acc.lookup x=some c
 |[],_,_,_,_,e=>.inr e
 | (y,k)::r,h,acc,x,c,e=>by
  unfold cellsFrom at e
  unfold pushCells
  by_cases hk:(k == .cell)=true
  ·rw[if_pos hk]at e ⊢
   have e':(cellsFrom (h.push {cls:=.type "cell",data:=.cell none}).objs.size r ((y,h.objs.size)::acc)).lookup x=some c:=by rw[Heap.size_push];exact e
   rcases Vd r _ _ x c e' with ⟨a,b⟩|q
   ·rw[Heap.size_push]at b
    exact .inl ⟨a,Nat.le_of_succ_le b⟩
   ·rw[List.lookup_cons]at q
    cases hx:x==y with
    |true=>
     rw[hx]at q
     have:h.objs.size=c:=Option.some.inj q
     subst this
     exact .inl ⟨⟨_,pushCells_keeps _ _ _ _ (Heap.get?_push_size _ rfl),rfl⟩,Nat.le_refl _⟩
    |false=>rw[hx]at q;exact .inr q
  ·rw[if_neg hk]at e ⊢
   exact Vd r h acc x c e
theorem MA:∀(names:List (Str×NameKind)) (n:Nat) (acc:List (Str×Addr)) (x:Str) (c:Addr),(cellsFrom n names acc).lookup x=some c->n<=c\/acc.lookup x=some c
 |[],_,_,_,_,e=>.inr e
 | (y,k)::r,n,acc,x,c,e=>by
  unfold cellsFrom at e
  by_cases hk:(k == .cell)=true
  ·rw[if_pos hk]at e
   rcases MA r _ _ x c e with b|q
   ·exact .inl (Nat.le_of_succ_le b)
   ·rw[List.lookup_cons]at q
    cases hx:x==y with
    |true=>rw[hx]at q;have:n=c:=Option.some.inj q;exact .inl (Nat.le_of_eq this)
    |false=>rw[hx]at q;exact .inr q
  ·rw[if_neg hk]at e
   exact MA r n acc x c e
theorem YJ:∀(names:List (Str×NameKind)) (n:Nat) (acc:List (Str×Addr)),(∀x y c,acc.lookup x=some c->acc.lookup y=some c->x=y)->(∀x c,acc.lookup x=some c->c<n)->∀x y c,(cellsFrom n names acc).lookup x=some c->(cellsFrom n names acc).lookup y=some c->x=y
 |[],_,_,hi,_,x,y,c,e1,e2=>hi x y c e1 e2
 | (z,k)::r,n,acc,hi,hb,x,y,c,e1,e2=>by
  unfold cellsFrom at e1 e2
  by_cases hk:(k == .cell)=true
  ·rw[if_pos hk]at e1 e2
   refine YJ r (n+1) ((z,n)::acc) (fun x y c h1 h2=>?_) (fun x c h=>?_) x y c e1 e2
   ·rw[List.lookup_cons]at h1 h2
    cases hx:x==z with
    |true=>
     cases hy:y==z with
     |true=>rw[beq_iff_eq.mp hx,beq_iff_eq.mp hy]
     |false=>
      rw[hx]at h1;rw[hy]at h2
      have e:n=c:=Option.some.inj h1
      exact absurd (hb y c h2) (by rw[<-e];exact Nat.lt_irrefl _)
    |false=>
     cases hy:y==z with
     |true=>
      rw[hx]at h1;rw[hy]at h2
      have e:n=c:=Option.some.inj h2
      exact absurd (hb x c h1) (by rw[<-e];exact Nat.lt_irrefl _)
     |false=>rw[hx]at h1;rw[hy]at h2;exact hi x y c h1 h2
   ·rw[List.lookup_cons]at h
    cases hx:x==z with
    |true=>rw[hx]at h;have e:n=c:=Option.some.inj h;rw[<-e];exact Nat.lt_succ_self _
    |false=>rw[hx]at h;exact Nat.lt_succ_of_lt (hb x c h)
  ·rw[if_neg hk]at e1 e2
   exact YJ r n acc hi hb x y c e1 e2
theorem Ve:∀(names:List (Str×NameKind)) (n:Nat) (acc:List (Str×Addr)) (x:Str),(∀p∈names,p.1=x->p.2 ≠ .cell)->(cellsFrom n names acc).lookup x=acc.lookup x
 |[],_,_,_,_=>rfl
 | (y,k)::r,n,acc,x,h=>by
  unfold cellsFrom
  by_cases hk:(k == .cell)=true
  ·rw[if_pos hk,Ve r _ _ x fun p hp=>h p (List.mem_cons_of_mem _ hp),List.lookup_cons]
   cases hx:x==y with
   |true=>exact absurd (beq_iff_eq.mp hk) (h (y,k) List.mem_cons_self (beq_iff_eq.mp hx).symm)
   |false=>rfl
  ·rw[if_neg hk]
   exact Ve r n acc x fun p hp=>h p (List.mem_cons_of_mem _ hp)
theorem TC {M:Model}{A:Around}{E:Value->Shared->Prop}{s:Shared}{sc:Scope}{globals:Addr}{cl:List (Str×Addr)}{qual:Str}{outer:Env}{Q:Env->Shared->Prop}
  (hQ:Q {scope:=sc,locals:=s.heap.objs.size,globals,cells:=cellsFrom (s.heap.objs.size+1) sc.names cl,qual,func:=none,code:=outer.code,frame:=outer.frame,builtins:=outer.builtins} {s with heap:=pushCells (s.heap.push {cls:=.type "dict",data:=.dict #[]}) sc.names}):
  wpAny M A (newFunctionEnv sc globals cl [] qual none .none (some outer)) Q E s:=by
 simp only[newFunctionEnv,Option.isSome_some,if_true]
 refine wpAny_bind (wpAny_alloc (wpAny_bind (wpAny_layCells _ (fun name kind cells=>by cases hkc:kind==NameKind.cell<;>simp[hkc]) _ _ _ _ ?_)))
 rw[show ({s with heap:=s.heap.push {cls:=.type "dict",data:=.dict #[]} }:Shared).heap.objs.size=s.heap.objs.size+1 from Heap.size_push ..]
 refine wpAny_bind ?_
 rw[List.forIn_nil]
 exact wpAny_pure (wpAny_pure hQ)
abbrev ownC (X:Cx)(sc:Scope)(C:Addr):List (Str×Addr):=cellsFrom (C+1) sc.names (clOf X.env sc.names [])
abbrev Cx.blkC (X:Cx)(N:List Str)(sc:Scope)(C:Addr)(s₀:Shared)(H₀:Hp)(ex:List Addr):Cx:=
 {X with N:=N,env:=compEnvC sc (ownC X sc C) C X.env,outer:=X.stack,s₀:=s₀,H₀:=H₀,ex:=ex,fn:=fun x=>sc.names.lookup x==some .cell,pn:=[],xe:=fun _ _=>False}
theorem MU {env:Env}:∀(l:List (Str×NameKind)) (acc:List (Str×Addr)) (x:Str) (c:Addr),(x,c)∈clOf env l acc->(x,NameKind.free)∈l\/(x,c)∈acc
 |[],_,_,_,h=>.inr h
 | (n,k)::r,acc,x,c,h=>by
  unfold clOf at h
  by_cases hk:(k == .free)=true
  ·rw[if_pos hk]at h
   rcases MU r _ x c h with q|q
   ·exact .inl (List.mem_cons_of_mem _ q)
   ·rcases List.mem_cons.mp q with q|q
    ·cases q
     rw[beq_iff_eq.mp hk]
     exact .inl List.mem_cons_self
    ·exact .inr q
  ·rw[if_neg hk]at h
   rcases MU r _ x c h with q|q
   ·exact .inl (List.mem_cons_of_mem _ q)
   ·exact .inr q
structure BlkScC (X:Cx)(sc:Scope):Prop where
 kind:sc.kind=.function
 one:∀y∈sc.names,∀z∈sc.names,y.1=z.1->y.2=z.2
 loc:∀y∈sc.names,y.2=.local->sc.names.lookup y.1=some .local
 free:∀y∈sc.names,y.2=.free->X.env.kindOf y.1=some .cell\/X.env.kindOf y.1=some .free
section
variable {X:Cx} {pins:List (Addr×Obj)} {σ:St} {H:Hp} {s:Shared} {sc:Scope} {fp:List Addr}
theorem K6 (I:Inv X pins σ H s)(S:BlkScC X sc):∀p∈sc.names,p.2=.free->∃c,X.env.cells.lookup p.1=some c:=fun p hp e=>I.ok.has p.1 (S.free p hp e)
theorem GF (I:Inv X pins σ H s)(S:BlkScC X sc){x:Str}{c:Addr}(h:(clOf X.env sc.names []).lookup x=some c):X.env.cells.lookup x=some c:=
 My sc.names [] (K6 I S) (fun q hq=>by cases hq) (x,c) (PySem.mem_of_lookup h)
theorem K7 {C:Addr}(I:Inv X pins σ H s)(S:BlkScC X sc){x:Str}{c:Addr}(h:(ownC X sc C).lookup x=some c):C+1<=c\/X.env.cells.lookup x=some c:=by
 rcases MA _ _ _ _ _ h with q|q
 ·exact .inl q
 ·exact .inr (GF I S q)
theorem GG {env:Env}:∀{names:List (Str×NameKind)} {x:Str} {k:NameKind},(names.map (relF env)).lookup x=some k->(k=.cell\/k=.free)->(x,NameKind.free)∈names\/names.lookup x=some .cell
 |[],_,_,h,_=>by simp at h
 | (n,k')::r,x,k,h,hk=>by
  have ih := @GG env r x k
  rw[List.map_cons]at h
  rw[List.lookup_cons]
  by_cases hb:(k'==NameKind.free&&env.scope.kind == .function&&env.kindOf n==some .cell)=true
  ·rw[Mz hb,List.lookup_cons]at h
   cases hx:x==n with
   |true=>
    have e:x=n:=by simpa using hx
    subst e
    have e2:k'=.free:=by
     simp only[Bool.and_eq_true]at hb
     simpa using hb.1.1
    subst e2
    exact .inl List.mem_cons_self
   |false=>
    rw[hx]at h
    rcases ih h hk with q|q
    ·exact .inl (List.mem_cons_of_mem _ q)
    ·exact .inr q
  ·rw[PR hb,List.lookup_cons]at h
   cases hx:x==n with
   |true=>
    rw[hx]at h
    have e:x=n:=by simpa using hx
    subst e
    have e2:k'=k:=Option.some.inj h
    subst e2
    rcases hk with rfl|rfl
    ·exact .inr rfl
    ·exact .inl List.mem_cons_self
   |false=>
    rw[hx]at h
    rcases ih h hk with q|q
    ·exact .inl (List.mem_cons_of_mem _ q)
    ·exact .inr q
theorem Cg_ {N:List Str}{C:Addr}(I:Inv X pins σ H s)(S:BlkScC X sc)(hC:s.heap.objs.size<=C)(hf:∀b∈fp,FpOk X pins H b)(ho:∀b∈fp,∃o,s.heap.get? b=some o):(X.blkC N sc C s H fp).Ok where
 mod:=I.ok.mod
 kind:=S.kind
 glob:=I.ok.glob
 blt:=I.ok.blt
 above:=hC
 inj:=fun x y c h1 h2=>by
  refine YJ sc.names (C+1) (clOf X.env sc.names []) (fun x y c h1 h2=>I.ok.inj x y c (GF I S h1) (GF I S h2)) (fun x c h=>?_) x y c h1 h2
  obtain⟨v,q⟩:=I.cell x c (GF I S h)
  exact Nat.lt_succ_of_lt (Nat.lt_of_lt_of_le q.lt hC)
 has:=fun x hx=>by
  have hx':(x,NameKind.free)∈sc.names\/sc.names.lookup x=some .cell:=by
   rcases hx with hx|hx
   ·exact GG (env:=X.env) hx (.inl rfl)
   ·exact GG (env:=X.env) hx (.inr rfl)
  refine Option.isSome_iff_exists.mp (PySem.W.cellsFrom_some sc.names (C+1) (clOf X.env sc.names []) ?_)
  rcases hx' with q|q
  ·obtain⟨c,hc⟩:=I0 (env:=X.env) sc.names [] x (.inl q)
   obtain⟨c',e⟩:=BU hc
   exact .inr (by rw[e];rfl)
  ·exact .inl q
 cab:=fun x c h e=>by
  have hx:sc.names.lookup x=some .cell:=by simpa using h
  rcases MA _ _ _ _ _ e with q|q
  ·exact Nat.le_trans hC (Nat.le_of_succ_le q)
  ·rcases MU _ _ _ _ (PySem.mem_of_lookup q) with z|z
   ·have:=S.one _ (PySem.mem_of_lookup hx) _ z rfl
    cases this
   ·cases z
 hd:=I.ok.hd
 frames:=I.ok.frames
 stk:=.inl rfl
 exf:=fun b hb=>by
  obtain⟨o,ho⟩:=ho b hb
  refine⟨Nat.ne_of_lt (Nat.lt_of_lt_of_le (Heap.lt_size ho) hC),fun x c h=>?_⟩
  rcases K7 I S h with q|q
  ·intro z;rw[z]at q;exact absurd (Nat.lt_of_lt_of_le (Heap.lt_size ho) hC) (Nat.not_lt_of_le (Nat.le_of_succ_le q))
  ·exact (hf b hb).2.2.2.2.1 x c q
 bs:=I.bs
 bsz:=Nat.le_trans I.ok.bsz I.sz
 noex:=fun b o e hb=>by
  rcases (hf b hb).2.2.2.1 with z|z
  ·exact I.ok.noex b o e z
  ·exact absurd (Nat.lt_of_lt_of_le (Heap.lt_size (I.ok.bs b o e).1) z) (Nat.lt_irrefl _)
 exfs:=fun b hb z=>by
  rcases List.mem_cons.mp (I.stkSub b z) with e|e
  ·exact (hf b hb).2.1 e
  ·exact (hf b hb).2.2.1 e
 funs:=I.stack
 frf:=I.stkFree
theorem WI {c:Caps}{C:Addr}{s4:Shared}{m:Str->Option Value}(I:Inv X pins σ H s)(S:BlkScC X sc)(hc:Fb X.N sc c)(hC:s.heap.objs.size<=C)(hf:∀b∈fp,FpOk X pins H b)(ho:∀b∈fp,∃o,s.heap.get? b=some o)
  (hos:s4.os=s.os) (hb:s4.gens=s.gens) (hk:∀b o,s.heap.get? b=some o->s4.heap.get? b=some o) (hn:s4.heap.Ns C m)
  (hcl:∀x c,(ownC X sc C).lookup x=some c->(s4.heap.IsCell c none/\C+1<=c)\/(clOf X.env sc.names []).lookup x=some c):Inv (X.blkC c.names sc C s H fp) [] (c.st σ) H s4 where
 ok:=Cg_ I S hC hf ho
 os:=hos
 bare:=by rw[hb];exact I.bare
 base:=Un.kept hk
 loc:=by
  refine⟨m,hn,fun i x v h1 h2 hv=>?_⟩
  have h1':(c.map (·.1))[i]?=some x:=h1
  have h2':(c.map fun p=>p.2.bind fun j=>(σ[j]?).join)[i]?=some (some v):=h2
  rw[List.getElem?_map]at h1' h2'
  cases e:c[i]? with
  |none=>rw[e]at h1';cases h1'
  |some p=>
   obtain⟨y,oj⟩:=p
   rw[e]at h1' h2'
   have e1:y=x:=Option.some.inj h1'
   subst e1
   have e2:(oj.bind fun j=>(σ[j]?).join)=some v:=Option.some.inj h2'
   cases oj with
   |none=>cases e2
   |some j=>
    have e3:(σ[j]?).join=some v:=e2
    have e4:σ[j]?=some (some v):=by
     cases q:σ[j]? with
     |none=>rw[q]at e3;cases e3
     |some z=>rw[q]at e3;exact congrArg some e3
    obtain⟨k1,k2⟩:=Fb.get hc e
    have kmem:=PySem.mem_of_lookup k2
    have k3:X.env.kindOf y=some .cell\/X.env.kindOf y=some .free:=S.free (y,.free) kmem rfl
    have vis:Vis X.env.scope y:=by
     rcases k3 with k|k
     ·exact .inr (.inl k)
     ·exact .inr (.inr k)
    obtain⟨mX,hnX,hl⟩:=I.loc
    obtain⟨u,r,l⟩:=hl j y v k1 e4 vis
    refine⟨u,r,?_⟩
    rcases l with ⟨k,_⟩|⟨_,ca,hca,z⟩
    ·rcases k3 with k' | k'<;>(rw[k]at k';cases k')
    ·obtain⟨kd,hkd,ek⟩:=Hz (env:=X.env) k2
     have hk2:(compEnvC sc (ownC X sc C) C X.env).kindOf y=some kd:=ek
     obtain⟨c',hc'⟩:=I0 (env:=X.env) sc.names [] y (.inl kmem)
     obtain⟨c2,hc2⟩:=BU hc'
     have e5:=GF I S hc2
     rw[hca]at e5
     have e6:ca=c2:=Option.some.inj e5
     subst e6
     have e7:(ownC X sc C).lookup y=some ca:=by
      rw[Ve sc.names (C+1) _ y fun p hp ep z=>?_]
      ·exact hc2
      ·have:=S.one p hp (y,.free) kmem ep
       rw[z]at this;cases this
     refine .inr ⟨?_,ca,e7,?_⟩
     ·rcases hkd with rfl|rfl
      ·exact .inl hk2
      ·exact .inr hk2
     ·obtain⟨oc,hoc,hd⟩:=z
      exact⟨oc,hk _ _ hoc,hd⟩
 cell:=fun x ca h=>by
  rcases hcl x ca h with ⟨q,_⟩|q
  ·exact⟨_,q⟩
  ·obtain⟨v,oc,hoc,hd⟩:=I.cell x ca (GF I S q)
   exact⟨v,oc,hk _ _ hoc,hd⟩
 free:=I.hok.fresh hC
 freeC:=fun x ca h=>by
  rcases hcl x ca h with ⟨_,q⟩|q
  ·exact I.hok.fresh (Nat.le_trans hC (Nat.le_of_succ_le q))
  ·exact I.freeC x ca (GF I S q)
 pin:=fun p hp=>absurd (show p∈([]:List (Addr×Obj)) from hp) (by simp)
 hok:=I.hok.kept hk
 len:=by show (c.map _).length=(c.map _).length;rw[List.length_map,List.length_map]
theorem ZS {c:Caps}{C D:Addr}{s':Shared}{σ':St}{H':Hp}{o:HO}(I:Inv X pins σ H s)(J:Inv (X.blkC c.names sc C s H fp) [] σ' H' s')(hf:∀b∈fp,FpOk X pins H b)(hD:s.heap.objs.size<=D)(hn:H' D=none)
  (new:Bk X.prog X.w (upd H' D o) s'.heap D o):Inv X pins σ (upd H' D o) s':=by
 have u:Un (frs X.stack) fp H H' s.heap s'.heap:=J.base
 exact I.call' J.os (u.track hD hn) (J.hok.track hn new) J.bare fun b hb=>⟨(hf b hb).2.2.2.1,(hf b hb).2.1,(hf b hb).2.2.2.2.1,(hf b hb).2.2.2.2.2⟩
end
section
variable {X:Cx} {tg iter elt:Expr} {ifs:List Expr} {sc:Scope} {pos:Pos} {wi:TI} {cp:Caps} {g:TG} {tc:TT} {te:TE}
theorem O4 (hc:X.calm=true)(S:BlkScC X sc)(hcp:Fb X.N sc cp)
  (hg:∀C s₀ H₀ ex,PG (X.blkC cp.names sc C s₀ H₀ ex) tg g) (hf:∀C s₀ H₀ ex,PF (X.blkC cp.names sc C s₀ H₀ ex) ifs tc) (he:∀C s₀ H₀ ex,PE (X.blkC cp.names sc C s₀ H₀ ex) elt te)
  {pins:List (Addr×Obj)} {σ:St} {H:Hp} {s:Shared} {J:It} {it:Addr} {fp:List Addr} {tn:Nat->Heap->Prop} {Q:VK} {RR:Value->Addr->Result->Shared->Prop} {E:Value->Shared->Prop}
  (I:Inv X pins σ H s) (T:Turn X.prog X.w X.K tg J fp it tn) (st:tn 0 s.heap) (fpo:∀b∈fp,FpOk X pins H b)
  (hw:∃W:Nat->Nat->List V->St->Hp->Prop,(∃m,W 0 m [] (cp.st σ) H)/\∀i m ys σ' H',W i m ys σ' H' ->
   ys.length<sizeLine/\((J.stop i H'/\∀D,H' D=none->Q (.ref D) (upd H' D (.lst ys)))\/(J.go i H'/\∃N:List V->St->Hp->Prop,(∀zs σ2 H2,N zs σ2 H2->∃m',m'<m/\W (i+1) m' zs σ2 H2)/\∀x H2,J.yld i H' x H2->g x σ' H2 fun σ2 H3=>tc σ2 H3 fun b H4=>
    if b=true then te σ2 H4 fun v H5=>N (ys++[v]) σ2 H5 else N ys σ2 H4)))
  (hR:∀D C s' H' (m:Str->Option Value),Inv X pins σ H' s'->Q (.ref D) H'->s'.heap.Ns C m->H' C=none->C≠X.env.locals->X.s₀.heap.objs.size<=C->(∀x c,X.env.cells.lookup x=some c->c≠C)->(∀p∈X.pn++pins,p.1≠C)->RR (.ref D) C (.ok .next) s'):
  wpAny (model X.prog X.w) X.A (newList []) (fun acc s₃=>wpAny (model X.prog X.w) X.A (newFunctionEnv sc X.env.globals (clOf X.env sc.names []) [] X.env.qual none .none (some X.env)) (fun cenv s₄=>
   codeAny (model X.prog X.w) X.A (.compStart (.ListComp elt [⟨tg,iter,ifs,0⟩] sc pos) 0 (.ref it) acc {cenv with scope:=relabel sc X.env}) (RR acc cenv.locals) s₄) E s₃) E s:=by
 obtain⟨W,⟨m0,w0⟩,turn⟩:=hw
 refine wpAny_newObj_type (TC ?_)
 dsimp only
 generalize hH2:s.heap.push {cls:=.type "list",dict:=none,data:=.seq ([]:List Value).toArray}=H2
 obtain⟨h₁,hh₁⟩:∃h₁,h₁=pushCells (H2.push {cls:=.type "dict",data:=.dict #[]}) sc.names:=⟨_,rfl⟩
 rw[<-hh₁]
 have hcells:∀x c,(ownC X sc H2.objs.size).lookup x=some c->(h₁.IsCell c none/\H2.objs.size+1<=c)\/(clOf X.env sc.names []).lookup x=some c:=fun x c e=>by
  have:=Vd sc.names (H2.push {cls:=.type "dict",data:=.dict #[]}) (clOf X.env sc.names []) x c (by rw[Heap.size_push];exact e)
  rw[Heap.size_push]at this
  rw[hh₁];exact this
 have hns₁:h₁.Ns H2.objs.size (fun _=>none):=by rw[hh₁];exact (Heap.Ns.new H2 (.type "dict")).keeps (pushCells_keeps _ _)
 have keep₁:∀b o,H2.get? b=some o->h₁.get? b=some o:=fun b o e=>by rw[hh₁];exact pushCells_keeps _ _ b o (Heap.get?_push_of_some _ e)
 have hC:H2.objs.size=s.heap.objs.size+1:=by rw[<-hH2,Heap.size_push]
 have hDC:s.heap.objs.size≠H2.objs.size:=by rw[hC];exact Nat.ne_of_lt (Nat.lt_succ_self _)
 have hCle:s.heap.objs.size<=H2.objs.size:=by rw[hC];exact Nat.le_succ _
 have below:∀b,b<s.heap.objs.size->b≠H2.objs.size:=fun b hb=>by rw[hC];exact Nat.ne_of_lt (Nat.lt_succ_of_lt hb)
 have old:∀b o,s.heap.get? b=some o->h₁.get? b=some o:=fun b o e=>keep₁ b o (hH2 ▸ Heap.get?_push_of_some _ e)
 have hacc:h₁.get? s.heap.objs.size=some {cls:=.type "list",data:=.seq ([]:List Value).toArray 0}:=keep₁ _ _ (hH2 ▸ Heap.get?_push_size _ rfl)
 have hst₁:tn 0 h₁:=T.keep 0 _ _ st fun b _ o e=>old b o e
 have hobj:∀b∈fp,∃o,s.heap.get? b=some o:=fun b hb=>let ⟨o,e,_⟩:=T.obj 0 _ st b hb;⟨o,e⟩
 have J0:Inv (X.blkC cp.names sc H2.objs.size s H fp) [] (cp.st σ) H {s with heap:=h₁}:=WI I S hcp hCle fpo hobj rfl rfl old hns₁ hcells
 have nfs:∀b,s.heap.objs.size<=b->b∉frs X.stack:=fun b hb z=>by
  rcases List.mem_cons.mp (I.stkSub b z) with e|e
  ·exact absurd (Nat.lt_of_lt_of_le I.lt (by rw[<-e];exact hb)) (Nat.lt_irrefl _)
  ·exact I.nofs hb e
 have ncell:∀b,s.heap.objs.size<=b->∀x c,X.env.cells.lookup x=some c->c≠b:=fun b hb x c e z=>by
  obtain⟨v,q⟩:=I.cell x c e
  exact absurd (Nat.lt_of_lt_of_le q.lt (by rw[z];exact hb)) (Nat.lt_irrefl _)
 have fpb:∀{pins':List (Addr×Obj)} {H':Hp},(∀b∈fp,H' b=none)->(∀p∈pins',p.1∉fp)->∀b∈fp,FpOk (X.blkC cp.names sc H2.objs.size s H fp) pins' H' b:=fun {pins' H'} hn hp b hb=>by
  obtain⟨o,e⟩:=hobj b hb
  refine⟨hn b hb,below b (Heap.lt_size e),fun z=>?_,.inl hb,fun x c h=>(by
   rcases K7 I S h with q|q
   ·intro z;rw[z]at q;exact absurd (Heap.lt_size e) (Nat.not_lt_of_le (Nat.le_trans hCle (Nat.le_of_succ_le q)))
   ·exact (fpo b hb).2.2.2.2.1 x c q),fun p hp' z=>?_⟩
  ·rcases List.mem_cons.mp (I.stkSub b z) with e|e
   ·exact (fpo b hb).2.1 e
   ·exact (fpo b hb).2.2.1 e
  ·have hp'':p∈pins':=by simpa using hp'
   exact hp p hp'' (by rw[z];exact hb)
 have loop:∀s₃:Shared,s₃={s with heap:=h₁} ->
   codeAny (model X.prog X.w) X.A (.compLoop (.ListComp elt [⟨tg,iter,ifs,0⟩] sc pos) 0 (.ref it) (.ref s.heap.objs.size) (compEnvC sc (ownC X sc H2.objs.size) H2.objs.size X.env))
    (RR (.ref s.heap.objs.size) H2.objs.size) s₃:=by
  rintro s₃ rfl
  refine LN (fun n s'=>∃i σ' H' ys its k,Inv (X.blkC cp.names sc H2.objs.size s H fp) [] σ' H' s'/\tn i s'.heap/\(∀b∈fp,H' b=none)/\H' s.heap.objs.size=none /\
   s'.heap.get? s.heap.objs.size=some {cls:=.type "list",data:=.seq its.toArray k}/\Vals ys its/\W i n ys σ' H') ?_ m0
   ⟨0,_,H,[],[],0,J0,hst₁,fun b hb=>(fpo b hb).1,I.hok.fresh (Nat.le_refl _),hacc,.nil,w0⟩
  rintro n s3 ⟨i,σ3,H3,ys,its,k,I3,st3,fr3,hD3,e3,rv,w3⟩
  obtain⟨hz,tr⟩:=turn i n ys σ3 H3 w3
  have hlen:=rv.length
  -- the accumulator stands still while anything else runs
  have dpin:∀p ∈ [(s.heap.objs.size,({cls:=.type "list",data:=.seq its.toArray k}:Obj))],p.1∉fp:=fun p hp z=>by
   have e:p=_:=List.mem_singleton.mp hp
   subst e
   obtain⟨o,e⟩:=hobj _ z
   exact absurd (Heap.lt_size e) (Nat.lt_irrefl _)
  have I3':Inv (X.blkC cp.names sc H2.objs.size s H fp) [(s.heap.objs.size,({cls:=.type "list",data:=.seq its.toArray k}:Obj))] σ3 H3 s3:=I3.pins_of fun p hp=>by
   have e:p=_:=List.mem_singleton.mp hp
   subst e
   exact⟨e3,hD3,hDC,nfs _ (Nat.le_refl _),fun v z=>by cases z⟩
  have stat:∀b∈fp,FpOk (X.blkC cp.names sc H2.objs.size s H fp) [(s.heap.objs.size,({cls:=.type "list",data:=.seq its.toArray k}:Obj))] H3 b:=fpb fr3 dpin
  rcases tr with ⟨stop,qn⟩|⟨go,N,hN,step⟩
  ·refine thn (T.done (X.blkC cp.names sc H2.objs.size s H fp) rfl rfl rfl hc i _ s3 σ3 H3 _ I3' stat st3 stop) fun r s4 ⟨hr,I4⟩=>?_
   subst hr
   obtain⟨e4,n4,_⟩:=I4.pin (s.heap.objs.size,({cls:=.type "list",data:=.seq its.toArray k}:Obj)) (by simp)
   have new:Bk X.prog X.w (upd H3 s.heap.objs.size (.lst ys)) s4.heap s.heap.objs.size (.lst ys):=⟨Nat.le_of_lt hz,its,k,rv,e4⟩
   obtain⟨mC,hnC,_⟩:=I4.loc
   have I4':Inv (X.blkC cp.names sc H2.objs.size s H fp) [] σ3 H3 s4:=I4.pins_of fun p hp=>by cases hp
   have I5:=ZS I I4' fpo (Nat.le_refl _) n4 new
   refine hR _ _ s4 _ mC I5 (qn _ n4) hnC ?_ (Nat.ne_of_gt (Nat.lt_of_lt_of_le I.lt hCle)) (Nat.le_trans I.sz hCle) (ncell _ hCle) fun p hp z=>?_
   ·rw[Av (Ne.symm hDC)];exact I4.free
   ·exact absurd (Nat.lt_of_lt_of_le (Heap.lt_size (I.pin p hp).1) (by rw[z];exact hCle)) (Nat.lt_irrefl _)
  ·refine thn (T.item (X.blkC cp.names sc H2.objs.size s H fp) rfl rfl rfl hc i _ s3 σ3 H3 _ I3' stat st3 go) fun r s4 ⟨u,hr,h4⟩=>?_
   subst hr
   refine thn h4 fun _ s5 ⟨x,H5,I5,r5,y5,st5,fr5⟩=>?_
   have I5':=I5.pinned (fpb fr5 dpin) (T.obj _ _ st5)
   have fin:∀{σ7:St} {H7:Hp} {s7:Shared},Inv (X.blkC cp.names sc H2.objs.size s H fp) ([(s.heap.objs.size,({cls:=.type "list",data:=.seq its.toArray k}:Obj))]++O0 fp s5.heap) σ7 H7 s7 ->
     s7.heap.get? s.heap.objs.size=some {cls:=.type "list",data:=.seq its.toArray k}/\H7 s.heap.objs.size=none/\(∀b∈fp,H7 b=none)/\∀b∈fp,∀o,s5.heap.get? b=some o->s7.heap.get? b=some o:=fun {σ7 H7 s7} I7=>by
    obtain⟨e7,n7,_⟩:=I7.pin (s.heap.objs.size,({cls:=.type "list",data:=.seq its.toArray k}:Obj)) (by simp)
    refine⟨e7,n7,fun b hb=>?_,fun b hb o e=>?_⟩
    ·obtain⟨o,e,_⟩:=T.obj _ _ st5 b hb
     exact (I7.pin (b,o) (List.mem_append_right _ (List.mem_append_right _ (Fg hb e)))).2.1
    ·exact (I7.pin (b,o) (List.mem_append_right _ (List.mem_append_right _ (Fg hb e)))).1
   refine wpAny_mono (hg _ _ _ _ _ s5 σ3 H5 x u _ I5' r5 (step x H5 y5)) (fun _ s6 ⟨σ6,H6,I6,q6⟩=>?_) fun _ _ z=>False.elim z
   refine wpAny_mono (hf _ _ _ _ _ s6 σ6 H6 _ I6 q6) (fun ok s7 ⟨H7,I7,q7⟩=>?_) fun _ _ z=>False.elim z
   cases ok with
   |false=>
    rw[if_neg Bool.false_ne_true]
    rw[if_neg Bool.false_ne_true]at q7
    obtain⟨m',hm,w7⟩:=hN _ _ _ q7
    obtain⟨e7,n7,fr7,k7⟩:=fin I7
    exact⟨m',hm,i+1,σ6,H7,ys,its,k,I7.pins_of (fun p hp=>by cases hp),T.keep _ _ _ st5 k7,fr7,n7,e7,rv,w7⟩
   |true=>
    rw[if_pos rfl]
    rw[if_pos rfl]at q7
    refine wpAny_mono (he _ _ _ _ _ s7 σ6 H7 _ I7 q7) (fun v s8 ⟨y,H8,I8,r8,q8⟩=>?_) fun _ _ z=>False.elim z
    obtain⟨m',hm,w8⟩:=hN _ _ _ q8
    obtain⟨e8,n8,fr8,k8⟩:=fin I8
    refine call_meets F.slot_list_append ⟨_,e8,rfl⟩ F.entry_list_append (F.args_list_append_2 _ _) (PySem.list_append s.heap.objs.size its.toArray k v (by rw[List.size_toArray];omega)) ⟨e8,?_⟩
    obtain⟨k',q⟩:∃k',(s8.heap.update s.heap.objs.size (Obj.mapSeq fun x=>x.push v)).get? s.heap.objs.size=some {cls:=.type "list",data:=.seq (its++[v]).toArray k' }:=⟨_,by
     have q:=PySem.IsL.update e8 fun x=>x.push v
     have e:(its++[v]).toArray=its.toArray.push v:=by simp
     rw[e]
     exact q⟩
    have I8':Inv (X.blkC cp.names sc H2.objs.size s H fp) [] σ6 H8 s8:=I8.pins_of fun p hp=>by cases hp
    have I9:Inv (X.blkC cp.names sc H2.objs.size s H fp) [] σ6 H8 {s8 with heap:=s8.heap.update s.heap.objs.size (Obj.mapSeq fun x=>x.push v),toks:=s8.toks}:=
     I8'.turned (it:=s.heap.objs.size) (fun b o hb e=>(Heap.get?_update_other _ _ (Ne.symm hb)).trans e) n8 hDC (.inr (Nat.le_refl _)) (fun x c e=>by
      rcases K7 I S e with q|q
      ·intro z;rw[z]at q;exact absurd (Nat.le_trans q hCle) (Nat.not_succ_le_self _)
      ·exact ncell _ (Nat.le_refl _) x c q) (fun p hp=>by cases hp)
    refine⟨m',hm,i+1,σ6,H8,ys++[y],its++[v],k',I9,T.keep (i+1) s5.heap _ st5 (fun b hb o e=>?_),fr8,n8,q,rv.append (.cons r8 .nil),w8⟩
    ·refine (Heap.get?_update_other _ _ ?_).trans (k8 b hb o e)
     intro z
     obtain⟨ob,eb⟩:=hobj b hb
     exact absurd (Heap.lt_size eb) (by rw[<-z];exact Nat.lt_irrefl _)
 exact codeAny_compStart_list (loop _ rfl) (T.self _ 0 _ _ _ hst₁ (loop _ rfl))
theorem V8 (hc:X.calm=true)(S:BlkScC X sc)(hcp:Fb X.N sc cp)(hi:PI X tg iter wi)
  (hg:∀C s₀ H₀ ex,PG (X.blkC cp.names sc C s₀ H₀ ex) tg g) (hf:∀C s₀ H₀ ex,PF (X.blkC cp.names sc C s₀ H₀ ex) ifs tc) (he:∀C s₀ H₀ ex,PE (X.blkC cp.names sc C s₀ H₀ ex) elt te)
  (hs:∀x,foldedSetIterable iter X.env x=pure x:=by intro _;rfl):PE X (.ListComp elt [⟨tg,iter,ifs,0⟩] sc pos) (Yi wi cp g tc te):=by
 intro pins s σ H Q I h
 rw[eval_ListComp]
 refine wpAny_comprehension_free (use:=none) rfl hs (IZ (K6 I S)) S.kind S.loc (thn (hi pins s σ H _ I h) fun xv s₁ h₁=>thn h₁ fun itv s₂ h₂=>?_)
 obtain⟨it,fp,tn,J,H2,e,I2,T,st2,f2,hw⟩:=h₂
 subst e
 refine O4 (RR:=fun acc C=>compPost (model X.prog X.w) X.A X.xe none (EP X pins σ Q) acc C) hc S hcp hg hf he I2 T st2 f2 hw ?_
 intro D C s' H' m I' q hn hC hL hz hcl hp
 exact⟨m,hn,fun h' hs'=>⟨.ref D,H',I'.turned (t':=s'.toks) (it:=C) (fun b o hb e=>hs'.extBut b o hb e) hC hL (.inr hz) hcl hp,rfl,q⟩⟩
theorem ZT {i:Nat}{x:Str}{px spos:Pos}(hN:X.N.Nodup)(hi:X.N[i]?=some x)(hx:X.env.scope.names.lookup x=some .local)(hc:X.calm=true)(S:BlkScC X sc)(hcp:Fb X.N sc cp)(hit:PI X tg iter wi)
  (hg:∀C s₀ H₀ ex,PG (X.blkC cp.names sc C s₀ H₀ ex) tg g) (hf:∀C s₀ H₀ ex,PF (X.blkC cp.names sc C s₀ H₀ ex) ifs tc) (he:∀C s₀ H₀ ex,PE (X.blkC cp.names sc C s₀ H₀ ex) elt te)
  (hsw:swapsWith (.ListComp elt [⟨tg,iter,ifs,0⟩] sc pos) (some (.Name x px)) spos.line X.env=pure true:=by rfl)
  (hs:∀x,foldedSetIterable iter X.env x=pure x:=by intro _;rfl):PS X (.Assign [.Name x px] (.ListComp elt [⟨tg,iter,ifs,0⟩] sc pos) spos) (tAsg (Yi wi cp g tc te) (J2 i)):=by
 intro pins s σ H D I h
 rw[exec_Assign_Name_used _ _ _ _ hsw]
 refine wpAny_bind (wpAny_standAt (wpAny_bind ?_))
 show wpAny _ X.A (do let _ <- comprehension (.ListComp elt [⟨tg,iter,ifs,0⟩] sc pos) sc X.env _ (newList []) false (eval iter X.env) (some (assign (.Name x px) X.env))) _ _ s
 refine wpAny_bind (wpAny_mono (wpAny_comprehension_free (use:=some (assign (.Name x px) X.env)) (Q:=fun _ s'=>SP X pins D .next s') rfl hs (IZ (K6 I S)) S.kind S.loc
  (thn (hit pins s σ H _ I h) fun xv s₁ h₁=>thn h₁ fun itv s₂ h₂=>?_)) (fun _ s' hq=>wpAny_pure (wpAny_pure hq)) fun _ _ e=>e)
 obtain⟨it,fp,tn,J,H2,e,I2,T,st2,f2,hw⟩:=h₂
 subst e
 refine O4 (RR:=fun acc C=>compPost (model X.prog X.w) X.A X.xe (some (assign (.Name x px) X.env)) (fun _ s'=>SP X pins D .next s') acc C) (Q:=fun v H1=>J2 i v σ H1 D.nx) hc S hcp hg hf he I2 T st2 f2 hw ?_
 intro Dl C s' H' m I' q hn hC hL hz hcl hp
 show wpAny _ X.A (assign (.Name x px) X.env (.ref Dl)) _ _ _
 refine wpAny_assign_Name (MK I' hN hi (.inl hx) (v:=.ref Dl) rfl (fun s'' I'' ⟨a,hsb,ha⟩=>?_) (.inr hx))
 have hne:C≠a:=by
  rcases ha with rfl|ha
  ·exact hL
  ·exact fun z=>hcl _ _ ha z.symm
 refine⟨m,hn.sameBut hsb hne,fun h' hs'=>⟨_,H',I''.turned (t':=s''.toks) (it:=C) (fun b o hb e=>hs'.extBut b o hb e) hC hL (.inr hz) hcl hp,q⟩⟩
end
def Br_ (outer:List (Str×NameKind))(sc:Scope):Bool:=
 sc.kind == .function&&sc.names.all (fun y=>(y.2 != .local||sc.names.lookup y.1==some .local)&&(y.2 != .free||outer.lookup y.1==some .cell||outer.lookup y.1==some .free)&&sc.names.all fun z=>y.1 != z.1||y.2==z.2)
theorem Vf {X:Cx}{sc:Scope}(h:Br_ X.env.scope.names sc=true):BlkScC X sc:=by
 unfold Br_ at h
 rw[Bool.and_eq_true,List.all_eq_true]at h
 obtain⟨h1,h2⟩:=h
 refine⟨by simpa using h1,fun y hy z hz e=>?_,fun y hy z=>?_,fun y hy z=>?_⟩
 ·have:=h2 y hy
  simp only[Bool.and_eq_true,List.all_eq_true]at this
  have:=this.2 z hz
  rw[e]at this
  simpa using this
 ·have:=h2 y hy
  simp only[Bool.and_eq_true]at this
  have:=this.1.1
  rw[z]at this
  simpa using this
 ·have:=h2 y hy
  simp only[Bool.and_eq_true]at this
  have:=this.1.2
  rw[z]at this
  have t:(X.env.scope.names.lookup y.1==some .cell||X.env.scope.names.lookup y.1==some .free)=true:=by simpa using this
  rw[Bool.or_eq_true]at t
  rcases t with t|t
  ·exact .inl (by show X.env.scope.names.lookup y.1=some .cell;simpa using t)
  ·exact .inr (by show X.env.scope.names.lookup y.1=some .free;simpa using t)
end L2
namespace L2
open PySem PySem.Spec PyProof.Rows GW
def Cn (K:PySem.W.Frag)(H:Hp)(xs:List V)(ws:List (List Int)):Prop:=xs.length=ws.length/\∀(i:Nat) (w:List Int),ws[i]?=some w->∃t,xs[i]?=some (.ref t)/\H t=some (.tup (w.map V.int))
theorem Cn.nil {K:PySem.W.Frag}{H:Hp}:Cn K H [] []:=⟨rfl,fun i w h=>by simp at h⟩
theorem Cn.mono {K:PySem.W.Frag}{H H':Hp}{xs:List V}{ws:List (List Int)}(h:Cn K H xs ws)(k:TK H H'):Cn K H' xs ws:=by
 refine⟨h.1,fun i w hw=>?_⟩
 obtain⟨t,a,b⟩:=h.2 i w hw
 exact⟨t,a,k _ _ b⟩
theorem Cn.snoc {K:PySem.W.Frag}{H:Hp}{xs:List V}{ws:List (List Int)}(h:Cn K H xs ws){t:Addr}{w:List Int}(ht:H t=some (.tup (w.map V.int))):Cn K H (xs++[.ref t]) (ws++[w]):=by
 refine⟨by rw[List.length_append,List.length_append,h.1];rfl,fun i v hi=>?_⟩
 by_cases hil:i<ws.length
 ·rw[List.getElem?_append_left hil]at hi
  rw[List.getElem?_append_left (by rw[h.1];exact hil)]
  exact h.2 i v hi
 ·have:=(List.getElem?_eq_some_iff.mp hi).1
  rw[List.length_append,List.length_singleton]at this
  have ei:i=ws.length:=by omega
  subst ei
  rw[List.getElem?_append_right (Nat.le_refl _),Nat.sub_self]at hi
  simp at hi
  subst hi
  refine⟨t,?_,ht⟩
  rw[List.getElem?_append_right (by rw[h.1];exact Nat.le_refl _),h.1,Nat.sub_self];rfl
theorem Cn.at {K:PySem.W.Frag}{H:Hp}{xs:List V}{ws:List (List Int)}(h:Cn K H xs ws){i:Nat}{x:V}(hx:xs[i]?=some x):∃t w,ws[i]?=some w/\x=.ref t/\H t=some (.tup (w.map V.int)):=by
 have hi:i<ws.length:=by rw[<-h.1];exact (List.getElem?_eq_some_iff.mp hx).1
 obtain⟨t,a,b⟩:=h.2 i ws[i] (by simp[hi])
 rw[hx]at a
 exact⟨t,ws[i],by simp[hi],Option.some.inj a,b⟩
theorem Cn.eq {K:PySem.W.Frag}{H:Hp}{xs ys:List V}{ws:List (List Int)}{a b:Addr}(h:Cn K H xs ws)(g:Cn K H ys ws)(ha:SqL K H a xs)(hb:SqL K H b ys)(n:Nat):EqD K H (n+2) (.ref a) (.ref b) true:=by
 refine .inr ⟨a,b,xs,ys,rfl,rfl,.inl ⟨ha,hb⟩,fun _=>true,fun i x y hx hy=>?_,by rw[h.1,g.1];simp⟩
 obtain⟨t,w,e1,rfl,e2⟩:=h.at hx
 obtain⟨u,w',f1,rfl,f2⟩:=g.at hy
 rw[e1]at f1
 cases f1
 have:=EqD.ints (K:=K) (H:=H) (a:=t) (c:=u) (xs:=w) (ys:=w) (.inr ⟨SqT.of e2,SqT.of f2⟩) n
 rw[decide_eq_true rfl]at this
 exact this
theorem DH.ofS {K:PySem.W.Frag}{H:Hp}{Q:VK}{a b:Addr}{xs ys:List V}(ha:H a=some (.tup xs))(hb:H b=some (.tup ys))(hz:xs.length+ys.length<=sizeLine)(h:∀p H',Same H H'->H' p=some (.tup (xs++ys))->Q (.ref p) H'):DH K (.ref a) (.ref b) H Q:=by
 refine⟨a,b,xs,ys,rfl,rfl,SqT.of ha,SqT.of hb,hz,fun e=>?_,fun _ e=>?_,fun _ _ p hp=>h p _ (Same.new hp) Ac⟩
 ·subst e;exact h b H (Same.refl _) (by simpa using hb)
 ·subst e;exact h a H (Same.refl _) (by simpa using ha)
theorem Inv.unL {X:Cx}{pins:List (Addr×Obj)}{σ:St}{H:Hp}{s:Shared}{h':Heap}{fp:List Addr}(I:Inv X pins σ H s)(k:∀b o,b∉fp->s.heap.get? b=some o->h'.get? b=some o)(f:∀b∈fp,FpOk X pins H b):Un (frs X.stack) fp H H s.heap h'/\HOk X.prog X.w H h':=by
 have ne:∀b u,H b=some u->b∉fp:=fun b u q hb=>by rw[(f b hb).1]at q;cases q
 refine⟨⟨fun b o q _ _ hb=>k b o hb q,fun b o q _ _ hb=>⟨o.slots,k b o hb q⟩,fun _ _ _ n _=>n,fun b o q hb=>⟨o,k b o hb q⟩,fun _ _ q=>q,fun _ _ _ q=>q,fun b ps q=>⟨#[],by rw[q];simp⟩⟩,fun b u q=>?_⟩
 refine (I.hok b u q).stay (fun c v hc qv=>?_) (fun _ q=>q) fun _ _ q=>q
 have hne:c∉fp:=by
  rcases hc with rfl|hc
  ·exact ne _ _ q
  ·exact ne _ _ hc
 exact k c v hne qv
end L2
namespace GW
def ins (s:List (List Int))(w:List Int):List (List Int):=if w∈s then s else s++[w]
end GW
namespace L2
open PySem PySem.Spec PyProof.Rows GW
def wkey (w:List Int):List Key:=w.map Sum.inl
theorem P5 (w:List Int):(wkey w).map kV=w.map V.int:=by unfold wkey;rw[List.map_map];rfl
theorem ZU {v w:List Int}(h:wkey v=wkey w):v=w:=(List.map_inj_right (fun x y z=>Sum.inl.inj z)).mp h
def TF (ws:List (List Int))(kvs:List (List Key×V)):Prop:=kvs.map (·.1)=ws.map wkey
theorem TF.len {ws:List (List Int)}{kvs:List (List Key×V)}(h:TF ws kvs):kvs.length=ws.length:=by
 have:=congrArg List.length h
 simpa using this
theorem TF.some_iff {ws:List (List Int)}{kvs:List (List Key×V)}(h:TF ws kvs)(w:List Int):(valV kvs (wkey w)).isSome=decide (w∈ws):=by
 rw[<-J6,Bool.eq_iff_iff,decide_eq_true_eq,List.any_eq_true]
 constructor
 ·rintro⟨kv,hkv,e⟩
  have e:=of_decide_eq_true e
  have:wkey w∈ws.map wkey:=by rw[<-h,<-e];exact List.mem_map.mpr ⟨kv,hkv,rfl⟩
  obtain⟨q,hq,e2⟩:=List.mem_map.mp this
  exact ZU e2 ▸ hq
 ·intro hw
  have:wkey w∈kvs.map (·.1):=by rw[h];exact List.mem_map.mpr ⟨w,hw,rfl⟩
  obtain⟨kv,hkv,e⟩:=List.mem_map.mp this
  exact⟨kv,hkv,decide_eq_true e⟩
theorem TF.words {K:PySem.W.Frag}{H:Hp}{ws:List (List Int)}{kvs:List (List Key×V)}{rs:List V}(h:TF ws kvs)(hl:rs.length=kvs.length)(hr:∀(i:Nat) (k:List Key) (v:V),kvs[i]?=some (k,v)->∃b,rs[i]?=some (V.ref b)/\H b=some (.tup (k.map kV))):Cn K H rs ws:=by
 refine⟨by rw[hl,h.len],fun i w hw=>?_⟩
 have hi:i<kvs.length:=by rw[h.len];exact (List.getElem?_eq_some_iff.mp hw).1
 have e:(kvs.map (·.1))[i]?=some (wkey w):=by rw[h,List.getElem?_map,hw];rfl
 rw[List.getElem?_map,List.getElem?_eq_getElem hi]at e
 have e:kvs[i].1=wkey w:=Option.some.inj e
 obtain⟨b,b1,b2⟩:=hr i kvs[i].1 kvs[i].2 (by simp[hi])
 exact⟨b,b1,by rw[b2,e,P5]⟩
end L2
namespace PySem.W
open PySem PySem.Calls PyProof.Rows PyProof.V PySem.Spec
end PySem.W
namespace L2
open PySem PySem.Spec PyProof.Rows
theorem V9 {P:Program}{w:World}{H:Hp}{h:Heap}{a:Addr}{kvs:List (List Key×V)}(ok:HOk P w H h)(e:Rd H a (.dT kvs)):
  ∃o es ep,h.get? a=some o/\o.ExactDict/\o.data=.dict es ep/\es.size=kvs.length/\(a==sysModules)=false/\kvs.length<=sizeLine /\
   ∀(i:Nat) (k:List Key) (v:V),kvs[i]?=some (k,v)->∃b en,es[i]?=some en/\en.key=.ref b/\H b=some (.tup (k.map kV))/\RelV v en.val:=by
 obtain⟨z,y,xs,r,o,es,ep,h1,h2,h3,h4,h5⟩:=(show Bk P w H h a (.dT kvs) from ZF ok e)
 have hl:=Paired.length r
 have hs:es.size=kvs.length:=by rw[<-Array.length_toList,h4,List.length_map,hl]
 refine⟨o,es,ep,h1,h2,h3,hs,y,z,fun i k v hk=>?_⟩
 obtain⟨q,hq,e1,e2,e3⟩:=Jb r hk
 refine⟨q.2.1,entryOfKey (tupleKind (Cd P w)) q,?_,rfl,e2,e3⟩
 rw[<-Array.getElem?_toList,h4,List.getElem?_map,hq];rfl
def ents (es:List (List Int×Int)):List (List Key×V):=es.map fun e=>(wkey e.1,V.int e.2)
theorem Eo_ {cp:Caps}{g:TG}{tc:TT}{te:TE}{Q:VK}{σ:St}{H:Hp}{o:Obj}{a:Addr}{kvs:List (List Key×V)}(Pv:Nat->List V->St->Hp->Prop)(h0:Pv 0 [] (cp.st σ) H)(hz:kvs.length<sizeLine)
  (hl:∀i ys σ H,i<=kvs.length->Pv i ys σ H->H a=some (.frz o (.dT kvs))/\ys.length<=i)
  (hs:∀i k v b ys σ H,kvs[i]?=some (k,v)->Pv i ys σ H->H b=some (.tup (k.map kV))->g (.ref b) σ H fun σ2 H2=>tc σ2 H2 fun b H3=>if b=true then te σ2 H3 fun v H4=>Pv (i+1) (ys++[v]) σ2 H4 else Pv (i+1) ys σ2 H3)
  (hd:∀ys σ H,Pv kvs.length ys σ H->∀D,H D=none->Q (.ref D) (upd H D (.lst ys))):Jh (Itd o a kvs) cp g tc te σ H Q:=by
 refine⟨fun i m ys σ H=>m=kvs.length-i/\i<=kvs.length/\Pv i ys σ H,⟨kvs.length,by simp,Nat.zero_le _,h0⟩,?_⟩
 rintro i m ys σ H ⟨rfl,hi,p⟩
 obtain⟨q,ly⟩:=hl i ys σ H hi p
 refine⟨by omega,?_⟩
 by_cases hlt:i<kvs.length
 ·refine .inr ⟨⟨hlt,q⟩,Pv (i+1),fun zs σ' H' p'=>⟨kvs.length-(i+1),by omega,rfl,hlt,p'⟩,fun x H' y=>?_⟩
  obtain⟨rfl,b,k,v,hk,rfl,hb⟩:=y
  exact hs i k v b ys σ H' hk p hb
 ·have e:i=kvs.length:=by omega
  subst e
  exact .inl ⟨⟨Nat.le_refl _,q⟩,hd ys σ H p⟩
theorem MB {X:Cx}(hc:X.calm=true):Jg X (.builtin "sum") (fun xs H Q=>∃(p:Addr) (ns:List Int),xs=[.ref p]/\SqL X.K H p (ns.map V.int)/\Q (.int ns.sum) H):=by
 intro pins s σ H xs us Q I r h
 obtain⟨p,ns,rfl,hq,q⟩:=h
 obtain⟨u,rfl,rx⟩:=vals1 r
 cases rx
 obtain⟨its,r',pl,_⟩:=I.list hq
 have i1:IntsAre its ns:=by simpa using intsAre_of r'
 obtain⟨ys,e⟩:=i1.allInts.items
 have e2:=i1.numsOf
 rw[show its=its.toArray.toList from rfl,e,nums_intItems]at e2
 have hl:=pl.isList
 rw[e]at hl
 refine sum_intListG (I.ok.hd hc) hl fun h' tk t' hk=>?_
 rw[preSum_eq,List.take_of_length_le (by simp),e2]
 exact⟨.int ns.sum,H,I.kept hk,⟨_,rfl⟩,q⟩
end L2
namespace L2
open PySem PySem.W PySem.Spec PySem.Calls PyProof.Rows
theorem PY.ofS {K:PySem.W.Frag}{H:Hp}{Q:VK}{l:Addr}{k:Int}{xs:List V}(hq:H l=some (.tup xs))(hne:xs ≠ [])(h1 : -(2 ^ 63)<=k)(h2:k<2 ^ 63)(hz:xs.length*k.toNat<=sizeLine)(h:∀p H',Same H H'->H' p=some (.tup (List.replicate k.toNat xs).flatten)->Q (.ref p) H'):PY K (.ref l) (.int k) H Q:=by
 refine⟨l,k,xs,rfl,rfl,SqT.of hq,hne,h1,h2,hz,fun e=>?_,fun _ p hp=>h p _ (Same.new hp) Ac⟩
 subst e
 exact h l H (Same.refl _) (by simpa using hq)
end L2
namespace PrimeO
def GH (p:Nat):Prop:=∀d,2<=d->d<p->p%d≠0
theorem GH.small {p k:Nat}(hp:2<=p)(hk:p<k*k)(h:∀d,2<=d->d<k->d<p->p%d≠0):GH p:=by
 intro d h1 h2 h3
 by_cases hd:d<k
 ·exact h d h1 hd h2 h3
 ·have e:d*(p / d)=p:=by have:=Nat.div_add_mod p d;omega
  generalize p / d=q at e
  have hq0:q≠0:=fun z=>by rw[z]at e;omega
  have hq1:q≠1:=fun z=>by rw[z]at e;omega
  have hqk:q<k:=by
   refine Nat.lt_of_not_le fun z=>?_
   have:=Nat.mul_le_mul (Nat.le_of_not_lt hd) z
   omega
  refine h q (by omega) hqk ?_ (by rw[<-e];exact Nat.mul_mod_left d q)
  have:2*q<=d*q:=Nat.mul_le_mul_right q h1
  omega
def chk (p lo:Nat):Nat->Bool
 |0=>(Nat.beq (Nat.mod p lo) 0).not
 |n+1=>(chk p lo n).and (chk p (Nat.add lo (Nat.pow 2 n)) n)
theorem P6 (p:Nat):∀(n lo:Nat),chk p lo n=true->∀d,lo<=d->d<lo+2 ^ n->p%d≠0
 |0,lo,h,d,h1,h2=>by
  have:d=lo:=by simp at h2;omega
  subst this
  intro z
  have z':Nat.mod p d=0:=z
  unfold chk at h
  rw[z']at h
  simp at h
 |n+1,lo,h,d,h1,h2=>by
  unfold chk at h
  have h':=Bool.and_eq_true_iff.mp h
  by_cases hd:d<lo+2 ^ n
  ·exact P6 p n lo h'.1 d h1 hd
  ·have e:lo+2 ^ n+2 ^ n=lo+2 ^ (n+1):=by rw[Nat.pow_succ];omega
   exact P6 p n (lo+2 ^ n) h'.2 d (by omega) (by omega)
theorem Gq {p n:Nat}(hp:2<=p)(h:chk p 2 n=true)(hk:p<(2+2 ^ n)*(2+2 ^ n)):GH p:=
 GH.small hp hk fun d h1 h2 _=>P6 p n 2 h d h1 h2
theorem nd2:GH 2:=fun d h1 h2=>by omega
theorem nd3:GH 3:=fun d h1 h2=>by
 have:d=2:=by omega
 subst this;decide
theorem nd5:GH 5:=Gq (n:=0) (by decide) (by decide) (by decide)
theorem nd7:GH 7:=Gq (n:=0) (by decide) (by decide) (by decide)
theorem Ch_:GH 65537:=Gq (n:=8) (by decide) (by decide +kernel) (by decide +kernel)
theorem Ep_:GH 998244353:=Gq (n:=15) (by decide) (by decide +kernel) (by decide +kernel)
theorem DM_:GH 2147483647:=Gq (n:=16) (by decide) (by decide +kernel) (by decide +kernel)
theorem Bs_:∀(m n:Nat) (f:Nat->Nat),(∀i,i<n->f i<m)->(∀i j,i<j->j<n->f i≠f j)->n<=m
 |0,n,f,h,_=>by
  refine Nat.le_of_not_lt fun z=>?_
  exact absurd (h 0 z) (Nat.not_lt_zero _)
 |m+1,0,f,_,_=>Nat.zero_le _
 |m+1,n+1,f,h,g=>by
  -- the last value is taken out: whoever has the value m takes the value of the last one
  let f':Nat->Nat:=fun i=>if f i=m then f n else f i
  refine Nat.succ_le_succ (Bs_ m n f' (fun i hi=>?_) (fun i j hij hj=>?_))
  ·show (if f i=m then f n else f i)<m
   by_cases e:f i=m
   ·rw[if_pos e]
    have h1:=h n (by omega)
    have h2:=g i n hi (by omega)
    omega
   ·rw[if_neg e]
    have:=h i (by omega)
    omega
  ·show (if f i=m then f n else f i)≠(if f j=m then f n else f j)
   have a:=g i j hij (by omega)
   have b:=g i n (by omega) (by omega)
   have c:=g j n (by omega) (by omega)
   by_cases e:f i=m
   ·rw[if_pos e]
    by_cases e':f j=m
    ·omega
    ·rw[if_neg e'];omega
   ·rw[if_neg e]
    by_cases e':f j=m
    ·rw[if_pos e'];exact b
    ·rw[if_neg e'];exact a
theorem pow_one {q x:Int}(h:q ∣ x-1):∀n:Nat,q ∣ x ^ n-1
 |0=>by simp
 |n+1=>by
  have e:x ^ (n+1)-1=x ^ n*(x-1)+(x ^ n-1):=by
   rw[Int.pow_succ,Int.mul_sub];omega
  rw[e]
  exact Int.dvd_add (Int.dvd_mul_of_dvd_right h) (pow_one h n)
theorem YK {q x:Int}(h:q ∣ x+1):∀n:Nat,q ∣ x ^ (2*n+1)+1
 |0=>by rw[show 2*0+1=1 from rfl,Int.pow_succ,Int.pow_zero,Int.one_mul];exact h
 |n+1=>by
  have e:x ^ (2*(n+1)+1)+1=x*x*(x ^ (2*n+1)+1)-(x-1)*(x+1):=by
   have:x ^ (2*(n+1)+1)=x*x*x ^ (2*n+1):=by
    rw[show 2*(n+1)+1=2*n+1+1+1 from by omega,Int.pow_succ,Int.pow_succ,Int.mul_assoc,Int.mul_comm]
   rw[this,Int.mul_add,Int.mul_add,Int.sub_mul,Int.mul_one,Int.mul_one,Int.one_mul];omega
  rw[e]
  exact Int.dvd_sub (Int.dvd_mul_of_dvd_right (YK h n)) (Int.dvd_mul_of_dvd_right h)
theorem ZV:∀(d:Nat),0<d->∃k m,d=2 ^ k*(2*m+1):=by
 intro d
 induction d using Nat.strongRecOn with
 |ind d ih=>
  intro hd
  by_cases h:d%2=0
  ·obtain⟨k,m,e⟩:=ih (d / 2) (by omega) (by omega)
   refine⟨k+1,m,?_⟩
   rw[Nat.pow_succ,Nat.mul_right_comm,<-e];omega
  ·exact⟨0,d / 2,by simp;omega⟩
theorem order {q b:Nat}{e:Nat}(hq:3<=q)(h:(q:Int) ∣ (b:Int) ^ (2 ^ e)+1):2 ^ (e+1)<=q:=by
 have hb:Int.gcd (b:Int) q=1:=by
  have h1:((Int.gcd (b:Int) q:Nat):Int) ∣ (b:Int):=Int.gcd_dvd_left ..
  have h2:((Int.gcd (b:Int) q:Nat):Int) ∣ (q:Int):=Int.gcd_dvd_right ..
  have h3:=Int.dvd_trans h2 h
  have h4:((Int.gcd (b:Int) q:Nat):Int) ∣ (b:Int) ^ (2 ^ e):=by
   obtain⟨c,hc⟩:∃c,2 ^ e=c+1:=⟨2 ^ e-1,by have:=Nat.two_pow_pos e;omega⟩
   rw[hc,Int.pow_succ]
   exact Int.dvd_mul_of_dvd_right h1
  have h5:((Int.gcd (b:Int) q:Nat):Int) ∣ 1:=by
   have:=Int.dvd_sub h3 h4
   rwa [show (b:Int) ^ (2 ^ e)+1-(b:Int) ^ (2 ^ e)=1 from by omega]at this
  have:=Int.le_of_dvd (by decide) h5
  have h6:Int.gcd (b:Int) q≠0:=fun z=>by
   have:=Int.gcd_eq_zero_iff.mp z
   omega
  omega
 refine Bs_ q (2 ^ (e+1)) (fun i=>b ^ i%q) (fun i _=>Nat.mod_lt _ (by omega)) (fun i j hij hj hm=>?_)
 -- q divides b ^ (j-i)-1
 have hm:b ^ i%q=b ^ j%q:=hm
 have d1:(q:Int) ∣ (b:Int) ^ i*((b:Int) ^ (j-i)-1):=by
  have e1:(b:Int) ^ i*((b:Int) ^ (j-i)-1)=((b ^ j:Nat):Int)-((b ^ i:Nat):Int):=by
   rw[Int.mul_sub,<-Int.pow_add,show i+(j-i)=j from by omega,Int.mul_one,Int.natCast_pow,Int.natCast_pow]
  rw[e1]
  refine Int.dvd_of_emod_eq_zero ?_
  have:((b ^ i:Nat):Int)%q=((b ^ j:Nat):Int)%q:=by exact_mod_cast hm
  exact Int.emod_eq_emod_iff_emod_sub_eq_zero.mp this.symm
 have cop:∀n:Nat,(Int.gcd ((b:Int) ^ n) q)=1:=fun n=>by
  induction n with
  |zero=>simp
  |succ n ih=>rw[Int.pow_succ,Int.gcd_mul_right_left_of_gcd_eq_one ih];exact hb
 have d2:(q:Int) ∣ (b:Int) ^ (j-i)-1:=by
  refine Int.natAbs_dvd_natAbs.mp ?_
  have:=Int.natAbs_dvd_natAbs.mpr d1
  rw[Int.natAbs_mul]at this
  exact Nat.Coprime.dvd_of_dvd_mul_left (show Nat.Coprime _ _ from by have:=cop i;rw[Int.gcd_comm]at this;exact this) this
 obtain⟨k,m,hd⟩:=ZV (j-i) (by omega)
 have hk:k<=e:=by
  refine Nat.le_of_not_lt fun z=>?_
  have h1:2 ^ (e+1)<=2 ^ k:=Nat.pow_le_pow_right (by decide) z
  have h2:2 ^ k*1<=2 ^ k*(2*m+1):=Nat.mul_le_mul_left _ (by omega)
  omega
 have d3:=pow_one d2 (2 ^ (e-k))
 rw[<-Int.pow_mul,hd,show 2 ^ k*(2*m+1)*2 ^ (e-k)=2 ^ e*(2*m+1) from by
  rw[Nat.mul_right_comm,<-Nat.pow_add,show k+(e-k)=e from by omega],Int.pow_mul]at d3
 have d4:=YK h m
 have d5:=Int.dvd_sub d4 d3
 rw[show ((b:Int) ^ 2 ^ e) ^ (2*m+1)+1-(((b:Int) ^ 2 ^ e) ^ (2*m+1)-1)=2 from by omega]at d5
 have:=Int.le_of_dvd (by decide) d5
 omega
def chain (p:Nat):List Nat->Bool
 |[]=>true
 |a::l=>match l with
  |[]=>true
  |b::_=>(Nat.beq (Nat.mod (Nat.mul a a) p) b).and (chain p l)
theorem O5 {p:Nat}:∀(l:List Nat) (a z:Nat),chain p (a::l)=true->(a::l).getLast?=some z->z<p->a<p->a ^ (2 ^ l.length)%p=z
 |[],a,z,_,h,_,ha=>by simp at h;subst h;simp[Nat.mod_eq_of_lt ha]
 |b::l,a,z,hc,h,hz,ha=>by
  unfold chain at hc
  have hc:=Bool.and_eq_true_iff.mp hc
  have e1:a*a%p=b:=Nat.eq_of_beq_eq_true hc.1
  have hb:b<p:=by rw[<-e1];exact Nat.mod_lt _ (by omega)
  have:=O5 l b z hc.2 (by simpa using h) hz hb
  rw[List.length_cons,Nat.pow_succ,Nat.mul_comm,Nat.pow_mul,Nat.pow_two,Nat.pow_mod,e1]
  exact this
theorem Eq_ {p b:Nat}{l:List Nat}(hc:chain p (b::l)=true)(hl:(b::l).getLast?=some (p-1))(hp:2<=p)(hb:b<p)(q:Nat)(hq:3<=q)(h:p%q=0):2 ^ (l.length+1)<=q:=by
 have hs:=O5 l b (p-1) hc hl (by omega) hb
 generalize l.length=e at hs
 generalize hB:b ^ (2 ^ e)=B at hs
 have hd:(p:Int) ∣ (b:Int) ^ (2 ^ e)+1:=by
  rw[<-Int.natCast_pow,hB]
  have e1:(B+1)%p=0:=by
   rw[Nat.add_mod,hs]
   by_cases h1:p=1
   ·omega
   ·rw[Nat.mod_eq_of_lt (show 1<p by omega),show p-1+1=p from by omega,Nat.mod_self]
  have:=Nat.dvd_of_mod_eq_zero e1
  exact_mod_cast this
 exact order hq (Int.dvd_trans (Int.natCast_dvd_natCast.mpr (Nat.dvd_of_mod_eq_zero h)) hd)
theorem YL {p m:Nat}(big:∀q,2<=q->p%q=0->m<=q)(hm:p<m*m):GH p:=by
 intro d h1 h2 h3
 have e:d*(p / d)=p:=by have:=Nat.div_add_mod p d;omega
 generalize p / d=q at e
 have hq0:q≠0:=fun z=>by rw[z]at e;omega
 have hq1:q≠1:=fun z=>by rw[z]at e;omega
 have a:=big d h1 h3
 have b:=big q (by omega) (by rw[<-e];exact Nat.mul_mod_left d q)
 have:=Nat.mul_le_mul a b
 omega
def DN_:List Nat:=[59049,3486784401,88018457703999454,45929738478236762,40666034766347230,7693334418966794,176686083274693707,64249661930383583,109385274370896747,125617409189584062,109468562634608601,122701423696867897,35622580771213151,82435950289412150,18627153503673630,120469760524761789,172035590580311624,13190307153726193,3107064753164151,70140624860640424,166009780229527061,23535563731210449,68090728368441414,150068836334812601,160932145882353616,92767654578329832,20253417367123262,76076963643055978,116396373174297913,124091118791727052,120512899165957516,106587366619394153,174473325657852776,42422798089771761,51278126999645464,27655269229009543,75436749302249212,127846334706536764,179803962838676295,39860844515238771,117110086334503012,28926655053941789,99636062047316279,57472177291655405,45590227996605173,164322947671277915,78463280652552016,5197029465238183,37154148892138879,155338536803674377,66159313984295070,171458397805620753,174530742592475567,180143985094819840]
theorem Er_:GH 180143985094819841:=YL (m:=36028797018963968) (fun q hq h=>by
  have h2:q≠2:=fun z=>by subst z;exact absurd h (by decide +kernel)
  have:=Eq_ (p:=180143985094819841) (b:=243) (l:=DN_) (by decide +kernel) (by decide +kernel) (by decide +kernel) (by decide +kernel) q (by omega) h
  rwa [show 2 ^ (DN_.length+1)=36028797018963968 from by decide +kernel]at this) (by decide +kernel)
theorem GH.gcd {p:Nat}(h:GH p){x:Nat}(h0:0<x)(h1:x<p):Nat.gcd x p=1:=by
 have g1:Nat.gcd x p<=x:=Nat.le_of_dvd h0 (Nat.gcd_dvd_left ..)
 have g0:0<Nat.gcd x p:=Nat.gcd_pos_of_pos_left _ h0
 refine Classical.byContradiction fun z=>?_
 exact h (Nat.gcd x p) (by omega) (by omega) (Nat.mod_eq_zero_of_dvd (Nat.gcd_dvd_right ..))
def Pr (p:Int):Prop:=2<=p/\p<1000000000000000000/\GH p.toNat
theorem Pr.gcd {p x:Int}(h:Pr p)(h0:0<x)(h1:x<p):Int.gcd x p=1:=by
 have:=h.2.2.gcd (x:=x.toNat) (by omega) (by omega)
 have e:Int.gcd x p=Nat.gcd x.toNat p.toNat:=by
  unfold Int.gcd
  rw[show x.natAbs=x.toNat from by omega,show p.natAbs=p.toNat from by have:=h.1;omega]
 rw[e];exact this
theorem Ci_:∀p ∈ [(2:Int),3,5,7,65537,998244353,2147483647,180143985094819841],Pr p:=by
 intro p hp
 simp at hp
 rcases hp with rfl|rfl|rfl|rfl|rfl|rfl|rfl|rfl
 ·exact⟨by decide,by decide,nd2⟩
 ·exact⟨by decide,by decide,nd3⟩
 ·exact⟨by decide,by decide,nd5⟩
 ·exact⟨by decide,by decide,nd7⟩
 ·exact⟨by decide,by decide,Ch_⟩
 ·exact⟨by decide,by decide,Ep_⟩
 ·exact⟨by decide,by decide,DM_⟩
 ·exact⟨by decide,by decide,Er_⟩
end PrimeO
namespace L2
open PySem PySem.Spec PyProof.Rows
theorem ZW {X:Cx}:OpR X (binaryOp .FloorDiv) (rI (fun _ j=>0<j/\j<1208925819614629174706176) fun i j=>.int (i / j)):=opI fun i j _ _ _ _ _ hc q=>by
 have h1:(0:Int)<j:=hc.1
 have h2:j<1208925819614629174706176:=hc.2
 refine floordiv_int (by omega) (by rw[Int.fdiv_eq_ediv_of_nonneg i (by omega)];exact q) (.inl (PyProof.noPylong_of_log2 ?_))
 have:j.natAbs<2 ^ 80:=by
  rw[show (2:Nat) ^ 80=1208925819614629174706176 from by decide];omega
 have:=(Nat.log2_lt (n:=j.natAbs) (k:=80) (by omega)).mpr this
 omega
theorem YM {A:TA}{σ:St}{H:Hp}{Z:It->Hp->Prop}:CZ_ A σ H Z=A σ H fun vs H1=>∃i j:Int,vs=[.int i,.int j]/\(-(2 ^ 62)<=i/\i<2 ^ 62 /\ -(2 ^ 62)<=j/\j<2 ^ 62)/\Z (Itr i (j-i).toNat) H1:=rfl
end L2
namespace PySem
open Sem (wp)
open PySem.F
def Gr (t:Bool)(h:Heap)(l:Addr)(xs:Array Value):Prop:=match t with|false=>h.IsList l xs|true=>h.IsTuple l xs
def EM (t:Bool)(h:Heap)(i l:Addr)(k:Nat):Prop:=match t with|false=>h.IsListIter i l k|true=>h.IsTupleIter i l k
theorem Gr.extBut {t:Bool}{h h':Heap}{a b items}(x:Gr t h a items)(hs:Heap.ExtBut b h h')(hab:a≠b):Gr t h' a items:=by
 cases t
 ·exact Heap.IsList.extBut x hs hab
 ·exact Heap.IsTuple.extBut x hs hab
theorem Gr.push {t:Bool}{h:Heap}{a items}(x:Gr t h a items)(o:Obj):Gr t (h.push o) a items:=by
 cases t
 ·exact Heap.IsList.push x o
 ·exact Heap.IsTuple.push x o
theorem Gr.lt {t:Bool}{h:Heap}{a items}(x:Gr t h a items):a<h.objs.size:=by
 cases t
 ·obtain⟨_,e,_⟩:=x;exact Heap.lt_size e
 ·obtain⟨_,e,_⟩:=x;exact Heap.lt_size e
theorem EM.extBut {t:Bool}{h h':Heap}{a b l i}(x:EM t h a l i)(hs:Heap.ExtBut b h h')(hab:a≠b):EM t h' a l i:=by
 cases t
 ·exact Heap.IsListIter.extBut x hs hab
 ·exact Heap.IsTupleIter.extBut x hs hab
theorem EM.at {t:Bool}{h h':Heap}{a l i}(x:EM t h a l i)(e:∀o,h.get? a=some o->h'.get? a=some o):EM t h' a l i:=by
 cases t
 ·exact Heap.IsListIter.at x e
 ·exact Heap.IsTupleIter.at x e
theorem EM.ob {t:Bool}{h:Heap}{a l i}(x:EM t h a l i):∃o,h.get? a=some o/\o.data=.fields #[.ref l,.int i 0]:=by
 cases t
 ·obtain⟨o,e,_,d⟩:=x;exact⟨o,e,d⟩
 ·obtain⟨o,e,_,d⟩:=x;exact⟨o,e,d⟩
section
variable {prog:Program} {w:World} {A:Around} {E:Value->Shared->Prop} {s:Shared}
theorem YN {t:Bool}{it l:Addr}{i:Nat}{items:Array Value}{Q:Value->Shared->Prop}(hit:EM t s.heap it l i)(hl:Gr t s.heap l items)
  (hQ:∀x h',items[i]?=some x->EM t h' it l (i+1)->Heap.SameBut it s.heap h'->Q x {s with heap:=h' })
  (hE:items[i]?=none->A.handled=none/\∀h' e,Heap.ExtBut it s.heap h'->(∃o,h'.get? e=some o/\o.cls=.type "StopIteration")->E (.ref e) {s with heap:=h' }):wpAny (model prog w) A (Builtin.SmallTypes.nextOf (.ref it)) Q E s:=by
 cases t
 ·cases hx:items[i]? with
  |some x=>exact wpAny_nextOf_list_item hit hl hx fun h'=>hQ x h' hx
  |none=>exact wpAny_nextOf_list_end (hE hx).1 hit hl hx (hE hx).2
 ·exact K5 hit hl hQ hE
def Cj_ (t:Bool):Value:=match t with|false=>.type "list_iterator" |true=>.type "tuple_iterator"
theorem EM.mk {t:Bool}{h:Heap}{a l:Addr}(g:h.get? a=some {cls:=Cj_ t,data:=.fields #[.ref l,.int 0 0]}):EM t h a l 0:=by
 cases t
 ·exact⟨_,g,rfl,rfl⟩
 ·exact⟨_,g,rfl,rfl⟩
theorem L9 {t:Bool}{l:Addr}{items}{Q:Value->Shared->Prop}(hl:Gr t s.heap l items)
  (hQ:Q (.ref s.heap.objs.size) {s with heap:=s.heap.push {cls:=Cj_ t,data:=.fields #[.ref l,.int 0 0]} }):wpAny (model prog w) A (pyIter (.ref l)) Q E s:=by
 cases t
 ·exact wpAny_pyIter_list hl hQ
 ·exact wpAny_pyIter_tuple hl hQ
end
section
variable {prog:Program} {w:World} {A:Around} {E:Value->Shared->Prop} {s:Shared}
theorem YO {t:Bool}{l:Addr}{items}{Q:Value->Shared->Prop}(hl:Gr t s.heap l items)(h:∀h',s.heap.push {cls:=Cj_ t,data:=.fields #[.ref l,.int 0 0]}=h'->Q (.ref s.heap.objs.size) {s with heap:=h' }):wpAny (model prog w) A (pyIter (.ref l)) Q E s:=L9 hl (h _ rfl)
theorem zipN {t1 t2:Bool}{z TI TO i1 i2 l1 l2:Addr}{k1 k2:Nat}{xs ys:Array Value}{a b:Value}{Q:Option Value->Shared->Prop}(D:ZipApart z TI TO i1 i2 l1 l2)(hz:IsZip s.heap z TI TO .none)(hTI:IsPair s.heap TI (.ref i1) (.ref i2))(hTO:IsPair s.heap TO a b)
  (h1:EM t1 s.heap i1 l1 k1) (h2:EM t2 s.heap i2 l2 k2) (hl1:Gr t1 s.heap l1 xs) (hl2:Gr t2 s.heap l2 ys)
  (hQ:∀x y h',xs[k1]?=some x->ys[k2]?=some y->IsZip h' z TI TO (rawInt s.heap.objs.size)->IsPair h' TO x y->EM t1 h' i1 l1 (k1+1)->EM t2 h' i2 l2 (k2+1)->IsPair h' s.heap.objs.size x y->h'.objs.size=s.heap.objs.size+1->(∀c o,c≠z->c≠TO->c≠i1->c≠i2->s.heap.get? c=some o->h'.get? c=some o)->Q (some (.ref s.heap.objs.size)) {s with heap:=h' })
  (hN:xs[k1]?=none\/ys[k2]?=none->A.handled=none/\∀h',(∀c o,c≠z->c≠TO->c≠i1->c≠i2->s.heap.get? c=some o->h'.get? c=some o)->Q none {s with heap:=h' }):wpAny (model prog w) A (pyNext (.ref z)) Q E s:=by
 have hT:s.TypeIs (.ref z) "zip" := ⟨_,hz,rfl⟩
 have e1:=F.slot_zip_next
 unfold pyNext
 refine wpAny_bind (wpAny_attempt (wpAny_callSpecial?_slot hT e1 (wpAny_call_entry e1 hT F.entry_zip_next ?_ (F.args_zip_next_1 _))))
 wp_walk using wpAny_setField_rec hz
 ·exact Nat.lt_of_sub_eq_succ rfl
 intro u0 g0 k0
 replace g0:IsZip u0 z TI TO .ellipsis:=g0
 have m1:EM t1 u0 i1 l1 k1:=h1.extBut k0.extBut D.i1z
 have m2:Gr t1 u0 l1 xs:=hl1.extBut k0.extBut D.l1z
 simp only[List.zipIdx_cons,List.zipIdx_nil,List.forIn_cons,List.forIn_nil]
 have stop:∀h' (e:Addr),(∀c o,c≠z->c≠TO->c≠i1->c≠i2->s.heap.get? c=some o->h'.get? c=some o)->IsZip h' z TI TO .ellipsis->(∃o,h'.get? e=some o/\o.cls=.type "StopIteration")->xs[k1]?=none\/ys[k2]?=none ->
   wpAny (model prog w) A.in1 (setField (.ref z) 0 .none) (fun _ s''=>wpAny (model prog w) A (do if <- isInstance (.ref e) (.type "StopIteration") then pure none else throw (.ref e)) Q E s'') (fun e s'=>wpAny (model prog w) A (do if <- isInstance e (.type "StopIteration") then pure none else throw e) Q E s') {s with heap:=h' }:=fun h' e kk hz' he hx=>by
  obtain⟨o,e2,e3⟩:=he
  have n:e≠z:=fun x=>by subst x;rw[hz']at e2;cases e2;simp at e3
  refine wpAny_setField_rec hz' (Nat.lt_of_sub_eq_succ rfl) fun h2 _ k2=>wpAny_bind (wpAny_isInstance (T := "StopIteration") (b:=true) ⟨o,k2.extBut e o n e2,e3⟩ isSubtype_stop (wpAny_pure ((hN hx).2 h2 fun c o n1 n2 n3 n4 q=>k2.extBut c o n1 (kk c o n1 n2 n3 n4 q))))
 wp_walk using wpAny_onRaise,YN (A:=A.in1) (s:={s with heap:=u0}) m1 m2
 ·intro x u1 hx m3 k3
  have y0:IsPair u1 TO a b:=k3.extBut TO _ D.TOi1 (k0.extBut TO _ D.TOz hTO)
  wp_walk using wpAny_updateSeq_pair y0
  intro u2 y2 k4
  replace y2:IsPair u2 TO x b:=y2
  have kk:∀c o,c≠z->c≠TO->c≠i1->s.heap.get? c=some o->u2.get? c=some o:=fun c o n1 n2 n3 q=>k4.extBut c o n2 (k3.extBut c o n3 (k0.extBut c o n1 q))
  have g2:IsZip u2 z TI TO .ellipsis:=k4.extBut _ _ D.TOz.symm (k3.extBut _ _ D.i1z.symm g0)
  have m4:EM t2 u2 i2 l2 k2:=h2.at fun o q=>kk _ o D.i2z D.TOi2.symm D.i12.symm q
  have m5:Gr t2 u2 l2 ys:=((hl2.extBut k0.extBut D.l2z).extBut k3.extBut D.l2i1).extBut k4.extBut D.l2TO
  wp_walk using wpAny_onRaise,YN (A:=A.in1) (s:={s with heap:=u2}) m4 m5
  ·intro y u3 hy m6 k5
   have y3:IsPair u3 TO x b:=k5.extBut TO _ D.TOi2 y2
   wp_walk using wpAny_updateSeq_pair y3
   intro u4 y4 k6
   replace y4:IsPair u4 TO x y:=y4
   have g4:IsZip u4 z TI TO .ellipsis:=k6.extBut _ _ D.TOz.symm (k5.extBut _ _ D.i2z.symm g2)
   have zz:u4.objs.size=s.heap.objs.size:=k6.1.trans (k5.1.trans (k4.1.trans (k3.1.trans k0.1)))
   wp_walk using newT
   ·exact (show 2<=sizeLine from by decide)
   intro u5 q5
   have kp:∀c o,u4.get? c=some o->u5.get? c=some o:=fun c o q=>by rw[<-q5];exact Heap.get?_push_of_some _ q
   have g5:=kp z _ g4
   have y5:IsPair u5 u4.objs.size x y:=by rw[<-q5];exact Heap.get?_push_size _ rfl
   have z5:u5.objs.size=u4.objs.size+1:=by rw[<-q5];exact Heap.size_push ..
   wp_walk using wpAny_setField_rec g5
   ·exact Nat.lt_of_sub_eq_succ rfl
   intro u6 g6 k7
   replace g6:IsZip u6 z TI TO (rawInt u4.objs.size):=g6
   wp_walk using wpAny_setField_rec g6
   ·exact Nat.lt_of_sub_eq_succ rfl
   intro u7 g7 k8
   replace g7:IsZip u7 z TI TO (rawInt u4.objs.size):=g7
   refine wpAny_pure ⟨_,rfl,wpAny_pure ?_⟩
   show Q (some (Value.ref u4.objs.size)) _
   have up:∀c o,c≠z->u4.get? c=some o->u7.get? c=some o:=fun c o n q=>k8.extBut c o n (k7.extBut c o n (kp c o q))
   have nz:u4.objs.size≠z:=Nat.ne_of_gt (Heap.lt_size g4)
   have y7:=k8.extBut _ _ nz (k7.extBut _ _ nz y5)
   rw[zz]at g7 y7 z5 ⊢
   exact hQ x y u7 hx hy g7 (up _ _ D.TOz y4) ((m3.at fun o q=>k6.extBut _ o D.TOi1.symm (k5.extBut _ o D.i12 (k4.extBut _ o D.TOi1.symm q))).at fun o q=>up _ o D.i1z q) ((m6.at fun o q=>k6.extBut _ o D.TOi2.symm q).at fun o q=>up _ o D.i2z q) y7 ((k8.1.trans k7.1).trans z5)
    fun c o n1 n2 n3 n4 q=>up c o n1 (k6.extBut c o n2 (k5.extBut c o n4 (kk c o n1 n2 n3 q)))
  ·refine fun hy=>⟨(hN (.inr hy)).1,fun u3 e k5 he=>?_⟩
   exact stop u3 e (fun c o n1 n2 n3 n4 q=>k5 c o n4 (kk c o n1 n2 n3 q)) (k5 z _ D.i2z.symm g2) he (.inr hy)
 ·refine fun hx=>⟨(hN (.inl hx)).1,fun u1 e k3 he=>?_⟩
  exact stop u1 e (fun c o n1 n2 n3 n4 q=>k3 c o n3 (k0.extBut c o n1 q)) (k3 z _ D.i1z.symm g0) he (.inl hx)
theorem Vg {t1 t2:Bool}{l1 l2:Addr}{xs ys:Array Value}{Q:Value->Shared->Prop}(hl1:Gr t1 s.heap l1 xs)(hl2:Gr t2 s.heap l2 ys)
  (h:∀h',IsZip h' (s.heap.objs.size+4) (s.heap.objs.size+2) (s.heap.objs.size+3) .none->IsPair h' (s.heap.objs.size+2) (.ref s.heap.objs.size) (.ref (s.heap.objs.size+1))->IsPair h' (s.heap.objs.size+3) .none .none->EM t1 h' s.heap.objs.size l1 0->EM t2 h' (s.heap.objs.size+1) l2 0->h'.objs.size=s.heap.objs.size+5->(∀c o,s.heap.get? c=some o->h'.get? c=some o)->Q (.ref (s.heap.objs.size+4)) {s with heap:=h' }):
  wpAny (model prog w) A (call (.type "zip") [.ref l1,.ref l2]) Q E s:=by
 have M:Meets (Builtin.«zip.__new__» ⟨[.type "zip",.ref l1,.ref l2],[]⟩) fun _ R t=>t=s/\∀h',IsZip h' (s.heap.objs.size+4) (s.heap.objs.size+2) (s.heap.objs.size+3) .none->IsPair h' (s.heap.objs.size+2) (.ref s.heap.objs.size) (.ref (s.heap.objs.size+1))->IsPair h' (s.heap.objs.size+3) .none .none->EM t1 h' s.heap.objs.size l1 0->EM t2 h' (s.heap.objs.size+1) l2 0->h'.objs.size=s.heap.objs.size+5->(∀c o,s.heap.get? c=some o->h'.get? c=some o)->R (.ok (.ret (.ref (s.heap.objs.size+4)))) {s with heap:=h' }:=.of_wp fun prog w A R t ⟨e,q⟩=>by
  subst e
  obtain⟨hp,g,d,tk,os⟩:=t
  have hsub:=sub_zip
  wp_walk using YO hl1
  intro u1 q1
  obtain⟨a1,b1,c1⟩:=psh q1 rfl
  have hl2':Gr t2 u1 l2 ys:=by rw[<-q1];exact Gr.push hl2 _
  wp_walk using YO (s:=⟨u1,g,d,tk,os⟩) hl2'
  intro u2 q2
  obtain⟨a2,b2,c2⟩:=psh q2 rfl
  wp_walk using newT
  ·exact (show 2<=sizeLine from by decide)
  intro u3 q3
  obtain⟨a3,b3,c3⟩:=psh q3 rfl
  wp_walk using newT
  ·exact (show 2<=sizeLine from by decide)
  intro u4 q4
  obtain⟨a4,b4,c4⟩:=psh q4 rfl
  wp_walk
  refine⟨_,rfl,?_⟩
  have Z1:u1.objs.size=hp.objs.size+1:=c1
  have Z2:u2.objs.size=hp.objs.size+2:=(show u2.objs.size=u1.objs.size+1 from c2).trans (by rw[Z1])
  have Z3:u3.objs.size=hp.objs.size+3:=(show u3.objs.size=u2.objs.size+1 from c3).trans (by rw[Z2])
  have Z4:u4.objs.size=hp.objs.size+4:=(show u4.objs.size=u3.objs.size+1 from c4).trans (by rw[Z3])
  obtain⟨a5,b5,c5⟩:=psh (rfl:u4.push {cls:=.type "zip",data:=.fields #[.none,.bool false,.bool false,.ref u2.objs.size,.ref u3.objs.size]}=_) rfl
  replace b1:u1.get? hp.objs.size=_:=b1
  replace b2:u2.get? u1.objs.size=_:=b2
  replace b3:IsPair u3 u2.objs.size (.ref hp.objs.size) (.ref u1.objs.size):=b3
  replace b4:IsPair u4 u3.objs.size .none .none:=b4
  show R (.ok (.ret (.ref u4.objs.size))) ⟨u4.push {cls:=.type "zip",data:=.fields #[.none,.bool false,.bool false,.ref u2.objs.size,.ref u3.objs.size]},g,d,tk,os⟩
  rw[Z1,Z2]at b3
  rw[Z1]at b2
  rw[Z3]at b4
  rw[Z2,Z3,Z4]at b5
  rw[Z2,Z3]at a5 c5 ⊢
  rw[Z4]at c5 ⊢
  exact q _ b5 (a5 _ _ (a4 _ _ b3)) (a5 _ _ b4) (EM.mk (a5 _ _ (a4 _ _ (a3 _ _ (a2 _ _ b1))))) (EM.mk (a5 _ _ (a4 _ _ (a3 _ _ b2)))) c5 fun c o x=>a5 _ _ (a4 _ _ (a3 _ _ (a2 _ _ (a1 _ _ x))))
 exact callType_new F.called_zip (by decide) (F.typeCall_zip_2 _ _) (F.newCall_zip_2 _ _) (fun obj=>F.args_object_init_3 obj _ _) F.entry_zip_new M ⟨rfl,fun h' a b c d e f g=>⟨⟨_,a,rfl⟩,h h' a b c d e f g⟩⟩
end
end PySem
namespace L2
open PySem PySem.Spec PyProof.Rows GW
def SqB (K:PySem.W.Frag)(H:Hp)(t:Bool)(a:Addr)(xs:List V):Prop:=match t with|false=>SqL K H a xs|true=>SqT K H a xs
theorem SqB.mono {K:PySem.W.Frag}{H H':Hp}{t:Bool}{a:Addr}{xs:List V}(h:SqB K H t a xs)(s:Same H H'):SqB K H' t a xs:=by
 cases t
 ·exact s.seq h
 ·exact s.seqT h
theorem Inv.seqB {X:Cx}{pins:List (Addr×Obj)}{σ:St}{H:Hp}{s:Shared}{t:Bool}{a:Addr}{xs:List V}(I:Inv X pins σ H s)(h:SqB X.K H t a xs):∃its:List Value,Vals xs its/\Gr t s.heap a its.toArray:=by
 cases t
 ·obtain⟨its,r,p,_⟩:=I.list h
  exact⟨its,r,p.isList⟩
 ·obtain⟨its,r,p,_⟩:=I.tuple h
  exact⟨its,r,p⟩
def Itz2 (K:PySem.W.Frag)(t1 t2:Bool)(a b:Addr)(xs ys:List V):It:=⟨fun i H=>i<xs.length/\i<ys.length/\SqB K H t1 a xs/\SqB K H t2 b ys,fun i H x H'=>∃t u v,H t=none/\xs[i]?=some u/\ys[i]?=some v/\x=.ref t/\H'=upd H t (.tup [u,v]),fun i H=>(xs.length<=i\/ys.length<=i)/\SqB K H t1 a xs/\SqB K H t2 b ys⟩
theorem YQ {P:Program}{w:World}{K:PySem.W.Frag}{elts:List Expr}{x1}{tpos:Pos}{t1 t2:Bool}{a b z TI TO i1 i2:Addr}(D:ZipApart z TI TO i1 i2 a b)(xs ys:List V):Turn P w K (.Tuple elts x1 tpos) (Itz2 K t1 t2 a b xs ys) [z,TI,TO,i1,i2] z
  (fun i h=>IsZip h z TI TO .none/\IsPair h TI (.ref i1) (.ref i2)/\(∃c d,IsPair h TO c d)/\EM t1 h i1 a i/\EM t2 h i2 b i) where
 mem:=by simp
 obj:=fun i h st c hc=>by
  obtain⟨h1,h2,⟨u,v,h3⟩,h4',h5'⟩:=st
  obtain⟨o4,h4,d4⟩:=h4'.ob
  obtain⟨o5,h5,d5⟩:=h5'.ob
  simp only[List.mem_cons,List.not_mem_nil,or_false]at hc
  rcases hc with rfl|rfl|rfl|rfl|rfl
  ·exact⟨_,h1,fun v z=>by cases z⟩
  ·exact⟨_,h2,fun v z=>by cases z⟩
  ·exact⟨_,h3,fun v z=>by cases z⟩
  ·exact⟨o4,h4,fun v z=>by rw[d4]at z;cases z⟩
  ·exact⟨o5,h5,fun v z=>by rw[d5]at z;cases z⟩
 keep:=fun i h h' st k=>by
  obtain⟨h1,h2,⟨u,v,h3⟩,h4,h5⟩:=st
  exact⟨k z (by simp) _ h1,k TI (by simp) _ h2,⟨u,v,k TO (by simp) _ h3⟩,h4.at fun o q=>k i1 (by simp) o q,h5.at fun o q=>k i2 (by simp) o q⟩
 item:=by
  intro X hP hw hK hc i pins s σ H E I hf st hg
  subst hP hw hK
  obtain⟨hi,hj,hq,hq2⟩:=hg
  obtain⟨hz,hTI,⟨c,d,hTO⟩,h1,h2⟩:=st
  obtain⟨its,rv,p⟩:=I.seqB hq
  obtain⟨its2,rv2,p2⟩:=I.seqB hq2
  obtain⟨u,hu,ru⟩:=rv.get (i:=i) (x:=xs[i]) (by simp[hi])
  obtain⟨v,hv,rv'⟩:=rv2.get (i:=i) (x:=ys[i]) (by simp[hj])
  have l1:=rv.length
  have l2:=rv2.length
  refine zipN D hz hTI hTO h1 h2 p p2 (fun u' v' h' eu ev g1 g2 g3 g4 g5 gs gk=>?_) fun y=>by simp at y;omega
  obtain rfl:u=u':=by simpa [hu] using eu
  obtain rfl:v=v':=by simpa [hv] using ev
  have hTz:s.heap.objs.size≠z:=Nat.ne_of_gt (Heap.lt_size hz)
  refine⟨_,rfl,wpAny_letOwnedTupleGo_zip g1 fun h2' e1 hs2=>?_⟩
  have hk2:∀b o,b ∉ [z,TI,TO,i1,i2]->s.heap.get? b=some o->h2'.get? b=some o:=fun b o hb q=>by
   simp only[List.mem_cons,List.not_mem_nil,or_false,not_or]at hb
   exact (hs2.2 b hb.1).trans (gk b o hb.1 hb.2.2.1 hb.2.2.2.1 hb.2.2.2.2 q)
  obtain⟨un,hok⟩:=I.unL hk2 hf
  have hn:H s.heap.objs.size=none:=I.hok.fresh (Nat.le_refl _)
  have new:Bk X.prog X.w (upd H s.heap.objs.size (.tup [xs[i],ys[i]])) h2' s.heap.objs.size (.tup [xs[i],ys[i]]):=⟨by have:=Al;simp;omega,[u,v],.cons ru (.cons rv' .nil),_,(hs2.2 _ hTz).trans g5,rfl,_,rfl⟩
  refine⟨.ref s.heap.objs.size,upd H s.heap.objs.size (.tup [xs[i],ys[i]]),I.call' (s':={s with heap:=h2' }) (ch:=[z,TI,TO,i1,i2]) rfl (un.track (Nat.le_refl _) hn) (hok.track hn new) I.bare (fun b hb=>?_),rfl,⟨_,_,_,hn,by simp[hi],by simp[hj],rfl,rfl⟩,?_,fun b hb=>?_⟩
  ·exact (hf b hb).ch
  ·refine⟨e1,(hs2.2 TI D.TIz).trans (gk TI _ D.TIz D.TITO D.TIi1 D.TIi2 hTI),⟨u,v,(hs2.2 TO D.TOz).trans g2⟩,g3.at fun o q=>(hs2.2 i1 D.i1z).trans q,g4.at fun o q=>(hs2.2 i2 D.i2z).trans q⟩
  ·have hb':=hf b hb
   have:∃o,s.heap.get? b=some o:=by
    simp only[List.mem_cons,List.not_mem_nil,or_false]at hb
    rcases hb with rfl|rfl|rfl|rfl|rfl
    ·exact⟨_,hz⟩
    ·exact⟨_,hTI⟩
    ·exact⟨_,hTO⟩
    ·obtain⟨o,ho,_⟩:=h1.ob;exact⟨o,ho⟩
    ·obtain⟨o,ho,_⟩:=h2.ob;exact⟨o,ho⟩
   obtain⟨o,ho⟩:=this
   rw[Av (Nat.ne_of_lt (Heap.lt_size ho))]
   exact hb'.1
 done:=by
  intro X hP hw hK hc i pins s σ H E I hf st hg
  subst hP hw hK
  obtain⟨hi,hq,hq2⟩:=hg
  obtain⟨hz,hTI,⟨c,d,hTO⟩,h1,h2⟩:=st
  obtain⟨its,rv,p⟩:=I.seqB hq
  obtain⟨its2,rv2,p2⟩:=I.seqB hq2
  have l1:=rv.length
  have l2:=rv2.length
  refine zipN D hz hTI hTO h1 h2 p p2 (fun u v h' eu ev=>by have a:=(Array.getElem?_eq_some_iff.mp eu).1;have b:=(Array.getElem?_eq_some_iff.mp ev).1;simp at a b;omega) fun _=>⟨I.ok.hd hc,fun h' gk=>⟨rfl,?_⟩⟩
  obtain⟨un,hok⟩:=I.unL (h':=h') (fun b o hb q=>by
   simp only[List.mem_cons,List.not_mem_nil,or_false,not_or]at hb
   exact gk b o hb.1 hb.2.2.1 hb.2.2.2.1 hb.2.2.2.2 q) hf
  exact I.call' (s':={s with heap:=h' }) (ch:=[z,TI,TO,i1,i2]) rfl un hok I.bare fun b hb=>(hf b hb).ch
 self:=fun A i s Q E st h=>wpAny_pyIter_zip st.1 h
def DO_ (K:PySem.W.Frag)(ta:TA):TI:=fun σ H R=>ta σ H fun vs H1=>∃a b xs ys t1 t2,vs=[.ref a,.ref b]/\SqB K H1 t1 a xs/\SqB K H1 t2 b ys/\R (Itz2 K t1 t2 a b xs ys) H1
theorem YR {K:PySem.W.Frag}{ta:TA}{σ:St}{H:Hp}{Z:It->Hp->Prop}:DO_ K ta σ H Z=ta σ H fun vs H1=>∃a b xs ys t1 t2,vs=[.ref a,.ref b]/\SqB K H1 t1 a xs/\SqB K H1 t2 b ys/\Z (Itz2 K t1 t2 a b xs ys) H1:=rfl
theorem YS {X:Cx}{elts:List Expr}{x1}{tpos:Pos}{e f:Expr}{ta:TA}{p pos:Pos}(hg:Gl X "zip")(hm:X.mg "zip"=none)(ha:PA X [e,f] ta)(hs:starEach [e,f] X.env=[(false,eval e X.env),(false,eval f X.env)]:=by rfl)(hs2:starEach [f] X.env=[(false,eval f X.env)]:=by rfl):PI X (.Tuple elts x1 tpos) (.Call (.Name "zip" p) [e,f] [] pos) (DO_ X.K ta):=by
 intro pins s σ H R I h
 refine Call_ (Jl I hg hm boot_zip (PyProof.Rows.callWith_type1 (thn (ha pos pins s σ H _ I h) fun us s1 ⟨vs,H1,I1,r1,q1⟩=>?_) (by rw[hs,hs2]) (by rw[hs2];rfl)))
 obtain⟨a,b,xs,ys,t1,t2,ev,hq,hq2,q⟩:=q1
 subst ev
 cases r1 with
 |cons r rr=>cases rr with
  |cons r' rr=>
   cases rr
   cases r
   cases r'
   obtain⟨its,rv,pl⟩:=I1.seqB hq
   obtain⟨its2,rv2,pl2⟩:=I1.seqB hq2
   refine Vg pl pl2 fun h' hz hTI hTO hi1 hi2 hsz hk=>?_
   refine wpAny_pyIter_zip (s:={s1 with heap:=h' }) hz ?_
   have I2:Inv X pins σ H1 {s1 with heap:=h' }:=I1.kept (t':=s1.toks) hk
   refine⟨_,_,_,_,H1,rfl,I2,YQ (zipApart_new pl.lt pl2.lt) xs ys,⟨hz,hTI,⟨_,_,hTO⟩,hi1,hi2⟩,fun c hc=>?_,q⟩
   have hle:s1.heap.objs.size<=c:=by
    simp only[List.mem_cons,List.not_mem_nil,or_false]at hc
    rcases hc with rfl|rfl|rfl|rfl|rfl
    ·exact Nat.le_add_right _ 4
    ·exact Nat.le_add_right _ 2
    ·exact Nat.le_add_right _ 3
    ·exact Nat.le_refl _
    ·exact Nat.le_add_right _ 1
   exact I1.fpOk hle (I1.hok.fresh hle)
theorem DP_ {K:PySem.W.Frag}{cp:Caps}{t1 t2:Bool}{a b:Addr}{xs ys:List V}{g:TG}{tc:TT}{te:TE}{Q:VK}{σ:St}{H:Hp}(n:Nat)(hn1:n<=xs.length)(hn2:n<=ys.length)(hn3:xs.length=n\/ys.length=n)(Pv:Nat->List V->St->Hp->Prop)(h0:Pv 0 [] (cp.st σ) H)(hz:n<sizeLine)
  (hl:∀i zs σ H,i<=n->Pv i zs σ H->SqB K H t1 a xs/\SqB K H t2 b ys/\zs.length<=i)
  (hs:∀i u v zs σ H t,i<n->xs[i]?=some u->ys[i]?=some v->Pv i zs σ H->H t=none->g (.ref t) σ (upd H t (.tup [u,v])) fun σ2 H2=>tc σ2 H2 fun b H3=>if b=true then te σ2 H3 fun v H4=>Pv (i+1) (zs++[v]) σ2 H4 else Pv (i+1) zs σ2 H3)
  (hd:∀zs σ H,Pv n zs σ H->∀D,H D=none->Q (.ref D) (upd H D (.lst zs))):Jh (Itz2 K t1 t2 a b xs ys) cp g tc te σ H Q:=by
 refine⟨fun i m zs σ H=>m=n-i/\i<=n/\Pv i zs σ H,⟨n,by simp,Nat.zero_le _,h0⟩,?_⟩
 rintro i m zs σ H ⟨rfl,hi,p⟩
 obtain⟨q1,q2,ly⟩:=hl i zs σ H hi p
 refine⟨by omega,?_⟩
 by_cases hlt:i<n
 ·refine .inr ⟨⟨by omega,by omega,q1,q2⟩,Pv (i+1),fun zs' σ' H' p'=>⟨n-(i+1),by omega,rfl,hlt,p'⟩,fun x H' y=>?_⟩
  obtain⟨t,u,v,e1,e2,e3,rfl,rfl⟩:=y
  exact hs i u v zs σ H t hlt e2 e3 p e1
 ·have e:i=n:=by omega
  subst e
  exact .inl ⟨⟨by omega,q1,q2⟩,hd zs σ H p⟩
theorem Wa {K:PySem.W.Frag}{cp:Caps}{te:TE}{Q:VK}{σ:St}{H:Hp}{t:Bool}{a:Addr}{xs:List V}{σ':St}(f:V->V)(e:cp.st σ=none::σ')(hl:SqB K H t a xs)(hz:xs.length<sizeLine)(hs:∀x∈xs,∀R:VK,R (f x) H->te (some x::σ') H R)(hd:∀D,H D=none->Q (.ref D) (upd H D (.lst (xs.map f)))):
  ((∃xs,SqL K H a xs)/\Jh (Itl K a) cp (J2 0) N3 te σ H Q)\/((∃xs,SqT K H a xs)/\Jh (Itt K a) cp (J2 0) N3 te σ H Q):=by
 cases t
 ·exact .inl ⟨⟨_,hl⟩,ZM f e hl hz hs hd⟩
 ·exact .inr ⟨⟨_,hl⟩,PX f e hl hz hs hd⟩
theorem Wb {K:PySem.W.Frag}{cp:Caps}{g:TG}{te:TE}{Q:VK}{σ:St}{H:Hp}{t1 t2:Bool}{a b:Addr}{xs ys:List Int}{σ':St}(f:Int->Int->Int)(e:cp.st σ=none::none::σ')(h1:SqB K H t1 a (xs.map V.int))(h2:SqB K H t2 b (ys.map V.int))(hlen:xs.length=ys.length)(hz:xs.length<sizeLine)
  (hg:∀t u v o1 o2 H N,H t=some (.tup [u,v])->N (some u::some v::σ') H->g (.ref t) (o1::o2::σ') H N)
  (hs:∀x y H',x∈xs->y∈ys->Same H H'->∀R:VK,R (.int (f x y)) H'->te (some (.int x)::some (.int y)::σ') H' R)
  (hd:∀H' D,Same H H'->H' D=none->Q (.ref D) (upd H' D (.lst ((List.zipWith f xs ys).map V.int)))):Jh (Itz2 K t1 t2 a b (xs.map V.int) (ys.map V.int)) cp g N3 te σ H Q:=by
 refine DP_ xs.length (by rw[List.length_map];omega) (by rw[List.length_map];omega) (by rw[List.length_map];exact .inl rfl) (fun i zs σ2 H2=>Same H H2/\zs=((List.zipWith f xs ys).take i).map V.int/\∃o1 o2,σ2=o1::o2::σ') ⟨Same.refl _,by simp,none,none,e⟩ hz (fun i zs σ2 H2 hi h=>?_) (fun i u v zs σ2 H2 t hi hu hv h ht=>?_) (fun zs σ2 H2 h D hD=>?_)
 ·obtain⟨s2,rfl,_⟩:=h
  exact⟨h1.mono s2,h2.mono s2,by rw[List.length_map,List.length_take];omega⟩
 ·obtain⟨s2,rfl,o1,o2,rfl⟩:=h
  obtain⟨x,hx,rfl⟩:=Ja hu
  obtain⟨y,hy,rfl⟩:=Ja hv
  refine hg t _ _ o1 o2 _ _ Ac ?_
  rw[Yp,if_pos rfl]
  refine hs x y _ (List.mem_of_getElem? hx) (List.mem_of_getElem? hy) (s2.newT ht) _ ⟨s2.newT ht,?_,_,_,rfl⟩
  rw[List.take_add_one,List.getElem?_zipWith,hx,hy];simp
 ·obtain⟨s2,rfl,_⟩:=h
  have:=hd H2 D s2 hD
  rwa [List.take_of_length_le (by rw[List.length_zipWith];omega)]
end L2
namespace Nest
def sl (row:List Int)(b i:Nat):List Int:=(row.take i).drop b
def dl (p e x:Int):Int:=if x=e then -1 else if p<=x then 1 else 0
def outF (p e:Int)(s:List Int×Int)(x:Int):List Int×Int:=if x=e then (s.1,s.2-1) else (if s.2=0 then s.1++[x] else s.1,if p<=x then s.2+1 else s.2)
def outS (p e:Int)(l:List Int):List Int×Int:=l.foldl (outF p e) ([],0)
def outW (p e:Int)(l:List Int):List Int:=(outS p e l).1
def wd (p e:Int)(row:List Int)(i a:Nat):List Int:=outW p e (sl row (a+1) i)
end Nest
namespace L2
open PySem PySem.Spec PyProof.Rows GW
theorem Vh {X:Cx}{K:PySem.W.Frag}{es:List Expr}{k:Nat}{t:TGs}{n:Nat}{pos:Pos}(hK:X.K=K)(hc:X.calm=true)(h:PGs X es t)
  (hn:(assignEach es X.env).length=n:=by rfl) (hst:(assignEach es X.env).findIdx? (·.1)=none:=by rfl):PG X (.Tuple es k pos) (gTup K n t):=by
 subst hK
 exact VS hc h hn hst
end L2
namespace HT
open PySem PySem.Spec PyProof.Rows L2
section
variable {prog:Program} {w:World} {A:Around} {E:Value->Shared->Prop} {s:Shared}
theorem getItem_tuple_whole {t sl:Addr}{items:Array Value}{vl vu:Value}{lo hi:Option Int}{Q:Value->Shared->Prop}(ht:IsTup s.heap t items)(hs:s.heap.IsSliceOf sl vl vu .none)(pl:IsPart vl lo)(pu:IsPart vu hi)
  (hw:sIx items.size 0 lo=0/\sIx items.size items.size hi=items.size) (h:Q (.ref t) s):wpAny (model prog w) A (getItem (.ref t) (.ref sl)) Q E s:=by
 obtain⟨os,hos,hcs,hds⟩:=id hs
 have hTs:s.TypeIs (.ref sl) "slice" := ⟨os,hos,hcs⟩
 unfold getItem
 try with_reducible refine wpAny_holding ?_
 first|refine wpAny_bind (wpAny_pure ?_)|skip
 refine wpAny_bind (wpAny_sequenceKey ht.typeIs (by decide) ?_)
 refine wpAny_bind (wpAny_callSpecial?_slot (name:=Str.ofString "__getitem__") ht.typeIs PyProof.Rows.slot_tuple_getitem
  (wpAny_call_entry PyProof.Rows.slot_tuple_getitem ht.typeIs entry_tuple_getitem ?_ (args_tuple_getitem _ _)))
 show wpAny _ _ (Builtin.Tuple.tupleItemsOf (.ref t) >>= _) _ _ s
 refine wpAny_bind (tupleItemsOf_ ht ?_)
 refine wpAny_bind (wpAny_typeOf hTs ?_)
 rw[if_pos (by decide)]
 refine wpAny_bind (Hn hs pl pu ?_)
 rw[hw.1,hw.2]
 show wpAny _ _ (if ((((0:Nat):Int)==0&&(1:Int)==1&&(items.size-0)==items.size)=true) then _ else _) _ _ s
 rw[if_pos (by simp)]
 refine wpAny_bind ?_
 unfold Builtin.Tuple.tupleIsExact
 refine wpAny_bind (wpAny_typeOf ht.typeIs (wpAny_pure ?_))
 rw[if_pos (by decide)]
 refine wpAny_bind (wpAny_rule ?_)
 exact wpAny_pure ⟨_,rfl,wpAny_pure h⟩
end
end HT
namespace L2
open PySem PySem.Spec PyProof.Rows GW
def DQ_ (K:PySem.W.Frag):V->Option Int->Option Int->Hp->VK->Prop:=fun x lo hi H Q=>∃a xs,x=.ref a/\SqT K H a xs/\∀p H',Same H H'->SqT K H' p (cutV xs lo hi)->Q (.ref p) H'
theorem Bt_ {K:PySem.W.Frag}{x:V}{lo hi:Option Int}{H:Hp}{Q:VK}:DQ_ K x lo hi H Q=∃a xs,x=.ref a/\SqT K H a xs/\∀p H',Same H H'->SqT K H' p (cutV xs lo hi)->Q (.ref p) H':=rfl
theorem MV {X:Cx}:SlR X (DQ_ X.K):=by
 intro pins s σ H x v vl vu lo hi sl Q I rx hs pl pu h
 obtain⟨a,xs,rfl,hx,q⟩:=h
 by_cases hw:HT.sIx xs.length 0 lo=0/\HT.sIx xs.length xs.length hi=xs.length
 ·cases rx
  obtain⟨its,r,ht,hz⟩:=I.tuple hx
  have hlen:its.toArray.size=xs.length:=by rw[List.size_toArray];exact r.length.symm
  refine⟨"tuple",_,PyProof.Rows.slot_tuple_getitem.lookup,ht.typeIs,?_⟩
  refine HT.getItem_tuple_whole ht hs pl pu (by rw[hlen];exact hw) ⟨.ref a,H,I,rfl,q a H (Same.refl _) ?_⟩
  unfold cutV
  rw[hw.1,hw.2,List.drop_zero,Nat.sub_zero,List.take_length]
  exact hx
 ·exact Di_ pins s σ H (.ref a) v vl vu lo hi sl Q I rx hs pl pu ⟨a,xs,rfl,hx,hw,fun p hp=>q p _ (Same.new hp) (SqT.of Ac)⟩
theorem Ck_ {X:Cx}{K:PySem.W.Frag}{tg l:Expr}{tl:TE}(hK:X.K=K)(hl:PE X l tl):PI X tg l (iSeq K tl):=by subst hK;exact Yz hl
theorem ZX {X:Cx}{K:PySem.W.Frag}{tg l:Expr}{tl:TE}(hK:X.K=K)(hl:PE X l tl):PI X tg l (BO_ K tl):=by subst hK;exact Fm hl
theorem Cl_ {X:Cx}{K:PySem.W.Frag}{tg l:Expr}{tl:TE}(hK:X.K=K)(hl:PE X l tl):PI X tg l (iTup K tl):=by subst hK;exact Jm hl
theorem YT {K:PySem.W.Frag}{cp:Caps}{te:TE}{Q:VK}{σ:St}{H:Hp}{t:Bool}{a:Addr}{xs:List V}{σ':St}(g:Nat->V)(e:cp.st σ=none::σ')(hl:SqB K H t a xs)(hz:xs.length<sizeLine)(hs:∀i x,xs[i]?=some x->∀R:VK,R (g i) H->te (some x::σ') H R)(hd:∀D,H D=none->Q (.ref D) (upd H D (.lst ((List.range xs.length).map g)))):
  ((∃xs,SqL K H a xs)/\Jh (Itl K a) cp (J2 0) N3 te σ H Q)\/((∃xs,SqT K H a xs)/\Jh (Itt K a) cp (J2 0) N3 te σ H Q):=by
 cases t
 ·refine .inl ⟨⟨_,hl⟩,U9 (xs:=xs) (fun i ys σ2 H2=>H2=H/\ys=(List.range i).map g/\∃o,σ2=o::σ') ⟨rfl,rfl,none,e⟩ hz (fun i ys σ2 H2 hi h=>?_) (fun i x ys σ2 H2 hx h=>?_) (fun ys σ2 H2 h=>?_)⟩
  ·obtain⟨rfl,rfl,_⟩:=h
   exact⟨hl,by rw[List.length_map,List.length_range];exact Nat.le_refl _⟩
  ·obtain⟨rfl,rfl,o,rfl⟩:=h
   refine hs i x hx _ ⟨rfl,?_,some x,rfl⟩
   rw[List.range_succ,List.map_append];rfl
  ·obtain⟨rfl,rfl,_⟩:=h
   exact hd
 ·refine .inr ⟨⟨_,hl⟩,Yq (xs:=xs) (fun i ys σ2 H2=>H2=H/\ys=(List.range i).map g/\∃o,σ2=o::σ') ⟨rfl,rfl,none,e⟩ hz (fun i ys σ2 H2 hi h=>?_) (fun i x ys σ2 H2 hx h=>?_) (fun ys σ2 H2 h=>?_)⟩
  ·obtain⟨rfl,rfl,_⟩:=h
   exact⟨hl,by rw[List.length_map,List.length_range];exact Nat.le_refl _⟩
  ·obtain⟨rfl,rfl,o,rfl⟩:=h
   refine hs i x hx _ ⟨rfl,?_,some x,rfl⟩
   rw[List.range_succ,List.map_append];rfl
  ·obtain⟨rfl,rfl,_⟩:=h
   exact hd
end L2
namespace L2
open PySem PySem.Spec PyProof.Rows
theorem HH {X:Cx}{K:PySem.W.Frag}(h:X.K=K):OpR X (binaryOp .Add) (DH K):=by subst h;exact DM
end L2
set_option maxHeartbeats 1000000
set_option maxHeartbeats 4000000
namespace L2
open PySem PySem.W PySem.Spec PySem.Calls PyProof.Rows
def rIxB (K:PySem.W.Frag):R2:=fun x y H Q=>rIxL K x y H Q\/rIxT K x y H Q
theorem YU {X:Cx}{K:PySem.W.Frag}(h:X.K=K):IxR X (rIxB K):=IxR.or (P0 h) (Ec h)
theorem DR_ {K:PySem.W.Frag}{x y:V}{H:Hp}{Q:VK}:rIxB K x y H Q=((∃p xs i v,x=.ref p/\y=.int i/\SqL K H p xs/\atI xs i=some v/\Q v H) \/ ∃p xs i v,x=.ref p/\y=.int i/\SqT K H p xs/\atI xs i=some v/\Q v H):=rfl
end L2
namespace L2
section
variable {α:Type} [DecidableEq α]
def ins1 (acc:List α)(x:α):List α:=if x∈acc then acc else acc++[x]
def Cm_ (acc row:List α):List α:=row.foldl ins1 acc
def YV (row:List α):List α:=Cm_ [] row
def num (row:List α):List Int:=row.map fun x=>((YV row).idxOf x:Int)
def ncl (row:List α):Nat:=(YV row).length
end
def rowB (n:Nat)(b:List Int->Nat->Int)(w:List Int):List Int:=(List.range n).map (b w)
abbrev StC:=List (List Int)×List Int
def Es_ (n:Nat)(b:List Int->Nat->Int)(w:List Int)(st:StC)(x:Nat):StC:=if ncl st.2<ncl (st.2.zip (rowB n b ((x:Int)::w))) then (st.1++[(x:Int)::w],num (st.2.zip (rowB n b ((x:Int)::w)))) else st
def DS_ (n:Nat)(b:List Int->Nat->Int)(w:List Int)(L:Nat)(st:StC):StC:=(List.range L).foldl (Es_ n b w) st
def Bu_ (n:Nat)(b:List Int->Nat->Int)(L:Nat):Nat->Nat->StC->StC
 |0,_,st=>st
 |f+1,k,st=>if k<st.1.length then Bu_ n b L f (k+1) (DS_ n b (st.1.getD k []) L st) else st
section
variable {n L:Nat} {b:List Int->Nat->Int} {w:List Int} {st:StC}
def wcOf (n L:Nat)(b:List Int->Nat->Int):StC:=Bu_ n b L 41 0 ([[]],num (rowB n b []))
end
end L2
namespace L2
open GW GB
def bW (marks:List Int)(ways:List (List Int))(w:List Int)(r:Nat):Int:=marks.getD (En_ ways (r:Int) w).toNat 0
def cf (c:List Int)(r:Int):Int:=c.getD r.toNat 0
def hm (c R:List Int)(r:Int):Int:=(((YV (R.map (cf c))).idxOf (cf c r):Nat):Int)
def DT_ (c acc:List Int)(r:Int):List Int:=if cf c r∈acc.map (cf c) then acc else acc++[r]
def FR (c R:List Int):List Int:=R.foldl (DT_ c) []
def hrow (c R:List Int)(ways:List (List Int))(r:Int):List Int:=(ways.getD r.toNat []).map (hm c R)
def cOf (L:Nat)(marks:List Int)(ways:List (List Int)):List Int:=(wcOf marks.length L (bW marks ways)).2
def rOf (ways:List (List Int)):List Int:=(YD ways).map (·.1)
def sF (L:Nat)(marks:List Int)(ways:List (List Int)):List Int:=FR (cOf L marks ways) (rOf ways)
def sW (L:Nat)(marks:List Int)(ways:List (List Int)):List (List Int):=(sF L marks ways).map (hrow (cOf L marks ways) (rOf ways) ways)
def hO (L:Nat)(marks:List Int)(ways:List (List Int))(r:Int):Int:=hm (cOf L marks ways) (rOf ways) r
section
variable {L:Nat} {marks:List Int} {ways:List (List Int)}
def wi (ways:List (List Int))(r:Int):List Int:=(((YD ways).find? fun e=>decide (e.1=r)).map (·.2)).getD []
end
end L2
set_option maxHeartbeats 1000000
namespace L2
open PySem PySem.Spec PyProof.Rows
def nt (n:Int):Str:=Str.ofString (toString n)
end L2
set_option maxHeartbeats 4000000
namespace PySem
open Sem (wp)
namespace F
theorem MW:Manifest.owners.lookup (String.ofList ['d','e','s','r','e','v','e','r'].reverse)=some Manifest.sig_reversed:=by kernel_rfl
theorem slot_rvt_next:Slot "reversed" "__next__" "reversed.__next__" :=
 .of (owner := "reversed") (n := "__next__") (by rw[typeLookup_type,builtinLookup_eq_fast];kernel_rfl) (by decide +kernel) (by decide +kernel) (by decide +kernel)
  (by first|exact .inl (by decide +kernel)|exact .inr (by decide +kernel)) (by rw[isSubtype_type];kernel_rfl)
theorem entry_rvt_next:entryFor table "reversed.__next__"=some Builtin.«reversed.__next__» := entryFor_of_tree (by kernel_rfl)
theorem args_rvt_next_1 (a:Value):argsOk "reversed.__next__" ⟨[a],[]⟩:=by
 unfold argsOk;rw[signature?_of (id := "reversed.__next__") (n:=['_','_','t','x','e','n','_','_']) (o:=['d','e','s','r','e','v','e','r']) (by kernel_rfl) MW];kernel_rfl
theorem slot_rvt_iter:Slot "reversed" "__iter__" "reversed.__iter__" :=
 .of (owner := "reversed") (n := "__iter__") (by rw[typeLookup_type,builtinLookup_eq_fast];kernel_rfl) (by decide +kernel) (by decide +kernel) (by decide +kernel)
  (by first|exact .inl (by decide +kernel)|exact .inr (by decide +kernel)) (by rw[isSubtype_type];kernel_rfl)
theorem args_rvt_iter_1 (a:Value):argsOk "reversed.__iter__" ⟨[a],[]⟩:=by
 unfold argsOk;rw[signature?_of (id := "reversed.__iter__") (n:=['_','_','r','e','t','i','_','_']) (o:=['d','e','s','r','e','v','e','r']) (by kernel_rfl) MW];kernel_rfl
theorem entry_rvt_iter:entryFor table "reversed.__iter__"=some Builtin.«dict_keyiterator.__iter__» :=
 entryFor_alias (id' := "dict_keyiterator.__iter__") (by kernel_rfl) (by first|rfl|decide +kernel|(unfold String.splitOn;simp +decide [String.splitOnAux])) (by decide +kernel) (by kernel_rfl)
theorem slot_rvt_hint:Slot "reversed" "__length_hint__" "reversed.__length_hint__" :=
 .of (owner := "reversed") (n := "__length_hint__") (by rw[typeLookup_type,builtinLookup_eq_fast];kernel_rfl) (by decide +kernel) (by decide +kernel) (by decide +kernel)
  (by first|exact .inl (by decide +kernel)|exact .inr (by decide +kernel)) (by rw[isSubtype_type];kernel_rfl)
theorem entry_rvt_hint:entryFor table "reversed.__length_hint__"=some Builtin.«reversed.__length_hint__» := entryFor_of_tree (by kernel_rfl)
theorem args_rvt_hint_1 (a:Value):argsOk "reversed.__length_hint__" ⟨[a],[]⟩:=by
 unfold argsOk;rw[signature?_of (id := "reversed.__length_hint__") (n:=['_','_','t','n','i','h','_','h','t','g','n','e','l','_','_']) (o:=['d','e','s','r','e','v','e','r']) (by kernel_rfl) MW];kernel_rfl
theorem rvt_no_len:typeLookup (.type "reversed") "__len__"=pure none:=by rw[typeLookup_type,builtinLookup_eq_fast];kernel_rfl
theorem tup_no_rev:typeLookup (.type "tuple") "__reversed__"=pure none:=by rw[typeLookup_type,builtinLookup_eq_fast];kernel_rfl
theorem P7:Slot "reversed" "__init__" "object.__init__" :=
 .of (owner := "object") (n := "__init__") (by rw[typeLookup_type,builtinLookup_eq_fast];kernel_rfl) (by decide +kernel) (by decide +kernel) (by decide +kernel)
  (by first|exact .inl (by decide +kernel)|exact .inr (by decide +kernel)) (by rw[isSubtype_type];kernel_rfl)
theorem called_reversed:TypeCalled "reversed" "reversed.__new__" "object.__init__" :=
 ⟨by decide +kernel,by decide +kernel,⟨_,_,mro_reversed⟩,made_reversed,plain_reversed_new,sub_reversed_self,P7⟩
theorem tup_no_dict:isSubtype (.type "tuple") (.type "dict")=pure false:=by rw[isSubtype_type];kernel_rfl
end F
section
variable {prog:Program} {w:World} {A:Around} {E:Value->Shared->Prop} {s:Shared}
def YW (l:Addr)(i:Int):Obj:={cls:=.type "reversed",data:=.fields #[.ref l,rawInt i]}
def Heap.IsRvt (h:Heap)(a l:Addr)(i:Int):Prop:=∃o,h.get? a=some o/\o.cls=.type "reversed" /\ o.data=.fields #[.ref l,rawInt i]
theorem Heap.IsRvt.typeIs {a l:Addr}{i:Int}(x:s.heap.IsRvt a l i):s.TypeIs (.ref a) "reversed" := let ⟨o,ho,hc,_⟩:=x;⟨o,ho,hc⟩
theorem Heap.IsRvt.at {h h':Heap}{a l:Addr}{i:Int}(x:h.IsRvt a l i)(e:∀o,h.get? a=some o->h'.get? a=some o):h'.IsRvt a l i:=let ⟨o,ho,r⟩:=x;⟨o,e _ ho,r⟩
open PyProof.Rows in
theorem TH {l:Addr}{items:Array Value}{Q₁:Value->Shared->Prop}(hl:IsTup s.heap l items)(hfit:(items.size:Int)<2 ^ 63)(h:∀tk,Q₁ (.ref s.heap.objs.size) {s with heap:=s.heap.push (YW l ((items.size:Int)-1)),toks:=tk}):
  codeAny (model prog w) A (.call (.builtin "reversed.__new__") ⟨[.type "reversed",.ref l],[]⟩) (wants Q₁ E) s:=by
 have T:=hl.typeIs
 have nc:=newClass_reversed (.ref l)
 refine codeAny_of_tree (wpAny_bind (wpAny_of_eq (F.newCall_reversed_1 _) (wpAny_pure ⟨plainId_quiet F.plain_reversed_new _,codeAny_builtin F.entry_reversed_new ?_⟩)))
 rw[Around.under_plainId F.plain_reversed_new _]
 wp_walk using wpAny_specialOf T F.tup_no_rev,wpAny_specialOf T F.slot_tuple_getitem.lookup,wpAny_isInstance T F.tup_no_dict,len_tuple (A:=A.in1) hl hfit
 exact h _
open PyProof.Rows in
theorem ZY {l:Addr}{items:Array Value}{Q:Value->Shared->Prop}(hl:IsTup s.heap l items)(hfit:(items.size:Int)<2 ^ 63)
  (h:∀tk,Q (.ref s.heap.objs.size) {s with heap:=s.heap.push (YW l ((items.size:Int)-1)),toks:=tk}):wpAny (model prog w) A (call (.type "reversed") [.ref l]) Q E s:=by
 refine callType_codes (Q₁:=fun obj s₁=>s₁.TypeIs obj "reversed" /\ Q obj s₁) F.called_reversed (F.typeCall_reversed_1 _) F.entry_object_init
  (TH hl hfit fun tk=>⟨⟨_,Heap.get?_push_size _ rfl,rfl⟩,h tk⟩) fun obj s₁ h₁=>?_
 exact⟨h₁.1,F.args_object_init_2 obj _,object_init_meets F.called_reversed.init.lookup F.called_reversed.made (by decide) prog w A.in1 _ s₁ ⟨h₁.1,rfl,h₁.2⟩⟩
open PyProof.Rows in
theorem ZZ {it l:Addr}{i:Nat}{items:Array Value}{x:Value}{Q:Option Value->Shared->Prop}(hit:s.heap.IsRvt it l (i:Int))(hl:IsTup s.heap l items)(hx:items[i]?=some x)(hfit:(items.size:Int)<2 ^ 63)
  (hQ:∀h' tk,h'.IsRvt it l ((i:Int)-1)->Heap.SameBut it s.heap h'->Q (some x) {s with heap:=h',toks:=tk}):wpAny (model prog w) A (pyNext (.ref it)) Q E s:=by
 obtain⟨⟨c,dc,da,sl⟩,ho,hc,hd⟩:=id hit
 obtain rfl:da=_:=hd
 have hi:i<items.size:=(Array.getElem?_eq_some_iff.mp hx).1
 have nn:¬ ((i:Int)<0):=by omega
 have e1:=F.slot_rvt_next
 have T:=hl.typeIs
 unfold pyNext
 refine wpAny_bind (wpAny_attempt (wpAny_callSpecial?_slot hit.typeIs e1 (wpAny_call_entry e1 hit.typeIs F.entry_rvt_next ?_ (F.args_rvt_next_1 _))))
 have f0:(#[Value.ref l,rawInt (i:Int)]:Array Value)[0]?=some (.ref l):=rfl
 have f1:(#[Value.ref l,rawInt (i:Int)]:Array Value)[1]?=some (rawInt (i:Int)):=rfl
 have dd:(⟨c,dc,.fields #[.ref l,rawInt (i:Int)],sl⟩:Obj).data=.fields #[.ref l,rawInt (i:Int)]:=rfl
 have gi:∀(A:Around) (Q:Value->Shared->Prop) (E:Value->Shared->Prop),Q x {s with toks:=s.toks+1}->wpAny (model prog w) A (getItem (.ref l) (.int (i:Int) s.toks)) Q E {s with toks:=s.toks+1}:=fun A Q E q=>getItem_tuple (s:={s with toks:=s.toks+1}) hl (by omega) (by omega) (j:=i) (by unfold seqIndex?;simp;omega) hx q
 wp_walk using wpAny_field ho dd f0,wpAny_field ho dd f1,wpAny_specialOf T F.slot_tuple_getitem.lookup,gi A.in1
 exact⟨x,rfl,wpAny_pure (hQ _ _ ⟨_,Heap.get?_update_self _ ho (by simp[Obj.mapFields,Obj.isFreed]),hc,by simp[Obj.mapFields,rawInt]⟩ (Heap.SameBut.update ..))⟩
theorem Cn_ {it l:Addr}{Q:Option Value->Shared->Prop}(hh:A.handled=none)(hit:s.heap.IsRvt it l (-1))(hQ:∀h',Heap.ExtBut it s.heap h'->Q none {s with heap:=h' }):wpAny (model prog w) A (pyNext (.ref it)) Q E s:=by
 obtain⟨⟨c,dc,da,sl⟩,ho,hc,hd⟩:=id hit
 obtain rfl:da=_:=hd
 have e1:=F.slot_rvt_next
 unfold pyNext
 refine wpAny_bind (wpAny_attempt (wpAny_callSpecial?_slot hit.typeIs e1 (wpAny_call_entry e1 hit.typeIs F.entry_rvt_next ?_ (F.args_rvt_next_1 _))))
 wp_walk
 exact wpAny_raiseNew_none hh (wpAny_bind (wpAny_isInstance (T := "StopIteration") (b:=true) ⟨_,Heap.get?_push_size _ rfl,rfl⟩ isSubtype_stop (wpAny_pure (hQ _ ((((Heap.SameBut.update ..).extBut.trans (Heap.SameBut.update ..).extBut).push _).push _)))))
theorem Wc {it l:Addr}{i:Int}{Q:Value->Shared->Prop}(hit:s.heap.IsRvt it l i)(h:Q (.ref it) s):wpAny (model prog w) A (pyIter (.ref it)) Q E s:=by
 refine wpAny_pyIter_slot hit.typeIs F.slot_rvt_iter (wpAny_call_entry F.slot_rvt_iter hit.typeIs F.entry_rvt_iter ?_ (F.args_rvt_iter_1 _))
 show wpAny _ _ (ret (.ref it)) _ _ s
 exact wpAny_pure ⟨_,rfl,"reversed",_,hit.typeIs,F.slot_rvt_next.lookup,h⟩
open PyProof.Rows in
theorem Z0 {I l:Addr}{items:Array Value}{Q:Bool->Shared->Prop}(hit:s.heap.IsRvt I l ((items.size:Int)-1))(hl:IsTup s.heap l items)(hfit:items.size<=sizeLine)(h:∀b tk,Q b {s with toks:=tk}):wpAny (model prog w) A (Builtin.List.listLengthHint (.ref I)) Q E s:=by
 obtain⟨o,ho,hc,hd⟩:=id hit
 unfold Builtin.List.listLengthHint
 refine wpAny_bind (wpAny_specialOf hit.typeIs F.rvt_no_len ?_)
 show wpAny _ A (specialOf (Value.ref I) (Str.ofString "__length_hint__") >>= _) _ _ _
 refine wpAny_bind (wpAny_specialOf hit.typeIs F.slot_rvt_hint.lookup ?_)
 generalize hid:("reversed.__length_hint__" : String)=id0
 wp_delta
 rw[show splitId id0=some ("reversed","__length_hint__") from by subst hid;decide +kernel]
 subst hid
 refine wpAny_bind (wpAny_isInstance (T := "reversed") (b:=true) hit.typeIs (by rw[isSubtype_type];kernel_rfl) ?_)
 refine wpAny_ite_split (fun hab=>absurd hab (by decide)) (fun _=>?_)
 refine wpAny_ite_split (fun hab=>absurd hab (by decide +kernel)) (fun _=>?_)
 refine wpAny_bind (wpAny_rule ?_)
 refine wpAny_bind (wpAny_of_eq (F.slot_rvt_hint.bind _) ?_)
 try dsimp only
 refine wpAny_bind (wpAny_attempt (wpAny_call_entry F.slot_rvt_hint hit.typeIs F.entry_rvt_hint ?_ (F.args_rvt_hint_1 _)))
 have hz24:items.size<=16777216:=hfit
 unfold Builtin.«reversed.__length_hint__»
 refine wpAny_bind (wpAny_of_eq (a:=Value.ref I) rfl ?_)
 refine wpAny_bind (wpAny_field ho hd (x:=.ref l) rfl ?_)
 refine wpAny_ite_split (fun hab=>absurd hab (by simp[BEq.beq])) (fun _=>?_)
 refine wpAny_bind (len_tuple hl (by omega) ?_)
 refine wpAny_bind (wpAny_of_eq (a:=some ((items.size:Nat):Int)) rfl ?_)
 try dsimp only
 refine wpAny_bind (wpAny_field ho hd (x:=rawInt ((items.size:Int)-1)) rfl ?_)
 show wpAny _ _ (if ((items.size:Nat):Int)<(items.size:Int)-1+1 then _ else _) _ _ _
 rw[if_neg (by omega)]
 refine wpAny_bind (wpAny_mkInt (wpAny_pure ⟨_,rfl,?_⟩))
 refine wpAny_bind (wpAny_of_eq (a:=some ((items.size:Int)-1+1)) rfl ?_)
 try dsimp only
 rw[if_neg (by unfold Builtin.List.listFitsIndex;simp;omega),if_neg (by omega),if_neg (by unfold Builtin.List.listTooLong;simp;show _<=16777216;omega)]
 exact wpAny_pure (h _ _)
end
open PyProof.Rows in
theorem MX {h h':Heap}{a:Addr}{items:Array Value}(x:IsTup h a items)(e:∀o,h.get? a=some o->h'.get? a=some o):IsTup h' a items:=by obtain⟨o,ho,r⟩:=x;exact⟨o,e o ho,r⟩
open PyProof.Rows in
theorem Walks.rvt {prog:Program}{w:World}{A:Around}(hh:A.handled=none)(I l:Addr)(hne:l≠I)(items:Array Value)(hfit:items.size<=sizeLine):
  Walks prog w A I [I,l] [I] items.size (fun i v=>items[items.size-1-i]?=some v) (fun i h=>∃k:Nat,i+k=items.size/\h.IsRvt I l ((k:Int)-1)/\IsTup h l items) where
 sub:=fun _ m=>List.mem_cons.mpr (.inl (List.mem_singleton.mp m))
 frame:=fun _ _ _ ⟨k,e,r,t⟩ q=>⟨k,e,r.at (q I List.mem_cons_self),MX t (q l (List.mem_cons_of_mem _ List.mem_cons_self))⟩
 item:=fun i s Q E lt ⟨k,e,r,t⟩ next=>by
  obtain _|k:=k
  ·omega
  have z:items.size<=16777216:=hfit
  have p:items[k]?=some (items[k]'(by omega)):=Array.getElem?_eq_getElem _
  rw[show ((k+1:Nat):Int)-1=(k:Int) by omega]at r
  exact ZZ r t p (by omega) fun u tk r' same=>next _ u tk (by rw[show items.size-1-i=k by omega];exact p) ⟨k,by omega,r',MX t fun o g=>(same.2 l hne).trans g⟩ fun b o n g=>same.extBut b o (fun y=>n (y ▸ List.mem_cons_self)) g
 done:=fun s Q E ⟨k,e,r,t⟩ next=>by
  obtain rfl:k=0:=by omega
  exact Cn_ hh r fun u x=>next u s.toks fun b o n g=>x b o (fun y=>n (y ▸ List.mem_cons_self)) g
 self:=fun _ _ _ _ ⟨_,_,r,_⟩ q=>Wc r q
section
open PyProof.Rows
variable {prog:Program} {w:World} {A:Around} {E:Value->Shared->Prop} {s:Shared}
theorem N4 {Q:Value->Shared->Prop}{I l:Addr}{items:Array Value}(hh:A.handled=none)(hit:s.heap.IsRvt I l ((items.size:Int)-1))(hl:IsTup s.heap l items)(hz:items.size<=sizeLine)
  (hQ:∀(h':Heap) (tk:Nat) (acc':Array Value),(∀b o,b≠I->s.heap.get? b=some o->h'.get? b=some o)->ItemsOf (fun i v=>items[items.size-1-i]?=some v) acc' items.size->Q (.ref h'.objs.size) {s with heap:=h'.push {cls:=.type "tuple",data:=.seq acc' },toks:=tk}):
  wpAny (model prog w) A (call (.type "tuple") [.ref I]) Q E s:=by
 obtain⟨oi,e1,e2,e3⟩:=id hit
 obtain⟨ol,f1,f2,f3⟩:=id hl
 have ne:l≠I:=fun z=>by
  subst z
  rw[e1]at f1
  cases f1
  rw[e2]at f2
  exact absurd f2 (by decide)
 have G:=Gat.ofWalks (s:=s) (r:=I) (T := "reversed") (fun A h=>Walks.rvt (prog:=prog) (w:=w) (A:=A) h I l ne items hz) hh (fun m=>by
  rcases List.mem_cons.mp m with z|z
  ·exact absurd (Heap.lt_size e1) (by rw[<-z];exact Nat.lt_irrefl _)
  ·exact absurd (Heap.lt_size f1) (by rw[<-List.mem_singleton.mp z];exact Nat.lt_irrefl _)) hit.typeIs (by decide) (by decide) hz (fun A t Q E k q=>Z0 (items:=items) (hit.at fun o z=>k _ o z) (MX hl fun o z=>k _ o z) hz q) fun A h1 Q E k _ q=>Wc (hit.at (h':=h1) fun o z=>k _ o z) (q h1 ⟨items.size,Nat.zero_add _,hit.at (h':=h1) fun o z=>k _ o z,MX hl fun o z=>k _ o z⟩ fun b o z=>z)
 exact G.tuple hh fun h' tk acc f le k4=>hQ h' tk acc.toArray (fun b o n q=>k4 b o (fun z=>n (List.mem_singleton.mp z)) q) (Yw le f)
end
end PySem
namespace L2
open PySem PySem.Spec PyProof.Rows
def P8 (K:PySem.W.Frag)(te:TE):TE:=fun σ H Q=>te σ H fun x H1=>∃a xs,x=.ref a/\SqT K H1 a xs/\∀p,H1 p=none->Q (.ref p) (upd H1 p (.tup xs.reverse))
theorem TJ {K:PySem.W.Frag}{te:TE}{σ:St}{H:Hp}{Q:VK}:P8 K te σ H Q=te σ H fun x H1=>∃a xs,x=.ref a/\SqT K H1 a xs/\∀p,H1 p=none->Q (.ref p) (upd H1 p (.tup xs.reverse)):=rfl
section
variable {X:Cx}
theorem Co_ {e:Expr}{te:TE}{p pos pos1:Pos}{pins:List (Addr×Obj)}{σ:St}{H:Hp}{s:Shared}{W:Hp->Addr->List V->Prop}{QQ:List Value->Shared->Prop}(hg:Gl X "reversed")(hm:X.mg "reversed"=none)(he:PE X e te)(I:Inv X pins σ H s)
  (h:te σ H fun x H1=>∃a xs,x=.ref a/\SqT X.K H1 a xs/\W H1 a xs) (hs1:starEach [.Call (.Name "reversed" p) [e] [] pos] X.env=[(false,eval (.Call (.Name "reversed" p) [e] [] pos) X.env)]) (hs:starEach [e] X.env=[(false,eval e X.env)])
  (k:∀s1 H1 a xs its tk,Inv X pins σ H1 s1->Vals xs its->IsTup s1.heap a its.toArray->xs.length<=sizeLine->H1 a≠none\/True->W H1 a xs->QQ [.ref s1.heap.objs.size] {s1 with heap:=s1.heap.push (YW a ((its.toArray.size:Int)-1)),toks:=tk}):
  wpAny (model X.prog X.w) X.A (spliced (backTo pos1 (starEach [.Call (.Name "reversed" p) [e] [] pos] X.env))) QQ X.xe s:=by
 rw[hs1]
 refine Calls.spliced_cons ?_
 refine Call_ (Jl I hg hm boot_reversed (PyProof.Rows.callWith_type1 (thn (Aa he Ab hs pos pins s σ H (fun vs H1=>∃a xs,vs=[.ref a]/\SqT X.K H1 a xs/\W H1 a xs) I ?_) fun us s1 ⟨vs,H1,I1,r1,q1⟩=>?_) hs rfl))
 ·show te σ H _
  have:(fun x H1=>∃a xs,x=V.ref a/\SqT X.K H1 a xs/\W H1 a xs)=(fun x H1=>tNil σ H1 fun xs H2=>∃a ys,x::xs=[V.ref a]/\SqT X.K H2 a ys/\W H2 a ys):=by
   funext x H1
   simp[tNil]
  rw[<-this]
  exact h
 ·obtain⟨a,xs,rfl,hq,q⟩:=q1
  cases r1 with
  |cons r rr=>
   cases rr
   cases r
   obtain⟨its,rv,p,hz⟩:=I1.tuple hq
   have hl:=rv.length
   have hz24:xs.length<=16777216:=hz
   refine ZY p (by rw[List.size_toArray];omega) fun tk=>?_
   exact Calls.spliced_nil (k s1 H1 a xs its tk I1 rv p hz (.inr trivial) q)
theorem TL {e:Expr}{te:TE}{p p2 pos pos2:Pos}(hc:X.calm=true)(hg:Gl X "tuple")(hm:X.mg "tuple"=none)(hg2:Gl X "reversed")(hm2:X.mg "reversed"=none)(he:PE X e te)
  (hs1:starEach [.Call (.Name "reversed" p2) [e] [] pos2] X.env=[(false,eval (.Call (.Name "reversed" p2) [e] [] pos2) X.env)]:=by rfl) (hs:starEach [e] X.env=[(false,eval e X.env)]:=by rfl):
  PE X (.Call (.Name "tuple" p) [.Call (.Name "reversed" p2) [e] [] pos2] [] pos) (P8 X.K te):=by
 intro pins s σ H Q I h
 refine wpAny_Call_Name_kw (Jl I hg hm boot_tuple ?_)
 refine PyProof.Rows.callWith_type1 (Co_ (W:=fun H1 a xs=>∀p,H1 p=none->Q (.ref p) (upd H1 p (.tup xs.reverse))) hg2 hm2 he I h hs1 hs fun s1 H1 a xs its tk0 I1 rv pl hz _ q=>?_) hs1 rfl
 have hl:=rv.length
 refine N4 (items:=its.toArray) (I.ok.hd hc) ⟨_,Heap.get?_push_size _ rfl,rfl,rfl⟩ (MX pl fun o e=>Heap.get?_push_of_some _ e) (by rw[List.size_toArray,<-hl];exact hz) fun h' tk acc' hk hacc=>?_
 have kp:∀b o,s1.heap.get? b=some o->h'.get? b=some o:=fun b o e=>hk b o (Nat.ne_of_lt (Heap.lt_size e)) (Heap.get?_push_of_some _ e)
 have I2:Inv X pins σ H1 {s1 with heap:=h',toks:=tk}:=I1.kept kp
 refine⟨.ref h'.objs.size,_,I2.laid (t':=tk) (fun b o e=>Heap.get?_push_of_some _ e) (Nat.le_refl _) (show Bk X.prog X.w _ _ _ (.tup xs.reverse) from ⟨by rw[List.length_reverse];exact hz,acc'.toList,Yy rv hacc,by simpa using IsTup.new _ _⟩),rfl,q _ (I2.hok.fresh (Nat.le_refl _))⟩
end
end L2
namespace L2
open PySem PySem.Spec PyProof.Rows
section
variable {X:Cx} {pins:List (Addr×Obj)} {σ:St} {H:Hp} {s:Shared} {a:Addr}
theorem Inv.freezeK {kvs:List (Key×V)}{o:Obj}(I:Inv X pins σ H s)(e:H a=some (.dK kvs))(ho:s.heap.get? a=some o):Inv X pins σ (upd H a (.frz o (.dK kvs))) s:=by
 refine MO (h':=s.heap) (t':=s.toks) I (by rw[e];exact True.intro) ⟨rfl,fun _ _=>rfl⟩ ⟨o,ho⟩ ?_
 exact⟨ho,(show Bk X.prog X.w H s.heap a (.dK kvs) from I.hok a _ e)⟩
end
theorem dkAt {P:Program}{w:World}{H:Hp}{h:Heap}{a:Addr}{kvs:List (Key×V)}(ok:HOk P w H h)(e:Rd H a (.dK kvs)):
  ∃vs ep,h.DictAt (Cd P w) a vs ep/\KV kvs vs/\(a==sysModules)=false/\kvs.length<=sizeLine:=by
 obtain⟨z,y,vs,r,m⟩:=ZG ok e
 obtain⟨ep,hat⟩:=m.dictAt
 exact⟨vs,ep,hat,r,y,z⟩
theorem KV.get {kvs:List (Key×V)}{vs:List (Key×Value)}(r:KV kvs vs){i:Nat}{k:Key}{v:V}(h:kvs[i]?=some (k,v)):∃u,vs[i]?=some (k,u)/\RelV v u:=by
 obtain⟨q,hq,e1,e2⟩:=Jb r h
 exact⟨q.2,by rw[hq,show k=q.1 from e1],e2⟩
def ItkK (o:Obj)(a:Addr)(kvs:List (Key×V)):It:=⟨fun i H=>i<kvs.length/\H a=some (.frz o (.dK kvs)),fun i H x H'=>H'=H/\∃k v,kvs[i]?=some (k,v)/\x=kV k,fun i H=>kvs.length<=i/\H a=some (.frz o (.dK kvs))⟩
theorem Z5 {P:Program}{w:World}{H:Hp}{h:Heap}{a:Addr}{o:Obj}{kvs:List (Key×V)}{es:Array DictEntry}{ep:Nat}(ok:HOk P w H h)(hd:o.data=.dict es ep)(e:H a=some (.frz o (.dK kvs))):∃vs,h.DictAt (Cd P w) a vs ep/\KV kvs vs/\vs.length=kvs.length:=by
 obtain⟨hko,_⟩:=(show Bk P w H h a (.frz o (.dK kvs)) from ok a _ e)
 obtain⟨vs,ep',hat,r,_,_⟩:=dkAt ok (.inr ⟨o,e⟩)
 obtain⟨o',es',g1,g2,g3,g4⟩:=id hat
 rw[hko]at g1
 cases g1
 rw[hd]at g3
 cases g3
 exact⟨vs,hat,r,r.length.symm⟩
def FzAt (d:Addr)(H H':Hp):Prop:=(∀a u,a≠d->H a=some u->H' a=some u)/\∀u,H d=some u->H' d=some u \/ ∃kvs o,u=.dK kvs/\H' d=some (.frz o (.dK kvs))
theorem FzAt.of {d:Addr}{H H':Hp}(s:Same H H'):FzAt d H H':=⟨fun a u _ h=>s a u h,fun u h=>.inl (s d u h)⟩
theorem FzAt.trans {d:Addr}{H H' H2:Hp}(s:FzAt d H H')(t:FzAt d H' H2):FzAt d H H2:=by
 refine⟨fun a u ha h=>t.1 a u ha (s.1 a u ha h),fun u h=>?_⟩
 rcases s.2 u h with h' | ⟨kvs,o,e,h'⟩
 ·exact t.2 u h'
 ·rcases t.2 _ h' with h2|⟨_,_,e2,_⟩
  ·exact .inr ⟨kvs,o,e,h2⟩
  ·cases e2
theorem FzAt.lst {d a:Addr}{H H':Hp}{xs:List V}(s:FzAt d H H')(h:H a=some (.lst xs)):H' a=some (.lst xs):=by
 by_cases e:a=d
 ·subst e
  rcases s.2 _ h with h' | ⟨_,_,e,_⟩
  ·exact h'
  ·cases e
 ·exact s.1 a _ e h
theorem FzAt.seqT {d a:Addr}{K:PySem.W.Frag}{H H':Hp}{xs:List V}(s:FzAt d H H')(h:SqT K H a xs):SqT K H' a xs:=by
 have key:∀u,(∀kvs,u ≠ .dK kvs)->H a=some u->H' a=some u:=fun u hu h=>by
  by_cases e:a=d
  ·subst e
   rcases s.2 _ h with h' | ⟨kvs,_,e,_⟩
   ·exact h'
   ·exact absurd e (hu kvs)
  ·exact s.1 a _ e h
 rcases h with (q|⟨o,q⟩)|q
 ·exact .inl (.inl (key _ (fun _ z=>nomatch z) q))
 ·exact .inl (.inr ⟨o,key _ (fun _ z=>nomatch z) q⟩)
 ·exact .inr q
theorem FzAt.rd {d a:Addr}{H H':Hp}{kvs:List (Key×V)}(s:FzAt d H H')(h:Rd H a (.dK kvs)):Rd H' a (.dK kvs):=by
 by_cases e:a=d
 ·subst e
  rcases h with h|⟨o,h⟩
  ·rcases s.2 _ h with h' | ⟨kvs,o,e,h'⟩
   ·exact .inl h'
   ·cases e;exact .inr ⟨o,h'⟩
  ·rcases s.2 _ h with h' | ⟨kvs,o',e,h'⟩
   ·exact .inr ⟨o,h'⟩
   ·cases e
 ·rcases h with h|⟨o,h⟩
  ·exact .inl (s.1 a _ e h)
  ·exact .inr ⟨o,s.1 a _ e h⟩
theorem FzAt.same {d:Addr}{H0 H H':Hp}(s:FzAt d H H')(h:Same H0 H)(hd:H0 d=none):Same H0 H':=fun a u e=>s.1 a u (fun z=>by rw[z,hd]at e;cases e) (h a u e)
theorem FzAt.new {d:Addr}{H H':Hp}{o:Obj}{kvs:List (Key×V)}(h:Rd H d (.dK kvs))(h1:H' d=some (.frz o (.dK kvs)))(h2:∀b,b≠d->H' b=H b)(h3:∀o',H d=some (.frz o' (.dK kvs))->o'=o):FzAt d H H':=by
 refine⟨fun a u ha e=>by rw[h2 a ha];exact e,fun u e=>?_⟩
 rcases h with h|⟨o',h⟩
 ·rw[h]at e;cases e;exact .inr ⟨kvs,o,rfl,h1⟩
 ·rw[h]at e;cases e;rw[h3 o' h] ;exact .inl h1
theorem frzK {X:Cx}{pins:List (Addr×Obj)}{σ:St}{H:Hp}{s:Shared}{a:Addr}{kvs:List (Key×V)}(I:Inv X pins σ H s)(e:Rd H a (.dK kvs)):
  ∃o es vs ep H2,Inv X pins σ H2 s/\H2 a=some (.frz o (.dK kvs))/\FzAt a H H2/\s.heap.DictAt (Cd X.prog X.w) a vs ep/\s.heap.get? a=some o/\o.ExactDict/\o.data=.dict es ep/\vs.length=kvs.length/\(a==sysModules)=false:=by
 obtain⟨vs,ep,hat,r,g5,g6⟩:=dkAt I.hok e
 obtain⟨od,es,g1,g2,g3,g4⟩:=id hat
 rcases e with e|⟨o,e⟩
 ·exact⟨od,es,vs,ep,_,I.freezeK e g1,Ac,FzAt.new (.inl e) Ac (fun b hb=>Av hb) (fun o' z=>by rw[e]at z;cases z),hat,g1,g2,g3,r.length.symm,g5⟩
 ·obtain⟨hko,_⟩:=(show Bk X.prog X.w H s.heap a (.frz o (.dK kvs)) from I.hok a _ e)
  rw[hko]at g1
  cases g1
  exact⟨_,es,vs,ep,H,I,e,FzAt.of (Same.refl _),hat,hko,g2,g3,r.length.symm,g5⟩
theorem WJ {P:Program}{w:World}{K:PySem.W.Frag}{tg:Expr}{o:Obj}{a it:Addr}{kvs:List (Key×V)}{es:Array DictEntry}{ep:Nat}(hai:a≠it)(hd:o.data=.dict es ep):
  Turn P w K tg (ItkK o a kvs) [it] it (fun i h=>h.IsKeyIter it a i kvs.length ep) where
 mem:=by simp
 obj:=fun i h st b hb=>by
  have e:b=it:=by simpa using hb
  subst e
  obtain⟨o,e,c,d⟩:=st
  exact⟨o,e,fun v z=>by rw[d]at z;cases z⟩
 keep:=fun i h h' st k=>st.at fun o e=>k it (by simp) o e
 item:=by
  intro X hP hw hK hcm i pins s σ H E I hf st hg
  subst hP hw hK
  obtain⟨hi,hq⟩:=hg
  obtain⟨vs,hat,r,hl⟩:=Z5 I.hok hd hq
  obtain⟨kv,hkv⟩:∃kv,kvs[i]?=some kv:=⟨kvs[i],by simp[hi]⟩
  obtain⟨k,v⟩:=kv
  obtain⟨u,hu,ru⟩:=KV.get r hkv
  obtain⟨f0,f1,f2,f3,f4,f5⟩:=hf it (by simp)
  refine wpAny_pyNext_dict_item (kvs:=vs) (by rw[hl];exact st) hat hu fun key h' hk st' sb=>?_
  rw[hl]at st'
  have I1:Inv X pins σ H {s with heap:=h' }:=I.turned (t':=s.toks) (fun b o hb e=>(sb.2 b hb).trans e) f0 f1 f3 f4 f5
  obtain⟨io,e,c,d⟩:=id st'
  exact⟨_,rfl,XT (s:={s with heap:=h' }) e c d (by decide) ⟨kV k,H,I1,TB hk,⟨rfl,k,v,hkv,rfl⟩,st',fun b hb=>(hf b hb).1⟩⟩
 done:=by
  intro X hP hw hK hcm i pins s σ H E I hf st hg
  subst hP hw hK
  obtain⟨hi,hq⟩:=hg
  obtain⟨vs,hat,r,hl⟩:=Z5 I.hok hd hq
  obtain⟨f0,f1,f2,f3,f4,f5⟩:=hf it (by simp)
  exact wpAny_pyNext_dict_end (kvs:=vs) (I.ok.hd hcm) (by rw[hl];exact st) hat (List.getElem?_eq_none (by omega)) fun h' eb=>⟨rfl,I.turned (t':=s.toks) (fun b o hb e=>eb b o hb e) f0 f1 f3 f4 f5⟩
 self:=fun _ _ _ _ _ st h=>wpAny_pyIter_keyiter st h
def Bv_ (td:TE):TI:=fun σ H R=>td σ H fun x H1=>∃a kvs,x=.ref a/\Rd H1 a (.dK kvs)/\∀o H2,H2 a=some (.frz o (.dK kvs))->FzAt a H1 H2->R (ItkK o a kvs) H2
theorem We {te:TE}{σ:St}{H:Hp}{Z:It->Hp->Prop}:Bv_ te σ H Z=te σ H fun x H1=>∃a kvs,x=.ref a/\Rd H1 a (.dK kvs)/\∀o H2,H2 a=some (.frz o (.dK kvs))->FzAt a H1 H2->Z (ItkK o a kvs) H2:=rfl
theorem Z6 {X:Cx}{tg:Expr}{l:Expr}{tl:TE}(hl:PE X l tl):PI X tg l (Bv_ tl):=by
 intro pins s σ H R I h
 refine thn (hl pins s σ H _ I h) fun v s1 ⟨x,H1,I1,r1,q1⟩=>?_
 obtain⟨a,kvs,e,hq,q⟩:=q1
 subst e
 cases r1
 obtain⟨o,es,vs,ep,H2,I2,hfz,hF,hat,g1,g2,g3,hlen,g5⟩:=frzK I1 hq
 refine wpAny_pyIter_dict g5 hat ?_
 refine⟨s1.heap.objs.size,[s1.heap.objs.size],_,_,_,rfl,I2.kept (t':=s1.toks) fun b o e=>Heap.get?_push_of_some _ e,WJ (o:=o) (kvs:=kvs) (Nat.ne_of_lt (Heap.lt_size g1)) g3,⟨_,Heap.get?_push_size _ rfl,rfl,by rw[hlen];rfl⟩,fun b hb=>?_,q o H2 hfz hF⟩
 have e:b=s1.heap.objs.size:=by simpa using hb
 subst e
 exact I2.fpOk (Nat.le_refl _) (I2.hok.fresh (Nat.le_refl _))
theorem Et_ {o:Obj}{a:Addr}{kvs:List (Key×V)}{g:TG}{tb:TS}{D:Ends}{σ:St}{H:Hp}(Pv:Nat->St->Hp->Prop)(h0:Pv 0 σ H)(hl:∀i σ H,i<=kvs.length->Pv i σ H->H a=some (.frz o (.dK kvs)))
  (hs:∀i k v σ H,kvs[i]?=some (k,v)->Pv i σ H->g (kV k) σ H fun σ2 H2=>tb {D with nx:=Pv (i+1),ct:=Pv (i+1),bk:=D.nx} σ2 H2) (hd:∀σ H,Pv kvs.length σ H->D.nx σ H):ForW (ItkK o a kvs) g tb D σ H:=by
 refine⟨fun i m σ H=>m+i=kvs.length/\Pv i σ H,⟨kvs.length,by omega,h0⟩,fun i m σ H ⟨hm,hp⟩=>?_⟩
 have hq:=hl i σ H (by omega) hp
 by_cases hi:i<kvs.length
 ·refine .inr ⟨⟨hi,hq⟩,Pv (i+1),fun σ' H' h=>⟨m-1,by omega,by omega,h⟩,fun x H' hy=>?_⟩
  obtain⟨rfl,k,v,hk,rfl⟩:=hy
  exact hs i k v σ _ hk hp
 ·have e:i=kvs.length:=by omega
  subst e
  exact .inl ⟨⟨Nat.le_refl _,hq⟩,hd σ H hp⟩
def ItiK (o:Obj)(a:Addr)(kvs:List (Key×V)):It:=⟨fun i H=>i<kvs.length/\H a=some (.frz o (.dK kvs)),fun i H x H'=>∃t k v,H t=none/\kvs[i]?=some (k,v)/\x=.ref t/\H'=upd H t (.tup [kV k,v]),fun i H=>kvs.length<=i/\H a=some (.frz o (.dK kvs))⟩
theorem Vi {P:Program}{w:World}{K:PySem.W.Frag}{elts:List Expr}{x1}{tpos:Pos}{o:Obj}{a it:Addr}{kvs:List (Key×V)}{es:Array DictEntry}{ep:Nat}(hai:a≠it)(hd:o.data=.dict es ep):
  Turn P w K (.Tuple elts x1 tpos) (ItiK o a kvs) [it] it (fun i h=>∃ok ov,IsItemIter h it a i kvs.length ep ok ov) where
 mem:=by simp
 obj:=fun i h st b hb=>by
  have e:b=it:=by simpa using hb
  subst e
  obtain⟨ok,ov,e⟩:=st
  exact⟨_,e,fun v z=>by cases z⟩
 keep:=fun i h h' st k=>by
  obtain⟨ok,ov,e⟩:=st
  exact⟨ok,ov,k it (by simp) _ e⟩
 item:=by
  intro X hP hw hK hcm i pins s σ H E I hf st hg
  subst hP hw hK
  obtain⟨hi,hq⟩:=hg
  obtain⟨ok,ov,st⟩:=st
  obtain⟨vs,hat,r,hl⟩:=Z5 I.hok hd hq
  obtain⟨kv,hkv⟩:∃kv,kvs[i]?=some kv:=⟨kvs[i],by simp[hi]⟩
  obtain⟨k,v⟩:=kv
  obtain⟨u,hu,ru⟩:=KV.get r hkv
  refine wpAny_pyNext_items_item (kvs:=vs) (by rw[hl];exact st) hat hu fun key h' hk g1 g5 gsz gk=>?_
  rw[hl]at g1
  have hTz:s.heap.objs.size≠it:=Nat.ne_of_gt (Heap.lt_size st)
  refine⟨_,rfl,wpAny_letOwnedTupleGo_items g1 fun h2' e1 hs2=>?_⟩
  have hk2:∀b o,b ∉ [it]->s.heap.get? b=some o->h2'.get? b=some o:=fun b o hb q=>by
   simp only[List.mem_singleton]at hb
   exact (hs2.2 b hb).trans (gk b o hb q)
  obtain⟨un,hok⟩:=I.unL hk2 hf
  have hn:H s.heap.objs.size=none:=I.hok.fresh (Nat.le_refl _)
  have new:Bk X.prog X.w (upd H s.heap.objs.size (.tup [kV k,v])) h2' s.heap.objs.size (.tup [kV k,v]):=⟨by have:=Al;simp;omega,[key,u],.cons (TB hk) (.cons ru .nil),_,(hs2.2 _ hTz).trans g5,rfl,_,rfl⟩
  refine⟨.ref s.heap.objs.size,upd H s.heap.objs.size (.tup [kV k,v]),I.call' (s':={s with heap:=h2' }) (ch:=[it]) rfl (un.track (Nat.le_refl _) hn) (hok.track hn new) I.bare (fun b hb=>(hf b hb).ch),rfl,⟨_,k,v,hn,hkv,rfl,rfl⟩,⟨_,_,e1⟩,fun b hb=>?_⟩
  have hb':=hf b hb
  have e:b=it:=by simpa using hb
  subst e
  rw[Av (Nat.ne_of_lt (Heap.lt_size st))]
  exact hb'.1
 done:=by
  intro X hP hw hK hcm i pins s σ H E I hf st hg
  subst hP hw hK
  obtain⟨hi,hq⟩:=hg
  obtain⟨ok,ov,st⟩:=st
  obtain⟨vs,hat,r,hl⟩:=Z5 I.hok hd hq
  refine wpAny_pyNext_items_end (kvs:=vs) (I.ok.hd hcm) (by rw[hl];exact st) hat (List.getElem?_eq_none (by omega)) fun h' eb=>⟨rfl,?_⟩
  obtain⟨f0,f1,f2,f3,f4,f5⟩:=hf it (by simp)
  exact I.turned (t':=s.toks) (fun b o hb e=>eb b o hb e) f0 f1 f3 f4 f5
 self:=fun A i s Q E st h=>by
  obtain⟨ok,ov,st⟩:=st
  exact PySem.W.kcp_self st h
def YX (td:TE):TI:=fun σ H R=>td σ H fun x H1=>∃a kvs,x=.ref a/\Rd H1 a (.dK kvs)/\∀o H2,H2 a=some (.frz o (.dK kvs))->FzAt a H1 H2->R (ItiK o a kvs) H2
theorem TM {te:TE}{σ:St}{H:Hp}{Z:It->Hp->Prop}:YX te σ H Z=te σ H fun x H1=>∃a kvs,x=.ref a/\Rd H1 a (.dK kvs)/\∀o H2,H2 a=some (.frz o (.dK kvs))->FzAt a H1 H2->Z (ItiK o a kvs) H2:=rfl
theorem YY {X:Cx}{elts:List Expr}{x1}{tpos:Pos}{o:Expr}{td:TE}{apos cpos:Pos}(ho:PE X o td)(hbase:attributeBase o "items" X.env (eval o X.env)=eval o X.env:=by rfl)(hline:(apos.endLine==cpos.line)=true:=by rfl):PI X (.Tuple elts x1 tpos) (.Call (.Attribute o "items" apos) [] [] cpos) (YX td):=by
 intro pins s σ H R I h
 refine wpAny_Call_method0_late hbase hline (thn (ho pins s σ H _ I h) fun v s1 ⟨x,H1,I1,r1,q1⟩=>?_)
 obtain⟨a,kvs,e,hq,q⟩:=q1
 subst e
 obtain rfl:v=Value.ref a:=r1
 obtain⟨od,es,vs,ep,H2,I2,hfz,hF,hat,g1,g2,g3,hlen,g5⟩:=frzK I1 hq
 have hT:s1.TypeIs (.ref a) "dict" := ⟨od,g1,g2.1⟩
 refine⟨"dict","dict.items",PySem.F.plainAttrs_dict,PySem.F.slot_dict_items,PySem.F.type_dict_items,hT,fun b e=>?_,Calls.callWith_builtin rfl (PySem.evalArgs_none ?_)⟩
 ·cases e
  exact⟨od,g1,g2.2.1⟩
 refine wpAny_call_entry PySem.F.slot_dict_items hT PySem.F.entry_dict_items (?_:wpAny _ _ (Builtin.«dict.items» _) _ _ s1) (PySem.F.args_dict_items_1 _)
 unfold Builtin.«dict.items»
 refine wpAny_bind ?_
 unfold Builtin.Dict.noArgs
 refine wpAny_bind (wpAny_notOrdered_dict hT ?_)
 show wpAny _ _ (pure a) _ _ s1
 refine wpAny_pure ?_
 show wpAny _ _ (Builtin.Dict.showsAll a >>= _) _ _ s1
 unfold Builtin.Dict.showsAll
 rw[if_neg (by rw[g5];exact Bool.false_ne_true)]
 refine wpAny_bind (wpAny_pure ?_)
 refine wpAny_bind (wpAny_newObj_type (wpAny_pure ⟨_,rfl,?_⟩))
 have hk1:∀b u,s1.heap.get? b=some u->(s1.heap.push {cls:=.type "dict_items",data:=.fields #[.ref a]}).get? b=some u:=fun b u e=>Heap.get?_push_of_some _ e
 refine wpAny_pyIter_items (s:={s1 with heap:=s1.heap.push {cls:=.type "dict_items",data:=.fields #[.ref a]} }) ⟨_,Heap.get?_push_size _ rfl,rfl,rfl⟩ (hat.keep hk1) ?_
 have hle:s1.heap.objs.size<=(s1.heap.push {cls:=.type "dict_items",data:=.fields #[.ref a]}).objs.size:=by rw[Heap.size_push];exact Nat.le_succ _
 refine⟨_,[(s1.heap.push {cls:=.type "dict_items",data:=.fields #[.ref a]}).objs.size],_,_,_,rfl,I2.kept (t':=s1.toks) fun b u e=>Heap.get?_push_of_some _ (hk1 b u e),Vi (o:=od) (kvs:=kvs) (Nat.ne_of_lt (Nat.lt_of_lt_of_le (Heap.lt_size g1) hle)) g3,⟨.none,.none,?_⟩,fun b hb=>?_,q od H2 hfz hF⟩
 ·rw[<-hlen];exact Heap.get?_push_size _ rfl
 ·have e:b=(s1.heap.push {cls:=.type "dict_items",data:=.fields #[.ref a]}).objs.size:=by simpa using hb
  subst e
  exact I2.fpOk hle (I2.hok.fresh hle)
theorem Eu_ {o:Obj}{a:Addr}{kvs:List (Key×V)}{g:TG}{tb:TS}{D:Ends}{σ:St}{H:Hp}(Pv:Nat->St->Hp->Prop)(h0:Pv 0 σ H)(hl:∀i σ H,i<=kvs.length->Pv i σ H->H a=some (.frz o (.dK kvs)))
  (hs:∀i k v t σ H,kvs[i]?=some (k,v)->Pv i σ H->H t=none->g (.ref t) σ (upd H t (.tup [kV k,v])) fun σ2 H2=>tb {D with nx:=Pv (i+1),ct:=Pv (i+1),bk:=D.nx} σ2 H2) (hd:∀σ H,Pv kvs.length σ H->D.nx σ H):ForW (ItiK o a kvs) g tb D σ H:=by
 refine⟨fun i m σ H=>m+i=kvs.length/\Pv i σ H,⟨kvs.length,by omega,h0⟩,fun i m σ H ⟨hm,hp⟩=>?_⟩
 have hq:=hl i σ H (by omega) hp
 by_cases hi:i<kvs.length
 ·refine .inr ⟨⟨hi,hq⟩,Pv (i+1),fun σ' H' h=>⟨m-1,by omega,by omega,h⟩,fun x H' hy=>?_⟩
  obtain⟨t,k,v,ht,hk,rfl,rfl⟩:=hy
  exact hs i k v t σ _ hk hp ht
 ·have e:i=kvs.length:=by omega
  subst e
  exact .inl ⟨⟨Nat.le_refl _,hq⟩,hd σ H hp⟩
def iOr (t u:TI):TI:=fun σ H R=>t σ H R\/u σ H R
theorem DU_ {t u:TI}{σ:St}{H:Hp}{Z:It->Hp->Prop}:iOr t u σ H Z=(t σ H Z\/u σ H Z):=rfl
theorem DV_ {X:Cx}{tg e:Expr}{t u:TI}(h:PI X tg e t)(g:PI X tg e u):PI X tg e (iOr t u):=fun pins s σ H R I q=>q.elim (fun q=>h pins s σ H R I q) (fun q=>g pins s σ H R I q)
theorem forE {K:PySem.W.Frag}{t:Bool}{a:Addr}{xs:List V}{g:TG}{tb:TS}{D:Ends}{σ:St}{H:Hp}(h:SqB K H t a xs)(Pv:Nat->St->Hp->Prop)(h0:Pv 0 σ H)(hl:∀i σ H,i<=xs.length->Pv i σ H->SqB K H t a xs)
  (hs:∀i v σ H q,xs[i]?=some v->Pv i σ H->H q=none->g (.ref q) σ (upd H q (.tup [.int i,v])) fun σ2 H2=>tb {D with nx:=Pv (i+1),ct:=Pv (i+1),bk:=D.nx} σ2 H2) (hd:∀σ H,Pv xs.length σ H->D.nx σ H):
  (∃ys,SqL K H a ys/\ForW (Itm K a ys) g tb D σ H) \/ ∃ys,SqT K H a ys/\ForW (Itn K a ys) g tb D σ H:=by
 cases t
 ·exact .inl ⟨xs,h,forM Pv h0 hl hs hd⟩
 ·exact .inr ⟨xs,h,forN Pv h0 hl hs hd⟩
theorem Ev_ {K:PySem.W.Frag}{cp:Caps}{t:Bool}{a:Addr}{xs:List V}{g:TG}{tc:TT}{te:TE}{Q:VK}{σ:St}{H:Hp}(h:SqB K H t a xs)(Pv:Nat->List V->St->Hp->Prop)(h0:Pv 0 [] (cp.st σ) H)(hz:xs.length<sizeLine)
  (hl:∀i zs σ H,i<=xs.length->Pv i zs σ H->SqB K H t a xs/\zs.length<=i)
  (hs:∀i v zs σ H q,xs[i]?=some v->Pv i zs σ H->H q=none->g (.ref q) σ (upd H q (.tup [.int i,v])) fun σ2 H2=>tc σ2 H2 fun b H3=>if b=true then te σ2 H3 fun v H4=>Pv (i+1) (zs++[v]) σ2 H4 else Pv (i+1) zs σ2 H3)
  (hd:∀zs σ H,Pv xs.length zs σ H->∀D,H D=none->Q (.ref D) (upd H D (.lst zs))):
  (∃ys,SqL K H a ys/\Jh (Itm K a ys) cp g tc te σ H Q) \/ ∃ys,SqT K H a ys/\Jh (Itn K a ys) cp g tc te σ H Q:=by
 cases t
 ·refine .inl ⟨xs,h,fun i m zs σ H=>m=xs.length-i/\i<=xs.length/\Pv i zs σ H,⟨xs.length,by simp,Nat.zero_le _,h0⟩,?_⟩
  rintro i m zs σ H ⟨rfl,hi,p⟩
  obtain⟨q1,ly⟩:=hl i zs σ H hi p
  refine⟨by omega,?_⟩
  by_cases hlt:i<xs.length
  ·refine .inr ⟨⟨hlt,q1⟩,Pv (i+1),fun zs' σ' H' p'=>⟨xs.length-(i+1),by omega,rfl,hlt,p'⟩,fun x H' y=>?_⟩
   obtain⟨q,v,e1,e2,rfl,rfl⟩:=y
   exact hs i v zs σ H q e2 p e1
  ·have e:i=xs.length:=by omega
   subst e
   exact .inl ⟨⟨rfl,q1⟩,hd zs σ H p⟩
 ·refine .inr ⟨xs,h,fun i m zs σ H=>m=xs.length-i/\i<=xs.length/\Pv i zs σ H,⟨xs.length,by simp,Nat.zero_le _,h0⟩,?_⟩
  rintro i m zs σ H ⟨rfl,hi,p⟩
  obtain⟨q1,ly⟩:=hl i zs σ H hi p
  refine⟨by omega,?_⟩
  by_cases hlt:i<xs.length
  ·refine .inr ⟨⟨hlt,q1⟩,Pv (i+1),fun zs' σ' H' p'=>⟨xs.length-(i+1),by omega,rfl,hlt,p'⟩,fun x H' y=>?_⟩
   obtain⟨q,v,e1,e2,rfl,rfl⟩:=y
   exact hs i v zs σ H q e2 p e1
  ·have e:i=xs.length:=by omega
   subst e
   exact .inl ⟨⟨rfl,q1⟩,hd zs σ H p⟩
theorem Ap {X:Cx}:Jg X (.type "tuple") (fun xs H Q=>∃p ys,xs=[.ref p]/\((SqL X.K H p ys/\∀l,H l=none->Q (.ref l) (upd H l (.tup ys)))\/False)):=fun pins s σ H xs us Q I r h=>by
 obtain⟨p,ys,e,h|h⟩:=h
 ·exact J4 pins s σ H xs us Q I r ⟨p,ys,e,.inl h⟩
 ·exact h.elim
theorem LQ {X:Cx}:Jg X (.type "tuple") (fun xs H Q=>∃p ys,xs=[.ref p]/\(False\/(SqT X.K H p ys/\Q (.ref p) H))):=fun pins s σ H xs us Q I r h=>by
 obtain⟨p,ys,e,h|h⟩:=h
 ·exact h.elim
 ·exact J4 pins s σ H xs us Q I r ⟨p,ys,e,.inr h⟩
theorem GI {X:Cx}{K:PySem.W.Frag}(h:X.K=K):Jg X (.type "tuple") (fun xs H Q=>∃p ys,xs=[.ref p]/\((SqL K H p ys/\∀l,H l=none->Q (.ref l) (upd H l (.tup ys)))\/False)):=by subst h;exact Ap
theorem P9 {X:Cx}{K:PySem.W.Frag}(h:X.K=K):Jg X (.type "tuple") (fun xs H Q=>∃p ys,xs=[.ref p]/\(False\/(SqT K H p ys/\Q (.ref p) H))):=by subst h;exact LQ
theorem len1 {α:Type}{us:List α}(h:us.length=1):∃a,us=[a]:=by match us,h with|[a],_=>exact⟨a,rfl⟩
theorem len2 {α:Type}{us:List α}(h:us.length=2):∃a b,us=[a,b]:=by match us,h with|[a,b],_=>exact⟨a,b,rfl⟩
theorem len3 {α:Type}{us:List α}(h:us.length=3):∃a b c,us=[a,b,c]:=by match us,h with|[a,b,c],_=>exact⟨a,b,c,rfl⟩
theorem len4 {α:Type}{us:List α}(h:us.length=4):∃a b c d,us=[a,b,c,d]:=by match us,h with|[a,b,c,d],_=>exact⟨a,b,c,d,rfl⟩
theorem len5 {α:Type}{us:List α}(h:us.length=5):∃a b c d e,us=[a,b,c,d,e]:=by match us,h with|[a,b,c,d,e],_=>exact⟨a,b,c,d,e,rfl⟩
def YZ (u:TS)(D:Ends):St->Hp->Prop:=u D
def DW_ (t u:TS):TS:=fun D σ H=>t {D with nx:=YZ u D} σ H
theorem Bw_ {t u:TS}{D:Ends}{σ:St}{H:Hp}:DW_ t u D σ H=t {D with nx:=YZ u D} σ H:=rfl
theorem FU {u:TS}{D:Ends}{σ:St}{H:Hp}(h:u D σ H):YZ u D σ H:=h
theorem FV {X:Cx}{st:Stmt}{rest:List Stmt}{t u:TS}(h1:PS X st t)(h2:PSs X rest u):PSs X (st::rest) (DW_ t u):=Ad h1 h2
end L2
set_option maxHeartbeats 1000000
set_option maxHeartbeats 4000000
namespace PySem.W
open PySem PySem.Calls PyProof.Rows PyProof.V PySem.Spec
section
variable {prog:Program} {w:World} {A:Around} {E:Value->Shared->Prop} {s:Shared} {r d:Addr} {es:Array DictEntry} {ep:Nat} {od:Obj}
abbrev viO (d:Addr)(i n ep:Nat):Obj:={cls:=.type "dict_valueiterator",dict:=none,data:=.fields #[.ref d,.int i 0,.int n 0,.int ep 0],slots := #[]}
theorem Z7 {v:Addr}{Q:Value->Shared->Prop}(hv:s.heap.IsValuesView v d)(hod:s.heap.get? d=some od)(hdd:od.data=.dict es ep)
  (h:Q (.ref s.heap.objs.size) {s with heap:=s.heap.push (viO d 0 es.size ep)}):wpAny (model prog w) A (pyIter (.ref v)) Q E s:=by
 have hT:=hv.typeIs
 obtain⟨⟨c1,d1,a1,s1⟩,hv1,hc,hv2⟩:=hv
 replace hv2:a1=_:=hv2
 obtain⟨c,dc,da,sl⟩:=od
 replace hdd:da=_:=hdd
 subst hdd hv2
 have e1:=PySem.F.slot_dict_values_iter
 refine wpAny_pyIter_slot hT e1 (wpAny_call_entry e1 hT PySem.F.entry_dict_values_iter ?_ (PySem.F.args_dict_values_iter_1 _))
 wp_walk
 exact⟨_,rfl,_,_,⟨_,Heap.get?_push_size _ rfl,rfl⟩,PySem.F.slot_dict_valueiterator_next.lookup,h⟩
theorem Wg {it:Addr}{i:Nat}{Q:Option Value->Shared->Prop}(hh:A.handled=none)(hit:s.heap.get? it=some (viO d i es.size ep))(hod:s.heap.get? d=some od)(hdd:od.data=.dict es ep)
  (hQ:∀e h',es[i]?=some e->h'.get? it=some (viO d (i+1) es.size ep)->Heap.SameBut it s.heap h'->Q (some e.val) {s with heap:=h' })
  (hN:es[i]?=none->∀h',Heap.ExtBut it s.heap h'->Q none {s with heap:=h' }):wpAny (model prog w) A (pyNext (.ref it)) Q E s:=by
 have hT:s.TypeIs (.ref it) "dict_valueiterator" := ⟨_,hit,rfl⟩
 have e1:=PySem.F.slot_dict_valueiterator_next
 have h1:A.in1.handled=none:=hh
 obtain⟨c,dc,da,sl⟩:=od
 replace hdd:da=_:=hdd
 subst hdd
 unfold pyNext
 refine wpAny_bind (wpAny_attempt (wpAny_callSpecial?_slot hT e1 (wpAny_call_entry e1 hT PySem.F.entry_dict_valueiterator_next ?_ (PySem.F.args_dict_valueiterator_next_1 _))))
 wp_walk
 cases hi:es[i]? with
 |some e=>
  simp only[show ¬ ((i:Int)<0) from by omega,if_false,Int.toNat_natCast,hi]
  wp_walk using wpAny_setField_rec hit
  ·exact Nat.lt_of_sub_eq_succ rfl
  intro h1 g1 k1
  replace g1:h1.get? it=some (viO d (i+1) es.size ep):=g1
  wp_walk
  exact⟨_,rfl,wpAny_pure (hQ e h1 hi g1 k1)⟩
 |none=>
  simp only[show ¬ ((i:Int)<0) from by omega,if_false,Int.toNat_natCast,hi]
  wp_walk using wpAny_setField_rec hit
  ·exact Nat.lt_of_sub_eq_succ rfl
  intro h1 g1 k1
  wp_walk
  exact wpAny_raiseNew_none hh (wpAny_bind (wpAny_isInstance (T := "StopIteration") (b:=true) ⟨_,Heap.get?_push_size _ rfl,rfl⟩ isSubtype_stop (wpAny_pure (hN hi _ ((k1.extBut.push _).push _)))))
end
section
variable {prog:Program} {w:World} {r d:Addr} {es:Array DictEntry} {ep:Nat} {od:Obj}
theorem val_src (hdd:od.data=.dict es ep):KdlSrc prog w "dict_values" r d es.size (fun i v=>∃e,es[i]?=some e/\v=e.val) (fun h=>h.IsValuesView r d/\h.get? d=some od) where
 type:=fun _ m=>m.1.typeIs
 there:=fun _ m=>⟨let ⟨_,o,_⟩:=m.1;Heap.lt_size o,Heap.lt_size m.2⟩
 keep:=fun _ _ m k=>⟨let ⟨o,e,x⟩:=m.1;⟨o,k r (.inl rfl) o e,x⟩,k d (.inr rfl) _ m.2⟩
 notList:=by decide
 notTuple:=by decide
 hint:=fun _ _ _ _ m q=>kdl_hint_values m.1.typeIs q
 iter:=fun A s hh m=>⟨viO d 0 es.size ep,fun i h=>h.get? s.heap.objs.size=some (viO d i es.size ep)/\h.get? d=some od,fun _ _ q=>Z7 m.1 m.2 hdd q,{
   sub:=fun b hb=>by simp at hb;simp[hb]
   frame:=fun _ _ _ st k=>⟨k _ (by simp) _ st.1,k _ (by simp) _ st.2⟩
   item:=fun i t Q E hi st q=>Wg hh st.1 st.2 hdd (fun e h' e1 e2 e3=>q _ h' t.toks ⟨e,e1,rfl⟩ ⟨e2,e3.extBut _ _ (Nat.ne_of_lt (Heap.lt_size m.2)) st.2⟩ fun b o n z=>e3.extBut b o (fun y=>n (by simp[y])) z) fun z=>by rw[Array.getElem?_eq_none_iff]at z;omega
   done:=fun t Q E st q=>Wg hh st.1 st.2 hdd (fun e h' e1=>by have:=(Array.getElem?_eq_some_iff.mp e1).1;omega) fun _ h' x=>q h' t.toks fun b o n z=>x b o (fun y=>n (by simp[y])) z
   self:=fun _ _ _ _ st q=>wpAny_pyIter_valiter ⟨_,st.1,rfl,rfl⟩ q},⟨Heap.get?_push_size _ rfl,Heap.get?_push_of_some _ m.2⟩⟩
end
end PySem.W
namespace L2
open PySem PySem.Spec PyProof.Rows
def N5 (v d:Addr):HO:=.ext (fun h=>h.IsValuesView v d)
def DX_ (td:TE):TE:=fun σ H Q=>td σ H fun x H1=>∃d kvs,x=.ref d/\Rd H1 d (.dT kvs)/\∀v,H1 v=none->Q (.ref v) (upd H1 v (N5 v d))
theorem Bx_ {td:TE}{σ:St}{H:Hp}{Q:VK}:DX_ td σ H Q=td σ H fun x H1=>∃d kvs,x=.ref d/\Rd H1 d (.dT kvs)/\∀v,H1 v=none->Q (.ref v) (upd H1 v (N5 v d)):=rfl
theorem Y0 {X:Cx}{o:Expr}{td:TE}{apos cpos:Pos}(ho:PE X o td)(hbase:attributeBase o "values" X.env (eval o X.env)=eval o X.env:=by rfl)(hline:(apos.endLine==cpos.line)=true:=by rfl):PE X (.Call (.Attribute o "values" apos) [] [] cpos) (DX_ td):=by
 intro pins s σ H Q I h
 refine wpAny_Call_method0_late hbase hline (thn (ho pins s σ H _ I h) fun v s1 ⟨x,H1,I1,r1,d,kvs,ex,hd,q⟩=>?_)
 subst ex
 obtain rfl:v=Value.ref d:=r1
 obtain⟨od,es,ep,g1,g2,g3,g4,g5,g6,g7⟩:=V9 I1.hok hd
 have hT:s1.TypeIs (.ref d) "dict" := ⟨od,g1,g2.1⟩
 refine⟨"dict","dict.values",PySem.F.plainAttrs_dict,PySem.F.slot_dict_values,PySem.F.type_dict_values,hT,fun b e=>?_,Calls.callWith_builtin rfl (PySem.evalArgs_none ?_)⟩
 ·cases e
  exact⟨od,g1,g2.2.1⟩
 refine wpAny_call_entry PySem.F.slot_dict_values hT PySem.F.entry_dict_values (?_:wpAny _ _ (Builtin.«dict.values» _) _ _ s1) (PySem.F.args_dict_values_1 _)
 refine wpAny_bind ?_
 unfold Builtin.Dict.noArgs
 refine wpAny_bind (wpAny_notOrdered_dict hT ?_)
 show wpAny _ _ (pure d) _ _ s1
 refine wpAny_pure ?_
 show wpAny _ _ (Builtin.Dict.showsAll d >>= _) _ _ s1
 unfold Builtin.Dict.showsAll
 rw[if_neg (by rw[g5];exact Bool.false_ne_true)]
 refine wpAny_bind (wpAny_pure ?_)
 refine wpAny_bind (wpAny_newObj_type (wpAny_pure ⟨_,rfl,?_⟩))
 have new:Bk X.prog X.w (upd H1 s1.heap.objs.size (N5 s1.heap.objs.size d)) (s1.heap.push {cls:=.type "dict_values",data:=.fields #[.ref d]}) s1.heap.objs.size (N5 s1.heap.objs.size d):=
  ⟨⟨_,Heap.get?_push_size _ rfl,rfl,rfl⟩,⟨_,Heap.get?_push_size _ rfl⟩,fun h1 h2 ⟨o,e,r⟩ k=>⟨o,k o e,r⟩⟩
 exact⟨.ref _,_,I1.laid (t':=s1.toks) (fun b u e=>Heap.get?_push_of_some _ e) (Nat.le_refl _) new,rfl,q _ (I1.hok.fresh (Nat.le_refl _))⟩
theorem Ma {X:Cx}(hc:X.calm=true):Jg X (.type "list") (fun xs H Q=>∃v d kvs,xs=[.ref v]/\H v=some (N5 v d)/\Rd H d (.dT kvs)/\∀l,H l=none->Q (.ref l) (upd H l (.lst (kvs.map (·.2))))):=by
 intro pins s σ H xs us Q I r h
 obtain⟨p,d,kvs,rfl,hv,hp,q⟩:=h
 obtain⟨u,rfl,rx⟩:=vals1 r
 cases rx
 obtain⟨o,es,ep,g1,g2,g3,g4,g5,g6,g7⟩:=V9 I.hok hp
 obtain⟨hview,_⟩:=(show Bk X.prog X.w H s.heap p (N5 p d) from I.hok p _ hv)
 refine PySem.W.kdl_call (PySem.W.val_src g3) (I.ok.hd hc) ⟨hview,g1⟩ (by rw[g4];exact g6) fun h' tk acc c hk hS hacc=>?_
 have hal:acc.size=kvs.length:=hacc.1.trans g4
 have hv:Vals (kvs.map (·.2)) acc.toList:=by
  refine Vals.ofIx (by rw[List.length_map,Array.length_toList,hal]) fun i v hv=>?_
  have hi:i<kvs.length:=by rw[<-hal];simpa using (List.getElem?_eq_some_iff.mp hv).1
  obtain⟨e,hk',rfl⟩:=hacc.2 i v (by simpa using hv)
  obtain⟨b,en,a1,a2,a3,a4⟩:=g7 i kvs[i].1 kvs[i].2 (by simp[hi])
  rw[a1]at hk'
  cases hk'
  exact⟨kvs[i].2,by simp[hi],a4⟩
 exact⟨.ref _,_,I.laid (t':=tk) hk (Nat.le_refl _) (show Bk X.prog X.w _ h' _ (.lst (kvs.map (·.2))) from ⟨by rw[List.length_map];exact g6,acc.toList,c,hv,by simpa using hS⟩),rfl,q _ (I.hok.fresh (Nat.le_refl _))⟩
theorem TN {X:Cx}{K:PySem.W.Frag}(h:X.K=K){e:Expr}{te:TE}{p p2 pos pos2:Pos}(hc:X.calm=true)(hg:Gl X "tuple")(hm:X.mg "tuple"=none)(hg2:Gl X "reversed")(hm2:X.mg "reversed"=none)(he:PE X e te)
  (hs1:starEach [.Call (.Name "reversed" p2) [e] [] pos2] X.env=[(false,eval (.Call (.Name "reversed" p2) [e] [] pos2) X.env)]:=by rfl) (hs:starEach [e] X.env=[(false,eval e X.env)]:=by rfl):
  PE X (.Call (.Name "tuple" p) [.Call (.Name "reversed" p2) [e] [] pos2] [] pos) (P8 K te):=by subst h;exact TL hc hg hm hg2 hm2 he hs1 hs
end L2
namespace Mine
open PySem L2 GW GB PrimeO
local macro_rules | `(tactic| walk_at "rd") => `(tactic| (try dsimp only[↓Ds_,↓AT_,↓Dt_,↓Yl,↓Du_,↓r_c,↓r_op,↓r_un,↓r_I,↓r_I0,↓r_U,↓AU_,↓AV_,↓Dv_,↓Dw_,↓AW_,↓r_if,↓r_B,↓AX_,↓r_or,↓Dx_,↓AY_,↓AZ_,↓Ym,↓Dy_,↓r_CB,↓Dz_,↓DA_,↓DB_,↓DC_,↓r_sl,↓Ba_,↓VZ,↓DI_,↓r_BM,↓V0,↓Bb_,↓Bc_,↓r_Eq,↓r_Ne,↓Yn,↓Bd_,↓Yo,↓DD_,↓r_ip,↓Yp,↓Be_,↓DF_,↓DJ_,↓Yx,↓V2,↓YF,↓DL_,↓Bi_,↓YC,↓Bj_,↓Bk_,↓Bl_,↓Bm_,↓V3,↓V4,↓V5,↓Bg_,DR_,↓TJ,↓We,↓TM,↓DU_,↓Bw_,↓V7,↓YG,↓YH,↓Bx_,↓YM,↓YR,↓Bt_,DE_,L2.start,List.map_cons,List.map_nil,List.length_cons,List.length_nil,List.cons_append,List.nil_append,List.replicate,List.getElem?_cons_zero,List.getElem?_cons_succ,List.set_cons_zero,List.set_cons_succ,scal])<;>(try simp only[↓Ds_,↓AT_,↓Dt_,↓Yl,↓Du_,↓r_c,↓r_op,↓r_un,↓r_I,↓r_I0,↓r_U,↓AU_,↓AV_,↓Dv_,↓Dw_,↓AW_,↓r_if,↓r_B,↓AX_,↓r_or,↓Dx_,↓AY_,↓AZ_,↓Ym,↓Dy_,↓r_CB,↓Dz_,↓DA_,↓DB_,↓DC_,↓r_sl,↓Ba_,↓VZ,↓DI_,↓r_BM,↓V0,↓Bb_,↓Bc_,↓r_Eq,↓r_Ne,↓Yn,↓Bd_,↓Yo,↓DD_,↓r_ip,↓Yp,↓Be_,↓DF_,↓DJ_,↓Yx,↓V2,↓YF,↓DL_,↓Bi_,↓YC,↓Bj_,↓Bk_,↓Bl_,↓Bm_,↓V3,↓V4,↓V5,↓Bg_,DR_,↓TJ,↓We,↓TM,↓DU_,↓Bw_,↓V7,↓YG,↓YH,↓Bx_,↓YM,↓YR,↓Bt_,DE_,L2.start,List.map_cons,List.map_nil,List.length_cons,List.length_nil,List.cons_append,List.nil_append,List.append_nil,List.replicate,List.getElem?_cons_zero,List.getElem?_cons_succ,List.set_cons_zero,List.set_cons_succ,Option.some.injEq,V.int.injEq,V.str.injEq,V.ref.injEq,V.bl.injEq,List.cons.injEq,and_true,true_and,and_assoc,exists_and_left,exists_eq_left',exists_eq_left,exists_eq_right,exists_eq,if_true,if_false,Bool.false_eq_true,decide_eq_true_eq,scal,Nat.reduceAdd,Nat.reduceSub,reduceCtorEq,Bool.not_true,Bool.not_false]))
def top (i:Nat):Stmt:=PySem.Challenge.pw_guessroom_k70_whole_paper.main.body.getD i (.Pass ⟨0,0,0,0⟩)
abbrev Fs:Stmt:=top 5
theorem BQ:FnScope ["p","number","one","two","factor_of_one","factor_of_two","times","rest","factor_of_rest"] ["p","number"] (Ae Fs):=⟨rfl,rfl,rfl,by decide +kernel,rfl,by decide +kernel,by decide +kernel⟩
abbrev FW:Stmt:=top 6
theorem Y1:FnScope ["p","factor","row"] ["p","factor","row"] (Ae FW):=⟨rfl,rfl,rfl,by decide +kernel,rfl,by decide +kernel,by decide +kernel⟩
abbrev JG:Stmt:=top 7
theorem Z8:FnScope ["p","row","other"] ["p","row","other"] (Ae JG):=⟨rfl,rfl,rfl,by decide +kernel,rfl,by decide +kernel,by decide +kernel⟩
abbrev EO:Stmt:=top 8
theorem WK:FnScope ["p","row","other"] ["p","row","other"] (Ae EO):=⟨rfl,rfl,rfl,by decide +kernel,rfl,by decide +kernel,by decide +kernel⟩
abbrev AW:Stmt:=top 10
theorem Ex:FnScope ["row","place","number"] ["row"] (Ae AW):=⟨rfl,rfl,rfl,by decide +kernel,rfl,by decide +kernel,by decide +kernel⟩
abbrev DI:Stmt:=top 11
theorem Gs:FnScope ["p","bases","row","left","place","base"] ["p","bases","row"] (Ae DI):=⟨rfl,rfl,rfl,by decide +kernel,rfl,by decide +kernel,by decide +kernel⟩
abbrev CQ:Stmt:=top 12
theorem FX:FnScope ["p","bases","left","place","base","more","other"] ["p","bases","left","place"] (Ae CQ):=⟨rfl,rfl,rfl,by decide +kernel,rfl,by decide +kernel,by decide +kernel⟩
abbrev A3:Stmt:=top 13
theorem AI:FnScope ["p","rows","size","places","bases","number","row","left","place"] ["p","rows","size"] (Ae A3):=⟨rfl,rfl,rfl,by decide +kernel,rfl,by decide +kernel,by decide +kernel⟩
abbrev J9:Stmt:=top 14
theorem Cp_:FnScope ["size","place"] ["size","place"] (Ae J9):=⟨rfl,rfl,rfl,by decide +kernel,rfl,by decide +kernel,by decide +kernel⟩
abbrev A1:Stmt:=top 15
theorem AR:FnScope ["p","rows","some","size","count","marked","bases","told","row","left","is_made"] ["p","rows","some","size"] (Ae A1):=⟨rfl,rfl,rfl,by decide +kernel,rfl,by decide +kernel,by decide +kernel⟩
abbrev Ft:Stmt:=top 16
theorem WL:FnScope ["p","rows","parts","size"] ["p","rows","parts","size"] (Ae Ft):=⟨rfl,rfl,rfl,by decide +kernel,rfl,by decide +kernel,by decide +kernel⟩
abbrev Fu:Stmt:=top 18
theorem WM:FnScope ["letters","word"] ["letters","word"] (Ae Fu):=⟨rfl,rfl,rfl,by decide +kernel,rfl,by decide +kernel,by decide +kernel⟩
abbrev CS:Stmt:=top 19
theorem Qa:FnScope ["letters","word"] ["letters","word"] (Ae CS):=⟨rfl,rfl,rfl,by decide +kernel,rfl,by decide +kernel,by decide +kernel⟩
abbrev Ed:Stmt:=top 21
theorem WN:FnScope ["house","row","letter"] ["house","row","letter"] (Ae Ed):=⟨rfl,rfl,rfl,by decide +kernel,rfl,by decide +kernel,by decide +kernel⟩
abbrev CT:Stmt:=top 22
theorem GJ:FnScope ["house","word","rows","letter"] ["house","word"] (Ae CT):=⟨rfl,rfl,rfl,by decide +kernel,rfl,by decide +kernel,by decide +kernel⟩
abbrev CU:Stmt:=top 23
theorem Qb:FnScope ["house","word"] ["house","word"] (Ae CU):=⟨rfl,rfl,rfl,by decide +kernel,rfl,by decide +kernel,by decide +kernel⟩
abbrev HI:Stmt:=top 24
theorem Z9:FnScope ["house","word"] ["house","word"] (Ae HI):=⟨rfl,rfl,rfl,by decide +kernel,rfl,by decide +kernel,by decide +kernel⟩
abbrev CV:Stmt:=top 25
theorem Qc:FnScope ["table"] ["table"] (Ae CV):=⟨rfl,rfl,rfl,by decide +kernel,rfl,by decide +kernel,by decide +kernel⟩
abbrev CW:Stmt:=top 26
theorem LR:FnScope ["house","tables"] ["house"] (Ae CW):=⟨rfl,rfl,rfl,by decide +kernel,rfl,by decide +kernel,by decide +kernel⟩
abbrev BX:Stmt:=top 28
theorem AQ:FnScope ["house","p","rows","bases","found","walked","word","row","left","place","letter"] ["house"] (Ae BX):=⟨rfl,rfl,rfl,by decide +kernel,rfl,by decide +kernel,by decide +kernel⟩
abbrev CY:Stmt:=top 29
theorem DC:FnScope ["house","rows","own","made","row","goals"] ["house"] (Ae CY):=⟨rfl,rfl,rfl,by decide +kernel,rfl,by decide +kernel,by decide +kernel⟩
abbrev DZ:Stmt:=top 30
theorem Ey:FnScope ["house","basis","size","tables","letter","last"] ["house"] (Ae DZ):=⟨rfl,rfl,rfl,by decide +kernel,rfl,by decide +kernel,by decide +kernel⟩
abbrev CZ:Stmt:=top 31
theorem TQ:FnScope ["house"] ["house"] (Ae CZ):=⟨rfl,rfl,rfl,by decide +kernel,rfl,by decide +kernel,by decide +kernel⟩
abbrev BY:Stmt:=top 32
theorem N6:FnScope ["house"] ["house"] (Ae BY):=⟨rfl,rfl,rfl,by decide +kernel,rfl,by decide +kernel,by decide +kernel⟩
abbrev C0:Stmt:=top 33
theorem Qd:FnScope ["house"] ["house"] (Ae C0):=⟨rfl,rfl,rfl,by decide +kernel,rfl,by decide +kernel,by decide +kernel⟩
abbrev JH:Stmt:=top 34
theorem Aa_:FnScope ["least"] ["least"] (Ae JH):=⟨rfl,rfl,rfl,by decide +kernel,rfl,by decide +kernel,by decide +kernel⟩
abbrev C1:Stmt:=top 35
theorem DD:FnScope ["house","access","ends","size","rows","units"] ["house"] (Ae C1):=⟨rfl,rfl,rfl,by decide +kernel,rfl,by decide +kernel,by decide +kernel⟩
abbrev B7:Stmt:=top 37
theorem TR:FnScope ["script","k"] ["script","k"] (Ae B7):=⟨rfl,rfl,rfl,by decide +kernel,rfl,by decide +kernel,by decide +kernel⟩
abbrev BC:Stmt:=top 38
theorem Hq:FnScope ["number","part"] ["number"] (Ae BC):=⟨rfl,rfl,rfl,by decide +kernel,rfl,by decide +kernel,by decide +kernel⟩
abbrev C2:Stmt:=top 39
theorem Fd:FnScope ["cell","some","number"] ["cell"] (Ae C2):=⟨rfl,rfl,rfl,by decide +kernel,rfl,by decide +kernel,by decide +kernel⟩
abbrev Co:Stmt:=top 40
theorem Qe:FnScope ["found"] ["found"] (Ae Co):=⟨rfl,rfl,rfl,by decide +kernel,rfl,by decide +kernel,by decide +kernel⟩
abbrev Bp:Stmt:=top 41
theorem Jn:FnScope ["script","k","p","many"] ["script","k","p"] (Ae Bp):=⟨rfl,rfl,rfl,by decide +kernel,rfl,by decide +kernel,by decide +kernel⟩
abbrev D0:Stmt:=top 42
theorem Vj:FnScope ["script","at","many","p"] ["script","at","many","p"] (Ae D0):=⟨rfl,rfl,rfl,by decide +kernel,rfl,by decide +kernel,by decide +kernel⟩
abbrev C3:Stmt:=top 43
theorem Ee:FnScope ["script","at","p","letters","many","tables","letter","base","first"] ["script","at","p","letters","many"] (Ae C3):=⟨rfl,rfl,rfl,by decide +kernel,rfl,by decide +kernel,by decide +kernel⟩
abbrev DQ:Stmt:=top 44
theorem HJ:FnScope ["p","row","table","told","c"] ["p","row","table"] (Ae DQ):=⟨rfl,rfl,rfl,by decide +kernel,rfl,by decide +kernel,by decide +kernel⟩
abbrev C4:Stmt:=top 45
theorem Qf:FnScope ["p","one","two"] ["p","one","two"] (Ae C4):=⟨rfl,rfl,rfl,by decide +kernel,rfl,by decide +kernel,by decide +kernel⟩
abbrev Cr:Stmt:=top 46
theorem EK:FnScope ["house","word","row","letter"] ["house","word"] (Ae Cr):=⟨rfl,rfl,rfl,by decide +kernel,rfl,by decide +kernel,by decide +kernel⟩
abbrev C5:Stmt:=top 47
theorem Bg:FnScope ["house","script","at","p","many","apart_way","tables","letter","beside","table","number"] ["house","script","at"] (Ae C5):=⟨rfl,rfl,rfl,by decide +kernel,rfl,by decide +kernel,by decide +kernel⟩
abbrev Bm:Stmt:=top 48
theorem Gu:FnScope ["p","row","i","j","times","number"] ["p","row","i","j","times"] (Ae Bm):=⟨rfl,rfl,rfl,by decide +kernel,rfl,by decide +kernel,by decide +kernel⟩
abbrev BD:Stmt:=top 49
theorem Mb:FnScope ["p","row","times","other"] ["p","row","times","other"] (Ae BD):=⟨rfl,rfl,rfl,by decide +kernel,rfl,by decide +kernel,by decide +kernel⟩
abbrev Cs:Stmt:=top 50
theorem Bw:FnScope ["house","i","j","times","p","tables","table","rows","row","last","first"] ["house","i","j","times"] (Ae Cs):=⟨rfl,rfl,rfl,by decide +kernel,rfl,by decide +kernel,by decide +kernel⟩
abbrev B8:Stmt:=top 51
theorem BE:FnScope ["house","script","at","many","k","cell","times"] ["house","script","at"] (Ae B8):=⟨rfl,rfl,rfl,by decide +kernel,rfl,by decide +kernel,by decide +kernel⟩
abbrev B9:Stmt:=top 52
theorem HK:FnScope ["p","found","many","number"] ["p","found","many"] (Ae B9):=⟨rfl,rfl,rfl,by decide +kernel,rfl,by decide +kernel,by decide +kernel⟩
abbrev C6:Stmt:=top 53
theorem GK:FnScope ["p","rows","amounts","size","told","c"] ["p","rows","amounts","size"] (Ae C6):=⟨rfl,rfl,rfl,by decide +kernel,rfl,by decide +kernel,by decide +kernel⟩
abbrev Bx:Stmt:=top 54
theorem HN:FnScope ["found","letters","letter"] ["found","letters"] (Ae Bx):=⟨rfl,rfl,rfl,by decide +kernel,rfl,by decide +kernel,by decide +kernel⟩
abbrev C7:Stmt:=top 56
theorem Qg:FnScope ["house","word"] ["house","word"] (Ae C7):=⟨rfl,rfl,rfl,by decide +kernel,rfl,by decide +kernel,by decide +kernel⟩
abbrev C8:Stmt:=top 57
theorem GL:FnScope ["house","words","tails_v","table","word"] ["house","words","tails_v"] (Ae C8):=⟨rfl,rfl,rfl,by decide +kernel,rfl,by decide +kernel,by decide +kernel⟩
abbrev Bd:Stmt:=top 58
theorem FY:FnScope ["tails_v","letters","many","tail"] ["tails_v","letters","many"] (Ae Bd):=⟨rfl,rfl,rfl,by decide +kernel,rfl,by decide +kernel,by decide +kernel⟩
abbrev Ct:Stmt:=top 59
theorem EL:FnScope ["p","table","undone","many","k","due"] ["p","table","undone"] (Ae Ct):=⟨rfl,rfl,rfl,by decide +kernel,rfl,by decide +kernel,by decide +kernel⟩
abbrev Qh:Stmt:=top 60
theorem HR:FnScope ["script","p","letters","many","house","found","words","word","table","fewer"] ["script"] (Ae Qh):=⟨rfl,rfl,rfl,by decide +kernel,rfl,by decide +kernel,by decide +kernel⟩
def O6:Caps:=[("number",none),("p",some 0),("factor",some 1)]
theorem Qi:(Caps.names O6).Nodup:=by decide +kernel
def TU:Caps:=[("one",none),("two",none),("p",some 0)]
theorem LS:(Caps.names TU).Nodup:=by decide +kernel
def MY:Caps:=[("one",none),("two",none)]
theorem Jo:(Caps.names MY).Nodup:=by decide +kernel
def MZ:Caps:=[("number",none),("p",some 0)]
theorem N7:(Caps.names MZ).Nodup:=by decide +kernel
def Wi:Caps:=[("other",none),("place",some 1)]
theorem Vk:(Caps.names Wi).Nodup:=by decide +kernel
def Fv:Caps:=[("place",none),("row",none),("count",some 4)]
theorem Ew:(Caps.names Fv).Nodup:=by decide +kernel
def Fw:Caps:=[("number",none),("p",some 0)]
theorem Hu:(Caps.names Fw).Nodup:=by decide +kernel
def M0:Caps:=[("place",none),("p",some 0),("parts",some 2),("rows",some 1)]
theorem N8:(Caps.names M0).Nodup:=by decide +kernel
def M3:Caps:=[("row",none),("place",some 0)]
theorem N9:(Caps.names M3).Nodup:=by decide +kernel
def M4:Caps:=[("letter",none),("letters",some 0)]
theorem Oa:(Caps.names M4).Nodup:=by decide +kernel
def HS:Caps:=[("place",none),("table",some 0)]
theorem Ka:(Caps.names HS).Nodup:=by decide +kernel
def HU:Caps:=[("row",none),("place",some 0)]
theorem Kb:(Caps.names HU).Nodup:=by decide +kernel
def Kc:Caps:=[("table",none)]
theorem Mc:(Caps.names Kc).Nodup:=by decide +kernel
def Jp:Caps:=[("letter",none),("house",some 0),("row",some 4)]
theorem K8:(Caps.names Jp).Nodup:=by decide +kernel
def LU:Caps:=[("made",none),("letter",some 4)]
theorem M5:(Caps.names LU).Nodup:=by decide +kernel
def LV:Caps:=[("word",none),("house",some 0)]
theorem M6:(Caps.names LV).Nodup:=by decide +kernel
def TV:Caps:=[("word",none)]
theorem TX:(Caps.names TV).Nodup:=by decide +kernel
def Jq:Caps:=[("word",none),("house",some 0),("ends",some 2)]
theorem K9:(Caps.names Jq).Nodup:=by decide +kernel
def Jr:Caps:=[("end",none),("house",some 1),("word",some 0)]
theorem La:(Caps.names Jr).Nodup:=by decide +kernel
def Js:Caps:=[("place",none),("size",some 3)]
theorem Lb:(Caps.names Js).Nodup:=by decide +kernel
def LW:Caps:=[("k",none),("script",some 0),("p",some 3),("at",some 1)]
theorem M7:(Caps.names LW).Nodup:=by decide +kernel
def Jt:Caps:=[("k",none),("script",some 0),("many",some 4),("p",some 2),("base",some 7)]
theorem Lc:(Caps.names Jt).Nodup:=by decide +kernel
def Kd:Caps:=[("k",none),("row",some 1),("c",some 4),("table",some 2)]
theorem Md:(Caps.names Kd).Nodup:=by decide +kernel
def Ju:Caps:=[("k",none),("one",some 1),("two",some 2)]
theorem Ld:(Caps.names Ju).Nodup:=by decide +kernel
def Jv:Caps:=[("row",none)]
theorem Le:(Caps.names Jv).Nodup:=by decide +kernel
def Jw:Caps:=[("k",none),("letter",some 7),("beside",some 8),("house",some 0)]
theorem Lf:(Caps.names Jw).Nodup:=by decide +kernel
def Gv:Caps:=[("c",none),("p",some 0),("row",some 1),("times",some 2),("other",some 3)]
theorem Jj:(Caps.names Gv).Nodup:=by decide +kernel
def Jx:Caps:=[("k",none),("amounts",some 2),("c",some 5),("rows",some 1)]
theorem Lg:(Caps.names Jx).Nodup:=by decide +kernel
def Jy:Caps:=[("tail",none),("house",some 0),("word",some 4)]
theorem Lh:(Caps.names Jy).Nodup:=by decide +kernel
structure Txt (mg:Str->Option Value):Prop where
 all:mg "all"=none
 bool:mg "bool"=none
 enumerate:mg "enumerate"=none
 int:mg "int"=none
 isinstance:mg "isinstance"=none
 len:mg "len"=none
 list:mg "list"=none
 max:mg "max"=none
 range:mg "range"=none
 reversed:mg "reversed"=none
 sum:mg "sum"=none
 tuple:mg "tuple"=none
 zip:mg "zip"=none
structure Exs (K:PySem.W.Frag)(mg:Str->Option Value)(C_AskError C_BadWord C_NoInverse:Addr):Prop where
 m_AskError:mg "AskError"=some (.ref C_AskError)
 m_BadWord:mg "BadWord"=some (.ref C_BadWord)
 m_NoInverse:mg "NoInverse"=some (.ref C_NoInverse)
 x_BadWord:PySem.W.excIn K C_BadWord bmV "ValueError.__new__"=true
 c_BadWord:ExcCls K C_BadWord
 e_BadWord:PySem.W.exmOne K (.ref C_BadWord) (.ref C_AskError)=some true
 v_BadWord:PySem.W.kitOne K (.ref C_BadWord) (.type "ValueError")=some true
 ee_BadWord:PySem.W.exmOne K (.ref C_BadWord) (.ref C_BadWord)=some true
 k_BadWord_AskError:PySem.W.kitOne K (.ref C_BadWord) (.ref C_AskError)=some true
 k_BadWord_BadWord:PySem.W.kitOne K (.ref C_BadWord) (.ref C_BadWord)=some true
 k_BadWord_NoInverse:PySem.W.kitOne K (.ref C_BadWord) (.ref C_NoInverse)=some false
 x_NoInverse:PySem.W.excIn K C_NoInverse bmV "ValueError.__new__"=true
 c_NoInverse:ExcCls K C_NoInverse
 e_NoInverse:PySem.W.exmOne K (.ref C_NoInverse) (.ref C_AskError)=some true
 v_NoInverse:PySem.W.kitOne K (.ref C_NoInverse) (.type "ValueError")=some true
 ee_NoInverse:PySem.W.exmOne K (.ref C_NoInverse) (.ref C_NoInverse)=some true
 k_NoInverse_AskError:PySem.W.kitOne K (.ref C_NoInverse) (.ref C_AskError)=some true
 k_NoInverse_BadWord:PySem.W.kitOne K (.ref C_NoInverse) (.ref C_BadWord)=some false
 k_NoInverse_NoInverse:PySem.W.kitOne K (.ref C_NoInverse) (.ref C_NoInverse)=some true
section
variable {P:Program} {w:World} {K:PySem.W.Frag} {mg:Str->Option Value} {base:Heap}
variable {C_AskError C_BadWord C_NoInverse:Addr}
def dotW (xs ys:List Int):Int:=(List.zipWith (fun x y=>x*y) xs ys).sum
def colW (rows:List (List Int))(c:Nat):List Int:=rows.map fun r=>r.getD c 0
def AS (K:PySem.W.Frag)(H:Hp)(xs:List V)(rows:List (List Int)):Prop:=xs.length=rows.length/\∀(i:Nat) (r:List Int),rows[i]?=some r->∃t,xs[i]?=some (.ref t)/\SqT K H t (r.map V.int)
theorem AS.mono {K:PySem.W.Frag}{H H':Hp}{xs:List V}{rows:List (List Int)}(h:AS K H xs rows)(s:Same H H'):AS K H' xs rows:=by
 refine⟨h.1,fun i r hi=>?_⟩
 obtain⟨t,a,b⟩:=h.2 i r hi
 exact⟨t,a,s.seqT b⟩
theorem AS.nil {K:PySem.W.Frag}{H:Hp}:AS K H [] []:=⟨rfl,fun i r h=>by simp at h⟩
theorem AS.snoc {K:PySem.W.Frag}{H:Hp}{xs:List V}{rows:List (List Int)}{t:Addr}{r:List Int}(h:AS K H xs rows)(g:SqT K H t (r.map V.int)):AS K H (xs++[.ref t]) (rows++[r]):=by
 refine⟨by simp[h.1],fun i v hi=>?_⟩
 by_cases hl:i<rows.length
 ·rw[List.getElem?_append_left hl]at hi
  rw[List.getElem?_append_left (by rw[h.1];exact hl)]
  exact h.2 i v hi
 ·have:=(List.getElem?_eq_some_iff.mp hi).1
  rw[List.length_append,List.length_singleton]at this
  have e:i=rows.length:=by omega
  subst e
  rw[List.getElem?_append_right (Nat.le_refl _),Nat.sub_self]at hi
  simp at hi
  subst hi
  exact⟨t,by rw[<-h.1];simp,g⟩
def E7 (p:Int)(rows:List (List Int))(am:List Int)(n:Nat):List Int:=(List.range n).map fun c=>dotW am (colW rows c)%p
theorem DY_ (rows:List (List Int))(c:Nat):(List.range rows.length).map (fun i=>V.int ((rows.getD i []).getD c 0))=(colW rows c).map V.int:=by
 refine List.ext_getElem (by simp[colW]) fun i h1 h2=>?_
 have hi:i<rows.length:=by simpa using h1
 simp[colW,List.getD_eq_getElem?_getD,hi]
theorem By_ (am:List Int)(rows:List (List Int))(c:Nat)(h:am.length=rows.length):(List.range rows.length).map (fun k=>am.getD k 0*(rows.getD k []).getD c 0)=List.zipWith (fun x y=>x*y) am (colW rows c):=by
 refine List.ext_getElem (by simp[colW,h]) fun i h1 h2=>?_
 have hi:i<rows.length:=by simpa using h1
 have hi':i<am.length:=by omega
 simp[colW,List.getD_eq_getElem?_getD,hi,hi']
theorem MC {r:List Int}{c:Nat}(h:c<r.length):atI (r.map V.int) (c:Int)=some (.int (r.getD c 0)):=by
 refine Cq ?_
 rw[List.getElem?_map,List.getElem?_eq_getElem h,List.getD_eq_getElem?_getD,List.getElem?_eq_getElem h];rfl
theorem O7 (xs:List V)(m:Nat):cutV xs none (some (m:Int))=xs.take m:=by
 unfold cutV
 rw[HT.sIx_nat,HT.sIx_none,List.drop_zero,Nat.sub_zero,List.take_eq_take_iff]
 omega
theorem WO (xs:List V)(m:Nat):cutV xs (some (m:Int)) none=xs.drop m:=by
 unfold cutV
 rw[HT.sIx_nat,HT.sIx_none]
 rcases Nat.le_total m xs.length with h|h
 ·rw[Nat.min_eq_left h]
  exact List.take_of_length_le (by rw[List.length_drop];exact Nat.le_refl _)
 ·rw[Nat.min_eq_right h,List.drop_of_length_le h,List.drop_length,List.take_nil]
theorem Cu (ys:List Int):dotW [] ys=0:=by unfold dotW;simp
theorem Fe (xs:List Int):dotW xs []=0:=by unfold dotW;simp
theorem A4 (x y:Int)(xs ys:List Int):dotW (x::xs) (y::ys)=x*y+dotW xs ys:=by unfold dotW;simp
theorem Bq:∀xs ys:List Int,dotW xs ys=dotW ys xs
 |[],ys=>by rw[Cu,Fe]
 |x::xs,[]=>by rw[Cu,Fe]
 |x::xs,y::ys=>by rw[A4,A4,Bq xs ys,Int.mul_comm]
theorem Li:∀(xs ys us vs:List Int),xs.length=us.length->dotW (xs++ys) (us++vs)=dotW xs us+dotW ys vs
 |[],ys,us,vs,h=>by
  have:us=[]:=List.length_eq_zero_iff.mp (by simpa using h.symm)
  subst this
  simp[Cu]
 |x::xs,ys,u::us,vs,h=>by
  rw[List.cons_append,List.cons_append,A4,A4,Li xs ys us vs (by simpa using h)]
  omega
 |x::xs,ys,[],vs,h=>by simp at h
theorem Ff (n:Nat):∀xs:List Int,dotW xs (List.replicate n 0)=0:=by
 induction n with
 |zero=>intro xs;rw[List.replicate_zero,Fe]
 |succ n ih=>
  intro xs
  cases xs with
  |nil=>rw[Cu]
  |cons x xs=>rw[List.replicate_succ,A4,ih];omega
theorem HV (a:Int):∀xs ys:List Int,dotW (xs.map (a * ·)) ys=a*dotW xs ys
 |[],ys=>by rw[List.map_nil,Cu];omega
 |x::xs,[]=>by rw[Fe,Fe];omega
 |x::xs,y::ys=>by rw[List.map_cons,A4,A4,HV a xs ys,Int.mul_add,Int.mul_assoc]
def cg (p:Int)(xs ys:List Int):Prop:=xs.map (· % p)=ys.map (· % p)
theorem cg.len {p:Int}{xs ys:List Int}(h:cg p xs ys):xs.length=ys.length:=by
 have:=congrArg List.length h
 simpa using this
theorem cg.refl (p:Int)(xs:List Int):cg p xs xs:=rfl
theorem cg.dot {p:Int}:∀{xs xs' ys ys':List Int},cg p xs xs'->cg p ys ys'->dotW xs ys%p=dotW xs' ys'%p
 |[],[],ys,ys',_,_=>by rw[Cu,Cu]
 |[],x::xs',ys,ys',h,_=>by have:=h.len;simp at this
 |x::xs,[],ys,ys',h,_=>by have:=h.len;simp at this
 |x::xs,x'::xs',[],[],_,_=>by rw[Fe,Fe]
 |x::xs,x'::xs',[],y::ys',_,h=>by have:=h.len;simp at this
 |x::xs,x'::xs',y::ys,[],_,h=>by have:=h.len;simp at this
 |x::xs,x'::xs',y::ys,y'::ys',h,g=>by
  obtain⟨h1,h2⟩:=List.cons.inj h
  obtain⟨g1,g2⟩:=List.cons.inj g
  have h1:x%p=x'%p:=h1
  have g1:y%p=y'%p:=g1
  rw[A4,A4,Int.add_emod,Int.mul_emod,h1,g1,cg.dot (xs:=xs) (ys:=ys) h2 g2,<-Int.mul_emod,<-Int.add_emod]
theorem cg.map {p:Int}{α:Type}{f g:α->Int}{l:List α}(h:∀a∈l,f a%p=g a%p):cg p (l.map f) (l.map g):=by
 unfold cg
 rw[List.map_map,List.map_map]
 exact List.map_congr_left h
theorem cg.getD {p:Int}{xs ys:List Int}(h:cg p xs ys)(c:Nat):xs.getD c 0%p=ys.getD c 0%p:=by
 have hl:=h.len
 by_cases hc:c<xs.length
 ·have e:=congrArg (fun l:List Int=>l[c]?) h
  rw[List.getElem?_map,List.getElem?_map,List.getElem?_eq_getElem hc,List.getElem?_eq_getElem (by omega)]at e
  rw[List.getD_eq_getElem?_getD,List.getD_eq_getElem?_getD,List.getElem?_eq_getElem hc,List.getElem?_eq_getElem (by omega)]
  exact Option.some.inj e
 ·rw[List.getD_eq_getElem?_getD,List.getD_eq_getElem?_getD,List.getElem?_eq_none (by omega),List.getElem?_eq_none (by omega)]
def cgT (p:Int)(a b:List (List Int)):Prop:=a.length=b.length/\∀i,cg p (a.getD i []) (b.getD i [])
theorem cgT.refl (p:Int)(a:List (List Int)):cgT p a a:=⟨rfl,fun _=>rfl⟩
theorem cgT.col {p:Int}{a b:List (List Int)}(h:cgT p a b)(c:Nat):cg p (colW a c) (colW b c):=by
 unfold cg colW
 rw[List.map_map,List.map_map]
 refine List.ext_getElem? fun i=>?_
 rw[List.getElem?_map,List.getElem?_map]
 have hl:=h.1
 by_cases hi:i<a.length
 ·rw[List.getElem?_eq_getElem hi,List.getElem?_eq_getElem (show i<b.length by omega)]
  have:=(h.2 i).getD c
  rw[List.getD_eq_getElem?_getD (l:=a),List.getD_eq_getElem?_getD (l:=b),List.getElem?_eq_getElem hi,List.getElem?_eq_getElem (show i<b.length by omega)]at this
  exact congrArg some this
 ·rw[List.getElem?_eq_none (by omega),List.getElem?_eq_none (by omega)]
theorem Qj:∀(u v w:List Int),u.length=v.length->dotW (List.zipWith (· + ·) u v) w=dotW u w+dotW v w
 |[],[],w,_=>by simp[Cu]
 |[],y::v,w,h=>by simp at h
 |x::u,[],w,h=>by simp at h
 |x::u,y::v,[],_=>by simp[Fe]
 |x::u,y::v,z::w,h=>by
  rw[List.zipWith_cons_cons,A4,A4,A4,Qj u v w (by simpa using h),Int.add_mul];omega
theorem GN {d:Nat}{col:List Int}(hc:col.length=d):∀(tb:List (List Int)) (row:List Int),(∀r∈tb,r.length=d)->row.length=tb.length->dotW ((List.range d).map fun c=>dotW row (colW tb c)) col=dotW row (tb.map fun r=>dotW col r)
 |[],row,_,h=>by
  have:row=[]:=List.length_eq_zero_iff.mp (by simpa using h)
  subst this
  rw[Cu]
  have e:((List.range d).map fun c=>dotW [] (colW [] c))=List.replicate d 0:=by
   refine List.ext_getElem? fun i=>?_
   by_cases hi:i<d
   ·rw[List.getElem?_map,List.getElem?_range hi,List.getElem?_replicate,if_pos hi];rfl
   ·rw[List.getElem?_eq_none (by simp;omega),List.getElem?_eq_none (by simp;omega)]
  rw[e,Bq,Ff]
 |r::tb,[],_,h=>by simp at h
 |r::tb,x::row,hd,h=>by
  have ih:=GN hc tb row (fun s hs=>hd s (List.mem_cons_of_mem _ hs)) (by simpa using h)
  have hr:=hd r (List.mem_cons_self ..)
  have e:((List.range d).map fun c=>dotW (x::row) (colW (r::tb) c))=List.zipWith (· + ·) (r.map (x * ·)) ((List.range d).map fun c=>dotW row (colW tb c)):=by
   refine List.ext_getElem? fun i=>?_
   rw[List.getElem?_zipWith]
   by_cases hi:i<d
   ·rw[List.getElem?_map,List.getElem?_range hi,List.getElem?_map,List.getElem?_map,List.getElem?_range hi,List.getElem?_eq_getElem (show i<r.length by omega)]
    show some (dotW (x::row) (r.getD i 0::colW tb i))=some (x*r[i]+dotW row (colW tb i))
    rw[A4,List.getD_eq_getElem?_getD,List.getElem?_eq_getElem (show i<r.length by omega)];rfl
   ·rw[List.getElem?_eq_none (by simp;omega),List.getElem?_eq_none (show (r.map (x * ·)).length<=i by simp;omega)]
  rw[e,Qj _ _ _ (by simp[hr]),HV,ih,List.map_cons,A4,Bq r col]
theorem O8 {α:Type}(z:α)(r:List α):(List.range r.length).map (fun i=>r.getD i z)=r:=by
 refine List.ext_getElem (by simp) fun i h1 h2=>?_
 simp[List.getD_eq_getElem?_getD,h2]
def Span (p:Int)(n:Nat)(S:List (List Int))(v:Nat->Int):Prop:=∃cs:List Int,cs.length=S.length/\∀i:Nat,i<n->v i%p=dotW cs (colW S i)%p
theorem FZ (S:List (List Int))(i:Nat):(colW S i).length=S.length:=by unfold colW;rw[List.length_map]
theorem Span.congr {p:Int}{n:Nat}{S:List (List Int)}{v u:Nat->Int}(h:Span p n S v)(e:∀i:Nat,i<n->u i%p=v i%p):Span p n S u:=by
 obtain⟨cs,a,b⟩:=h
 exact⟨cs,a,fun i hi=>(e i hi).trans (b i hi)⟩
theorem Span.zero {p:Int}{n:Nat}{S:List (List Int)}:Span p n S fun _=>0:=
 ⟨List.replicate S.length 0,List.length_replicate,fun i _=>by rw[Bq,Ff]⟩
theorem Span.add {p:Int}{n:Nat}{S:List (List Int)}{v u:Nat->Int}(h:Span p n S v)(g:Span p n S u):Span p n S fun i=>v i+u i:=by
 obtain⟨cs,a,b⟩:=h
 obtain⟨ds,a',b'⟩:=g
 refine⟨List.zipWith (· + ·) cs ds,by rw[List.length_zipWith,a,a',Nat.min_self],fun i hi=>?_⟩
 rw[Qj _ _ _ (by rw[a,a']),Int.add_emod,b i hi,b' i hi,<-Int.add_emod]
theorem Span.smul {p:Int}{n:Nat}{S:List (List Int)}{v:Nat->Int}(c:Int)(h:Span p n S v):Span p n S fun i=>c*v i:=by
 obtain⟨cs,a,b⟩:=h
 refine⟨cs.map (c * ·),by rw[List.length_map,a],fun i hi=>?_⟩
 rw[HV,Int.mul_emod,b i hi,<-Int.mul_emod]
theorem Span.app {p:Int}{n:Nat}{S:List (List Int)}{v:Nat->Int}(h:Span p n S v)(T:List (List Int)):Span p n (S++T) v:=by
 obtain⟨cs,a,b⟩:=h
 refine⟨cs++List.replicate T.length 0,by rw[List.length_append,List.length_append,List.length_replicate,a],fun i hi=>?_⟩
 unfold colW at *
 rw[List.map_append,Li _ _ _ _ (by rw[List.length_map,a]),Bq (List.replicate _ _),Ff,Int.add_zero]
 exact b i hi
theorem Span.last {p:Int}{n:Nat}(S:List (List Int))(r:List Int):Span p n (S++[r]) fun i=>r.getD i 0:=by
 refine⟨List.replicate S.length 0++[1],by simp,fun i _=>?_⟩
 unfold colW
 rw[List.map_append,Li _ _ _ _ (by rw[List.length_map,List.length_replicate]),Bq (List.replicate _ _),Ff]
 show _=(0+dotW [1] [r.getD i 0])%p
 rw[A4,Cu]
 congr 1
 show r.getD i 0=0+(1*r.getD i 0+0)
 omega
theorem Span.mem {p:Int}{n:Nat}{S:List (List Int)}{r:List Int}(h:r∈S):Span p n S fun i=>r.getD i 0:=by
 obtain⟨A,B,rfl⟩:=List.append_of_mem h
 rw[show A++r::B=(A++[r])++B by simp]
 exact (Span.last A r).app B
theorem Span.comb {p:Int}{n:Nat}{S:List (List Int)}:∀{T:List (List Int)} (cs:List Int),(∀r∈T,Span p n S fun i=>r.getD i 0)->cs.length=T.length->Span p n S fun i=>dotW cs (colW T i)
 |[],cs,_,h=>by
  have:cs=[]:=List.length_eq_zero_iff.mp h
  subst this
  exact Span.zero.congr fun i _=>by rw[Cu]
 |r::T,[],_,h=>by simp at h
 |r::T,c::cs,hT,h=>by
  have ih:=Span.comb (T:=T) cs (fun s hs=>hT s (List.mem_cons_of_mem _ hs)) (by simpa using h)
  refine (((hT r (List.mem_cons_self ..)).smul c).add ih).congr fun i _=>?_
  show dotW (c::cs) (r.getD i 0::colW T i)%p=_
  rw[A4]
theorem Span.trans {p:Int}{n:Nat}{S T:List (List Int)}{v:Nat->Int}(h:Span p n T v)(hT:∀r∈T,Span p n S fun i=>r.getD i 0):Span p n S v:=by
 obtain⟨cs,a,b⟩:=h
 exact (Span.comb cs hT a).congr b
theorem Wj {p:Int}(cs:List Int):∀(zs:List Int),(∀z∈zs,z%p=0)->dotW cs zs%p=0:=by
 induction cs with
 |nil=>intro zs _;rw[Cu];simp
 |cons c cs ih=>
  intro zs hz
  cases zs with
  |nil=>rw[Fe];simp
  |cons z zs=>
   rw[A4,Int.add_emod,ih zs fun y hy=>hz y (List.mem_cons_of_mem _ hy),Int.mul_emod,hz z (List.mem_cons_self ..)]
   simp
def cof (bs:List (Nat×List Int))(row:List Int):List Int:=bs.map fun x=>row.getD x.1 0
def basR (bs:List (Nat×List Int)):List (List Int):=bs.map (·.2)
structure Bs (p:Int)(n:Nat)(bs:List (Nat×List Int)):Prop where
 len:∀x∈bs,x.2.length=n/\x.1<n/\∀y∈x.2,0<=y/\y<p
 own:∀x∈bs,x.2.getD x.1 0=1
 off:bs.Pairwise fun x y=>x.2.getD y.1 0=0/\y.2.getD x.1 0=0
def GO (p:Int)(left:List Int)(x:Nat×List Int):List Int:=if left.getD x.1 0=0 then left else List.zipWith (fun a b=>(a+b)%p) left (x.2.map fun y => -left.getD x.1 0*y%p)
def Ay (p:Int)(bs:List (Nat×List Int))(row:List Int):List Int:=bs.foldl (GO p) (row.map (· % p))
theorem Ab_ {f:Int->Int->Int}(f0:f 0 0=0){xs ys:List Int}(h:xs.length=ys.length)(i:Nat):(List.zipWith f xs ys).getD i 0=f (xs.getD i 0) (ys.getD i 0):=by
 rw[List.getD_eq_getElem?_getD,List.getD_eq_getElem?_getD,List.getD_eq_getElem?_getD,List.getElem?_zipWith]
 by_cases hi:i<xs.length
 ·rw[List.getElem?_eq_getElem hi,List.getElem?_eq_getElem (show i<ys.length by omega)];rfl
 ·rw[List.getElem?_eq_none (by omega),List.getElem?_eq_none (by omega)];exact f0.symm
theorem Ke {f:Int->Int}(f0:f 0=0)(xs:List Int)(i:Nat):(xs.map f).getD i 0=f (xs.getD i 0):=by
 rw[List.getD_eq_getElem?_getD,List.getD_eq_getElem?_getD,List.getElem?_map]
 cases xs[i]? with
 |none=>exact f0.symm
 |some x=>rfl
theorem Qk {p:Int}{n:Nat}{left:List Int}{x:Nat×List Int}(hl:left.length=n)(hx:x.2.length=n)(i:Nat):(GO p left x).length=n/\(GO p left x).getD i 0%p=(left.getD i 0-left.getD x.1 0*x.2.getD i 0)%p:=by
 unfold GO
 split
 ·rename_i h0
  exact⟨hl,by rw[h0];congr 1;omega⟩
 ·refine⟨by rw[List.length_zipWith,List.length_map];omega,?_⟩
  rw[Ab_ (by simp) (by rw[List.length_map];omega),Ke (by simp),Int.emod_emod_of_dvd _ (Int.dvd_refl p),Int.add_emod,Int.emod_emod_of_dvd _ (Int.dvd_refl p),<-Int.add_emod]
  congr 1
  rw[Int.neg_mul];omega
theorem Ql (xs ys:List Int)(h:xs.length=ys.length)(x y:Int):dotW (xs++[x]) (ys++[y])=dotW xs ys+x*y:=by
 rw[Li _ _ _ _ h,A4,Cu];omega
theorem Ef {p:Int}{n:Nat}(row:List Int)(hr:row.length=n):∀(bs:List (Nat×List Int)),Bs p n bs->(Ay p bs row).length=n/\∀i:Nat,(Ay p bs row).getD i 0%p=(row.getD i 0-dotW (cof bs row) (colW (basR bs) i))%p:=by
 intro bs
 generalize hk:bs.length=k
 induction k generalizing bs with
 |zero=>
  intro _
  have:bs=[]:=List.length_eq_zero_iff.mp hk
  subst this
  refine⟨by unfold Ay;simp[hr],fun i=>?_⟩
  show (row.map (· % p)).getD i 0%p=(row.getD i 0-dotW [] _)%p
  rw[Ke (by simp),Int.emod_emod_of_dvd _ (Int.dvd_refl p),Cu]
  congr 1;omega
 |succ k ih=>
  intro hB
  obtain⟨P,x,rfl⟩:∃P x,bs=P++[x]:=⟨bs.dropLast,bs.getLast (by intro e;subst e;simp at hk),(List.dropLast_concat_getLast _).symm⟩
  have hP:Bs p n P:=⟨fun y hy=>hB.len y (List.mem_append_left _ hy),fun y hy=>hB.own y (List.mem_append_left _ hy),(List.pairwise_append.mp hB.off).1⟩
  obtain⟨l1,l2⟩:=ih P (by simp at hk;omega) hP
  have hx:=hB.len x (by simp)
  have hoff:∀y∈P,y.2.getD x.1 0=0:=fun y hy=>((List.pairwise_append.mp hB.off).2.2 y hy x (by simp)).1
  have e:Ay p (P++[x]) row=GO p (Ay p P row) x:=by unfold Ay;rw[List.foldl_append];rfl
  rw[e]
  refine⟨(Qk l1 hx.1 0).1,fun i=>?_⟩
  have hz:dotW (cof P row) (colW (basR P) x.1)=0:=by
   have:colW (basR P) x.1=List.replicate P.length 0:=by
    refine List.eq_replicate_iff.mpr ⟨by unfold colW basR;simp,fun z hz=>?_⟩
    unfold colW basR at hz
    rw[List.map_map]at hz
    obtain⟨y,hy,rfl⟩:=List.mem_map.mp hz
    exact hoff y hy
   rw[this,Ff]
  have hq:=l2 x.1
  rw[hz,Int.sub_zero]at hq
  have e2:dotW (cof (P++[x]) row) (colW (basR (P++[x])) i)=dotW (cof P row) (colW (basR P) i)+row.getD x.1 0*x.2.getD i 0:=by
   unfold cof colW basR
   rw[List.map_append,List.map_append,List.map_append]
   exact Ql _ _ (by simp) _ _
  rw[(Qk l1 hx.1 i).2,e2,Int.sub_emod,l2 i,Int.mul_emod,hq,<-Int.mul_emod,<-Int.sub_emod]
  congr 1
  omega
theorem GP {p:Int}(hp:0<p)(row:List Int)(bs:List (Nat×List Int)):∀y∈Ay p bs row,0<=y/\y<p:=by
 have key:∀(bs:List (Nat×List Int)) (l:List Int),(∀y∈l,0<=y/\y<p)->∀y∈bs.foldl (GO p) l,0<=y/\y<p:=fun bs=>by
  induction bs with
  |nil=>exact fun l h=>h
  |cons x bs ih=>
   intro l h
   refine ih (GO p l x) ?_
   unfold GO
   split
   ·exact h
   ·intro y hy
    obtain⟨i,hi⟩:=List.mem_iff_getElem?.mp hy
    rw[List.getElem?_zipWith]at hi
    split at hi
    ·cases hi
     exact⟨Int.emod_nonneg _ (by omega),Int.emod_lt_of_pos _ hp⟩
    ·cases hi
 refine key bs _ fun y hy=>?_
 obtain⟨z,_,rfl⟩:=List.mem_map.mp hy
 exact⟨Int.emod_nonneg _ (by omega),Int.emod_lt_of_pos _ hp⟩
theorem getD_in {p:Int}(hp:0<p){l:List Int}(h:∀y∈l,0<=y/\y<p)(i:Nat):0<=l.getD i 0/\l.getD i 0<p:=by
 rw[List.getD_eq_getElem?_getD]
 cases e:l[i]? with
 |none=>exact⟨by simp,by simpa using hp⟩
 |some y=>exact h y (List.mem_of_getElem? e)
theorem Y2 {p:Int}{n:Nat}(row:List Int):∀{bs:List (Nat×List Int)},Bs p n bs->∀x∈bs,dotW (cof bs row) (colW (basR bs) x.1)=row.getD x.1 0
 |[],_,x,hx=>by simp at hx
 |y::bs,hB,x,hx=>by
  have hoff:=List.pairwise_cons.mp hB.off
  have hT:Bs p n bs:=⟨fun z hz=>hB.len z (List.mem_cons_of_mem _ hz),fun z hz=>hB.own z (List.mem_cons_of_mem _ hz),hoff.2⟩
  show dotW (row.getD y.1 0::cof bs row) (y.2.getD x.1 0::colW (basR bs) x.1)=_
  rw[A4]
  rcases List.mem_cons.mp hx with rfl|hx
  ·have:colW (basR bs) x.1=List.replicate bs.length 0:=by
    refine List.eq_replicate_iff.mpr ⟨by unfold colW basR;simp,fun z hz=>?_⟩
    unfold colW basR at hz
    rw[List.map_map]at hz
    obtain⟨y,hy,rfl⟩:=List.mem_map.mp hz
    exact (hoff.1 y hy).2
   rw[this,Ff,hB.own x (List.mem_cons_self ..)];omega
  ·rw[(hoff.1 x hx).1,Y2 row hT x hx];omega
theorem Qm {p:Int}{n:Nat}(hp:0<p){row:List Int}(hr:row.length=n){bs:List (Nat×List Int)}(hB:Bs p n bs):∀x∈bs,(Ay p bs row).getD x.1 0=0:=fun x hx=>by
 have h:=(Ef row hr bs hB).2 x.1
 rw[Y2 row hB x hx,Int.sub_self]at h
 have:=getD_in hp (GP hp row bs) x.1
 rw[Int.emod_eq_of_lt this.1 this.2]at h
 simpa using h
def Qn (p inv:Int)(bs:List (Nat×List Int))(left:List Int)(q:Nat):List (Nat×List Int):=
 let base:=left.map fun y=>inv*y%p
 (bs.map fun x=>(x.1,Ay p [(q,base)] x.2))++[(q,base)]
theorem Ac_ {p inv:Int}{n:Nat}(hp:2<=p){bs:List (Nat×List Int)}(hB:Bs p n bs){left:List Int}(hl:left.length=n)(hin:∀y∈left,0<=y/\y<p)(h0:∀x∈bs,left.getD x.1 0=0){q:Nat}(hq:q<n)(hi:inv*left.getD q 0%p=1):Bs p n (Qn p inv bs left q):=by
 obtain⟨base,hb⟩:∃base:List Int,base=left.map fun y=>inv*y%p:=⟨_,rfl⟩
 have hbl:base.length=n:=by rw[hb,List.length_map,hl]
 have hbin:∀y∈base,0<=y/\y<p:=fun y hy=>by
  rw[hb]at hy
  obtain⟨z,_,rfl⟩:=List.mem_map.mp hy
  exact⟨Int.emod_nonneg _ (by omega),Int.emod_lt_of_pos _ (by omega)⟩
 have hbat:∀i,base.getD i 0=inv*left.getD i 0%p:=fun i=>by rw[hb,Ke (by simp)]
 have hbq:base.getD q 0=1:=by rw[hbat,hi]
 have hb0:∀x∈bs,base.getD x.1 0=0:=fun x hx=>by rw[hbat,h0 x hx];simp
 have h1:Bs p n [(q,base)]:=⟨fun x hx=>by rw[List.mem_singleton.mp hx];exact⟨hbl,hq,hbin⟩,fun x hx=>by rw[List.mem_singleton.mp hx];exact hbq,List.pairwise_singleton ..⟩
 have hnew:∀x∈bs,∀i,(Ay p [(q,base)] x.2).getD i 0=(x.2.getD i 0-x.2.getD q 0*base.getD i 0)%p:=fun x hx i=>by
  have:=(Ef x.2 (hB.len x hx).1 _ h1).2 i
  have g:=getD_in (by omega) (GP (p:=p) (by omega) x.2 [(q,base)]) i
  rw[Int.emod_eq_of_lt g.1 g.2]at this
  rw[this]
  congr 2
  show dotW [x.2.getD q 0] [base.getD i 0]=_
  rw[A4,Cu];omega
 have hold:∀x∈bs,∀i,base.getD i 0=0->(Ay p [(q,base)] x.2).getD i 0=x.2.getD i 0:=fun x hx i h=>by
  rw[hnew x hx i,h,Int.mul_zero,Int.sub_zero]
  have g:=getD_in (by omega) (hB.len x hx).2.2 i
  exact Int.emod_eq_of_lt g.1 g.2
 show Bs p n ((bs.map fun x=>(x.1,Ay p [(q,left.map fun y=>inv*y%p)] x.2))++[(q,left.map fun y=>inv*y%p)])
 rw[<-hb]
 refine⟨fun x hx=>?_,fun x hx=>?_,?_⟩
 ·rcases List.mem_append.mp hx with hx|hx
  ·obtain⟨y,hy,rfl⟩:=List.mem_map.mp hx
   exact⟨(Ef y.2 (hB.len y hy).1 _ h1).1,(hB.len y hy).2.1,GP (by omega) _ _⟩
  ·rw[List.mem_singleton.mp hx];exact⟨hbl,hq,hbin⟩
 ·rcases List.mem_append.mp hx with hx|hx
  ·obtain⟨y,hy,rfl⟩:=List.mem_map.mp hx
   show (Ay p [(q,base)] y.2).getD y.1 0=1
   rw[hold y hy _ (hb0 y hy)];exact hB.own y hy
  ·rw[List.mem_singleton.mp hx];exact hbq
 ·refine List.pairwise_append.mpr ⟨?_,List.pairwise_singleton ..,fun x hx y hy=>?_⟩
  ·refine List.pairwise_map.mpr ((List.Pairwise.and_mem.mp hB.off).imp fun {x y} h=>?_)
   obtain⟨hx,hy,h⟩:=h
   exact⟨by show (Ay p [(q,base)] x.2).getD y.1 0=0;rw[hold x hx _ (hb0 y hy)];exact h.1,by show (Ay p [(q,base)] y.2).getD x.1 0=0;rw[hold y hy _ (hb0 x hx)];exact h.2⟩
  ·obtain⟨z,hz,rfl⟩:=List.mem_map.mp hx
   rw[List.mem_singleton.mp hy]
   refine⟨?_,hb0 z hz⟩
   show (Ay p [(q,base)] z.2).getD q 0=0
   rw[hnew z hz,hbq,Int.mul_one,Int.sub_self];simp
theorem Bz_ {p:Int}{n:Nat}:∀{bs:List (Nat×List Int)} (cs:List Int),Bs p n bs->cs.length=bs.length->bs.map (fun x=>dotW cs (colW (basR bs) x.1))=cs
 |[],cs,_,h=>by
  have:cs=[]:=List.length_eq_zero_iff.mp h
  subst this;rfl
 |y::bs,[],_,h=>by simp at h
 |y::bs,c::cs,hB,h=>by
  have hoff:=List.pairwise_cons.mp hB.off
  have hT:Bs p n bs:=⟨fun z hz=>hB.len z (List.mem_cons_of_mem _ hz),fun z hz=>hB.own z (List.mem_cons_of_mem _ hz),hoff.2⟩
  have ih:=Bz_ cs hT (by simpa using h)
  have z0:colW (basR bs) y.1=List.replicate bs.length 0:=by
   refine List.eq_replicate_iff.mpr ⟨by unfold colW basR;simp,fun z hz=>?_⟩
   unfold colW basR at hz
   rw[List.map_map]at hz
   obtain⟨x,hx,rfl⟩:=List.mem_map.mp hz
   exact (hoff.1 x hx).2
  have e:∀i,dotW (c::cs) (colW (basR (y::bs)) i)=c*y.2.getD i 0+dotW cs (colW (basR bs) i):=fun i=>by
   show dotW (c::cs) (y.2.getD i 0::colW (basR bs) i)=_
   rw[A4]
  rw[List.map_cons,e,z0,Ff,hB.own y (List.mem_cons_self ..)]
  congr 1
  ·omega
  ·refine (List.map_congr_left fun x hx=>?_).trans ih
   rw[e,(hoff.1 x hx).1];omega
theorem Y3 {p:Int}{n m:Nat}(hp:0<p){row:List Int}(hr:row.length=n){bs:List (Nat×List Int)}(hB:Bs p n bs)(hm:∀x∈bs,x.1<m)(h:Span p m (basR bs) fun i=>row.getD i 0):∀i:Nat,i<m->(Ay p bs row).getD i 0=0:=fun i hi=>by
 obtain⟨cs,a,b⟩:=h
 have a':cs.length=bs.length:=by rw[a];unfold basR;rw[List.length_map]
 have e:cg p (cof bs row) cs:=by
  rw[<-Bz_ cs hB a']
  unfold cof
  exact cg.map fun x hx=>b x.1 (hm x hx)
 have h1:=(Ef row hr bs hB).2 i
 rw[Int.sub_emod,cg.dot e (cg.refl p (colW (basR bs) i)),<-b i hi,<-Int.sub_emod,Int.sub_self]at h1
 have g:=getD_in hp (GP hp row bs) i
 rw[Int.emod_eq_of_lt g.1 g.2]at h1
 simpa using h1
theorem TY {p:Int}{n m:Nat}{row:List Int}(hr:row.length=n){bs:List (Nat×List Int)}(hB:Bs p n bs)(h:∀i:Nat,i<m->(Ay p bs row).getD i 0=0):Span p m (basR bs) fun i=>row.getD i 0:=by
 refine⟨cof bs row,by unfold cof basR;simp,fun i hi=>?_⟩
 have h1:=(Ef row hr bs hB).2 i
 rw[h i hi]at h1
 have:=Int.emod_emod_of_dvd (row.getD i 0-dotW (cof bs row) (colW (basR bs) i)) (Int.dvd_refl p)
 exact Int.emod_eq_emod_iff_emod_sub_eq_zero.mpr (by rw[<-h1];simp)
structure Seen (p:Int)(n m:Nat)(seen:List (List Int))(bs:List (Nat×List Int)):Prop where
 b:Bs p n bs
 lt:∀x∈bs,x.1<m
 made:∀x∈bs,Span p n seen fun i=>x.2.getD i 0
 kept:∀r∈seen,r.length=n/\Span p m (basR bs) fun i=>r.getD i 0
theorem Y4 {p:Int}{n:Nat}{row:List Int}(hr:row.length=n){bs:List (Nat×List Int)}(hB:Bs p n bs){seen:List (List Int)}(h:∀x∈bs,Span p n seen fun i=>x.2.getD i 0):Span p n (seen++[row]) fun i=>(Ay p bs row).getD i 0:=by
 have h1:Span p n (seen++[row]) fun i=>dotW (cof bs row) (colW (basR bs) i):=Span.comb _ (fun r hr'=>by
  obtain⟨x,hx,rfl⟩:=List.mem_map.mp hr'
  exact (h x hx).app [row]) (by unfold cof basR;simp)
 refine ((Span.last seen row).add (h1.smul (-1))).congr fun i _=>?_
 rw[(Ef row hr bs hB).2 i]
 congr 1
 show _=row.getD i 0 + -1*dotW (cof bs row) (colW (basR bs) i)
 omega
theorem Seen.same {p:Int}{n m:Nat}{seen:List (List Int)}{bs:List (Nat×List Int)}(S:Seen p n m seen bs){row:List Int}(hr:row.length=n)(h:∀i:Nat,i<m->(Ay p bs row).getD i 0=0):Seen p n m (seen++[row]) bs:=
 ⟨S.b,S.lt,fun x hx=>(S.made x hx).app [row],fun r hr'=>by
  rcases List.mem_append.mp hr' with h' | h'
  ·exact S.kept r h'
  ·rw[List.mem_singleton.mp h'];exact⟨hr,TY hr S.b h⟩⟩
theorem Seen.more {p inv:Int}{n m:Nat}(hp:2<=p)(hmn:m<=n){seen:List (List Int)}{bs:List (Nat×List Int)}(S:Seen p n m seen bs){row:List Int}(hr:row.length=n){q:Nat}(hq:q<m)(hi:inv*(Ay p bs row).getD q 0%p=1):Seen p n m (seen++[row]) (Qn p inv bs (Ay p bs row) q):=by
 have hl:=(Ef row hr bs S.b).1
 have hB:=Ac_ hp S.b hl (GP (by omega) row bs) (Qm (by omega) hr S.b) (show q<n by omega) hi
 have hleft:=Y4 hr S.b S.made
 have hat:=(Ef row hr bs S.b).2
 generalize Ay p bs row=left at hl hi hB hleft hat ⊢
 obtain⟨base,hb⟩:∃base:List Int,base=left.map fun y=>inv*y%p:=⟨_,rfl⟩
 have ew:Qn p inv bs left q=(bs.map fun x=>(x.1,Ay p [(q,base)] x.2))++[(q,base)]:=by rw[hb];rfl
 have hbat:∀i,base.getD i 0=inv*left.getD i 0%p:=fun i=>by rw[hb,Ke (by simp)]
 rw[ew]at hB ⊢
 have hbl:base.length=n:=(hB.len (q,base) (by simp)).1
 have h1:Bs p n [(q,base)]:=⟨fun x hx=>by rw[List.mem_singleton.mp hx];exact hB.len (q,base) (by simp),fun x hx=>by rw[List.mem_singleton.mp hx];exact hB.own (q,base) (by simp),List.pairwise_singleton ..⟩
 have hnew:∀x∈bs,∀i,(Ay p [(q,base)] x.2).getD i 0%p=(x.2.getD i 0-x.2.getD q 0*base.getD i 0)%p:=fun x hx i=>by
  rw[(Ef x.2 (S.b.len x hx).1 _ h1).2 i]
  congr 2
  show dotW [x.2.getD q 0] [base.getD i 0]=_
  rw[A4,Cu];omega
 have hbase:Span p n (seen++[row]) fun i=>base.getD i 0:=(hleft.smul inv).congr fun i _=>by
  rw[hbat,Int.emod_emod_of_dvd _ (Int.dvd_refl p)]
 have hbn:base∈basR ((bs.map fun x=>(x.1,Ay p [(q,base)] x.2))++[(q,base)]):=by unfold basR;simp
 have hnb:∀x∈bs,Ay p [(q,base)] x.2∈basR ((bs.map fun x=>(x.1,Ay p [(q,base)] x.2))++[(q,base)]):=fun x hx=>by
  unfold basR
  rw[List.map_append,List.map_map]
  exact List.mem_append_left _ (List.mem_map.mpr ⟨x,hx,rfl⟩)
 have hold:∀r∈basR bs,Span p m (basR ((bs.map fun x=>(x.1,Ay p [(q,base)] x.2))++[(q,base)])) fun i=>r.getD i 0:=fun r hr'=>by
  obtain⟨x,hx,rfl⟩:=List.mem_map.mp hr'
  refine ((Span.mem (hnb x hx)).add ((Span.mem hbn).smul (x.2.getD q 0))).congr fun i _=>?_
  show _=((Ay p [(q,base)] x.2).getD i 0+x.2.getD q 0*base.getD i 0)%p
  rw[Int.add_emod,hnew x hx i,<-Int.add_emod]
  congr 1
  omega
 refine⟨hB,fun x hx=>?_,fun x hx=>?_,fun r hr'=>?_⟩
 ·rcases List.mem_append.mp hx with hx|hx
  ·obtain⟨y,hy,rfl⟩:=List.mem_map.mp hx
   exact S.lt y hy
  ·rw[List.mem_singleton.mp hx];exact hq
 ·rcases List.mem_append.mp hx with hx|hx
  ·obtain⟨y,hy,rfl⟩:=List.mem_map.mp hx
   refine (((S.made y hy).app [row]).add (hbase.smul (-y.2.getD q 0))).congr fun i _=>?_
   show (Ay p [(q,base)] y.2).getD i 0%p=(y.2.getD i 0 + -y.2.getD q 0*base.getD i 0)%p
   rw[hnew y hy i,Int.neg_mul]
   congr 1
  ·rw[List.mem_singleton.mp hx];exact hbase
 ·rcases List.mem_append.mp hr' with h' | h'
  ·exact⟨(S.kept r h').1,(S.kept r h').2.trans hold⟩
  ·rw[List.mem_singleton.mp h']
   refine⟨hr,?_⟩
   have h2:Span p m (basR ((bs.map fun x=>(x.1,Ay p [(q,base)] x.2))++[(q,base)])) fun i=>dotW (cof bs row) (colW (basR bs) i):=Span.comb _ hold (by unfold cof basR;simp)
   refine (h2.add ((Span.mem hbn).smul (left.getD q 0))).congr fun i _=>?_
   show row.getD i 0%p=(dotW (cof bs row) (colW (basR bs) i)+left.getD q 0*base.getD i 0)%p
   have e3:left.getD q 0*base.getD i 0%p=left.getD i 0%p:=by
    rw[hbat,Int.mul_emod,Int.emod_emod_of_dvd _ (Int.dvd_refl p),<-Int.mul_emod,show left.getD q 0*(inv*left.getD i 0)=(inv*left.getD q 0)*left.getD i 0 by rw[<-Int.mul_assoc,Int.mul_comm (left.getD q 0)],Int.mul_emod,hi]
    rw[Int.one_mul,Int.emod_emod_of_dvd _ (Int.dvd_refl p)]
   rw[Int.add_emod,e3,hat i,<-Int.add_emod]
   congr 1
   omega
def BO (n k:Nat):List Int:=(List.range n).map fun i=>if i=k then 1 else 0
theorem ME {n k:Nat}:∀cs:List Int,cs.length=n->dotW cs ((List.range n).map fun i=>if i=k then 1 else 0)=cs.getD k 0:=by
 intro cs hc
 have key:∀(m:Nat) (cs:List Int),dotW cs ((List.range' m cs.length).map fun i=>if i=k then 1 else 0)=if m<=k then cs.getD (k-m) 0 else 0:=fun m cs=>by
  induction cs generalizing m with
  |nil=>rw[Cu];split<;>simp
  |cons c cs ih=>
   rw[List.length_cons,List.range'_succ,List.map_cons,A4,ih (m+1)]
   by_cases h1:m=k
   ·subst h1
    rw[if_pos rfl,if_neg (by omega),if_pos (Nat.le_refl _),Nat.sub_self]
    show c*1+0=c
    omega
   ·rw[if_neg h1]
    by_cases h2:m+1<=k
    ·rw[if_pos h2,if_pos (by omega),show k-m=(k-(m+1))+1 by omega]
     show c*0+cs.getD (k-(m+1)) 0=cs.getD (k-(m+1)) 0
     omega
    ·rw[if_neg h2,if_neg (by omega)];omega
 have:=key 0 cs
 rw[if_pos (Nat.zero_le _),Nat.sub_zero,hc,<-List.range_eq_range']at this
 exact this
def Bh (rows:List (List Int)):List (List Int):=(List.range rows.length).map fun k=>rows.getD k []++BO rows.length k
theorem Kf {xs ys:List Int}{i:Nat}(h:i<xs.length):(xs++ys).getD i 0=xs.getD i 0:=by
 rw[List.getD_eq_getElem?_getD,List.getElem?_append_left h,<-List.getD_eq_getElem?_getD]
theorem TZ {xs ys:List Int}{i:Nat}:(xs++ys).getD (xs.length+i) 0=ys.getD i 0:=by
 rw[List.getD_eq_getElem?_getD,List.getElem?_append_right (by omega),show xs.length+i-xs.length=i by omega,<-List.getD_eq_getElem?_getD]
theorem Cq_ {n k i:Nat}(hi:i<n):(BO n k).getD i 0=if i=k then 1 else 0:=by
 unfold BO
 rw[List.getD_eq_getElem?_getD,List.getElem?_map,List.getElem?_range hi];rfl
theorem JI {m:Nat}{rows:List (List Int)}(h:∀r∈rows,r.length=m){i:Nat}(hi:i<m):colW (Bh rows) i=colW rows i:=by
 unfold colW Bh
 rw[List.map_map]
 have:(List.range rows.length).map ((fun r:List Int=>r.getD i 0) ∘ fun k=>rows.getD k []++BO rows.length k)=(List.range rows.length).map fun k=>(rows.getD k []).getD i 0:=by
  refine List.map_congr_left fun k hk=>?_
  have hk:=List.mem_range.mp hk
  have e:rows.getD k []=rows[k]:=by rw[List.getD_eq_getElem?_getD,List.getElem?_eq_getElem hk];rfl
  show (rows.getD k []++BO rows.length k).getD i 0=_
  rw[Kf (by rw[e,h _ (List.getElem_mem hk)];exact hi)]
 rw[this]
 have:rows.map (fun r=>r.getD i 0)=((List.range rows.length).map fun k=>rows.getD k []).map fun r=>r.getD i 0:=by rw[O8]
 rw[this,List.map_map];rfl
theorem Vl {m:Nat}{rows:List (List Int)}(h:∀r∈rows,r.length=m){j:Nat}(hj:j<rows.length):colW (Bh rows) (m+j)=BO rows.length j:=by
 unfold colW Bh
 rw[List.map_map]
 show (List.range rows.length).map _=(List.range rows.length).map _
 refine List.map_congr_left fun k hk=>?_
 have hk:=List.mem_range.mp hk
 have e:rows.getD k []=rows[k]:=by rw[List.getD_eq_getElem?_getD,List.getElem?_eq_getElem hk];rfl
 have hl:(rows.getD k []).length=m:=by rw[e,h _ (List.getElem_mem hk)]
 show (rows.getD k []++BO rows.length k).getD (m+j) 0=if k=j then 1 else 0
 rw[<-hl,TZ,Cq_ hj]
 by_cases hkj:k=j
 ·rw[if_pos hkj,if_pos hkj.symm]
 ·rw[if_neg hkj,if_neg (Ne.symm hkj)]
theorem Vm {p:Int}{m:Nat}{rows:List (List Int)}(h:∀r∈rows,r.length=m){v:Nat->Int}(hv:Span p (m+rows.length) (Bh rows) v):∀i:Nat,i<m->v i%p=dotW ((List.range rows.length).map fun k=>v (m+k)) (colW rows i)%p:=fun i hi=>by
 obtain⟨cs,a,b⟩:=hv
 have a':cs.length=rows.length:=by rw[a];unfold Bh;simp
 have e:cg p ((List.range rows.length).map fun k=>v (m+k)) cs:=by
  have:cs=(List.range rows.length).map fun k=>cs.getD k 0:=by rw[<-a'];exact (O8 0 cs).symm
  rw[this]
  refine cg.map fun k hk=>?_
  have hk:=List.mem_range.mp hk
  rw[b (m+k) (by omega),Vl h hk]
  unfold BO
  rw[ME cs a']
 rw[b i (by omega),JI h hi,cg.dot e (cg.refl p _)]
theorem Span.less {p:Int}{n m:Nat}{S:List (List Int)}{v:Nat->Int}(h:Span p n S v)(hm:m<=n):Span p m S v:=by
 obtain⟨cs,a,b⟩:=h
 exact⟨cs,a,fun i hi=>b i (by omega)⟩
theorem Seen.iff {p:Int}{n m:Nat}(hp:0<p)(hmn:m<=n){seen:List (List Int)}{bs:List (Nat×List Int)}(S:Seen p n m seen bs){row:List Int}(hw:row.length=n):(∀i:Nat,i<m->(Ay p bs row).getD i 0=0)↔Span p m seen fun i=>row.getD i 0:=by
 refine⟨fun h=>(TY hw S.b h).trans fun r hr=>?_,fun h=>Y3 hp hw S.b S.lt (h.trans fun r hr=>(S.kept r hr).2)⟩
 obtain⟨x,hx,rfl⟩:=List.mem_map.mp hr
 exact (S.made x hx).less hmn
open Classical in
noncomputable def Fx (p:Int)(m:Nat)(rows:List (List Int)):List Nat:=(List.range rows.length).filter fun k=>decide (¬ Span p m (rows.take k) fun i=>(rows.getD k []).getD i 0)
open Classical in
theorem GQ (p:Int)(m:Nat)(rows:List (List Int))(r:List Int):Fx p m (rows++[r])=Fx p m rows++(if Span p m rows (fun i=>r.getD i 0) then [] else [rows.length]):=by
 unfold Fx
 rw[List.length_append,List.length_singleton,List.range_succ,List.filter_append]
 congr 1
 ·refine List.filter_congr fun k hk=>?_
  have hk:=List.mem_range.mp hk
  rw[List.take_append_of_le_length (by omega),List.getD_eq_getElem?_getD,List.getElem?_append_left hk,<-List.getD_eq_getElem?_getD]
 ·rw[List.filter_cons,List.filter_nil,List.take_left,List.getD_eq_getElem?_getD,List.getElem?_append_right (Nat.le_refl _),Nat.sub_self]
  show (if decide (¬ Span p m rows fun i=>r.getD i 0)=true then [rows.length] else [])=_
  by_cases h:Span p m rows fun i=>r.getD i 0
  ·rw[if_neg (by rw[decide_eq_true_eq];exact fun g=>g h),if_pos h]
  ·rw[if_pos (decide_eq_true h),if_neg h]
def Indep (p:Int)(m:Nat)(rows:List (List Int)):Prop:=∀cs:List Int,cs.length=rows.length->(∀i:Nat,i<m->dotW cs (colW rows i)%p=0)->∀c∈cs,c%p=0
theorem MF (R S:List (List Int))(i:Nat):colW (R++S) i=colW R i++colW S i:=by unfold colW;rw[List.map_append]
theorem Indep.left {p:Int}{m:Nat}{R S:List (List Int)}(h:Indep p m (R++S)):Indep p m R:=fun cs a b c hc=>
 h (cs++List.replicate S.length 0) (by simp[a]) (fun i hi=>by
  rw[MF,Li _ _ _ _ (by rw[a,FZ]),Bq (List.replicate _ _),Ff,Int.add_zero];exact b i hi) c (List.mem_append_left _ hc)
theorem Indep.not {p:Int}(hp:2<=p){m:Nat}{R:List (List Int)}{r:List Int}(h:Indep p m (R++[r])):¬ Span p m R fun i=>r.getD i 0:=fun ⟨cs,a,b⟩=>by
 have:=h (cs++[-1]) (by simp[a]) (fun i hi=>by
  rw[MF,show colW [r] i=[r.getD i 0] from rfl,Ql _ _ (by rw[a,FZ])]
  have:=b i hi
  exact Int.emod_eq_zero_of_dvd (by
   have:=Int.emod_emod_of_dvd (r.getD i 0) (Int.dvd_refl p)
   have e:r.getD i 0%p=dotW cs (colW R i)%p:=b i hi
   have d:=Int.dvd_of_emod_eq_zero (Int.emod_eq_emod_iff_emod_sub_eq_zero.mp e.symm)
   rwa [show dotW cs (colW R i) + -1*r.getD i 0=dotW cs (colW R i)-r.getD i 0 by omega])) (-1) (by simp)
 have d:=Int.dvd_of_emod_eq_zero this
 have:=Int.le_of_dvd (by decide) (Int.dvd_neg.mpr d)
 omega
theorem Indep.chosen {p:Int}(hp:2<=p){m:Nat}:∀{rows:List (List Int)},Indep p m rows->Fx p m rows=List.range rows.length:=by
 intro rows
 generalize hk:rows.length=k
 induction k generalizing rows with
 |zero=>
  intro _
  have:rows=[]:=List.length_eq_zero_iff.mp hk
  subst this;rfl
 |succ k ih=>
  intro h
  obtain⟨R,r,rfl⟩:∃R r,rows=R++[r]:=⟨rows.dropLast,rows.getLast (by intro e;subst e;simp at hk),(List.dropLast_concat_getLast _).symm⟩
  have hR:R.length=k:=by simp at hk;omega
  rw[GQ,if_neg (h.not hp),ih hR h.left,hR,List.range_succ]
theorem Indep.uniq {p:Int}{m:Nat}{rows:List (List Int)}(h:Indep p m rows){cs ds:List Int}(hc:cs.length=rows.length)(hd:ds.length=rows.length)(e:∀i:Nat,i<m->dotW cs (colW rows i)%p=dotW ds (colW rows i)%p):cg p cs ds:=by
 have key:=h (List.zipWith (· + ·) cs (ds.map (-1 * ·))) (by simp[hc,hd]) fun i hi=>by
  rw[Qj _ _ _ (by simp[hc,hd]),HV]
  have:=Int.emod_eq_emod_iff_emod_sub_eq_zero.mp (e i hi)
  rwa [show dotW cs (colW rows i) + -1*dotW ds (colW rows i)=dotW cs (colW rows i)-dotW ds (colW rows i) by omega]
 unfold cg
 refine List.ext_getElem (by simp[hc,hd]) fun i h1 h2=>?_
 rw[List.getElem_map,List.getElem_map]
 have i1:i<cs.length:=by simpa using h1
 have i2:i<ds.length:=by simpa using h2
 have:=key (cs[i] + -1*ds[i]) (List.mem_iff_getElem.mpr ⟨i,by simp;omega,by simp⟩)
 refine Int.emod_eq_emod_iff_emod_sub_eq_zero.mpr ?_
 rwa [show cs[i]-ds[i]=cs[i] + -1*ds[i] by omega]
theorem Indep.nil (p:Int)(m:Nat):Indep p m []:=fun cs a _ c hc=>by
 have:cs=[]:=List.length_eq_zero_iff.mp a
 subst this;simp at hc
theorem O9 {m:Nat}{rows:List (List Int)}(h:∀r∈rows,r.length=m):∀r∈Bh rows,r.length=m+rows.length:=fun r hr=>by
 unfold Bh at hr
 obtain⟨k,hk,rfl⟩:=List.mem_map.mp hr
 have hk:=List.mem_range.mp hk
 have e:rows.getD k []=rows[k]:=by rw[List.getD_eq_getElem?_getD,List.getElem?_eq_getElem hk];rfl
 rw[List.length_append,e,h _ (List.getElem_mem hk)];unfold BO;simp
theorem Vn {p:Int}{m:Nat}{rows:List (List Int)}(h:∀r∈rows,r.length=m){v:Nat->Int}:Span p m (Bh rows) v↔Span p m rows v:=by
 have l:(Bh rows).length=rows.length:=by unfold Bh;simp
 constructor
 ·rintro⟨cs,a,b⟩
  exact⟨cs,by rw[a,l],fun i hi=>by rw[b i hi,JI h hi]⟩
 ·rintro⟨cs,a,b⟩
  exact⟨cs,by rw[a,l],fun i hi=>by rw[b i hi,JI h hi]⟩
theorem Cr_ (c i:Nat):(List.replicate c (0:Int)).getD i 0=0:=by
 rw[List.getD_eq_getElem?_getD,List.getElem?_replicate];split<;>rfl
theorem Y5 {p:Int}(hp:0<p){m:Nat}{rows:List (List Int)}(h:∀r∈rows,r.length=m){bs:List (Nat×List Int)}(S:Seen p (m+rows.length) m (Bh rows) bs){row:List Int}(hw:row.length=m):(∀i:Nat,i<m->(Ay p bs (row++List.replicate rows.length 0)).getD i 0=0)↔Span p m rows fun i=>row.getD i 0:=by
 rw[S.iff hp (by omega) (by simp[hw]),Vn h]
 exact⟨fun g=>g.congr fun i hi=>by rw[Kf (by omega)],fun g=>g.congr fun i hi=>by rw[Kf (by omega)]⟩
theorem DZ_ {p:Int}(hp:0<p){m:Nat}{rows:List (List Int)}(h:∀r∈rows,r.length=m){bs:List (Nat×List Int)}(S:Seen p (m+rows.length) m (Bh rows) bs){row:List Int}(hw:row.length=m)(h0:∀i:Nat,i<m->(Ay p bs (row++List.replicate rows.length 0)).getD i 0=0):∀i:Nat,i<m->row.getD i 0%p=dotW ((List.range rows.length).map fun k => -(Ay p bs (row++List.replicate rows.length 0)).getD (m+k) 0%p) (colW rows i)%p:=by
 have hat:=(Ef (row++List.replicate rows.length 0) (by simp[hw]:_=m+rows.length) bs S.b).2
 generalize hL:Ay p bs (row++List.replicate rows.length 0)=left at hat h0 ⊢
 have hs:Span p (m+rows.length) (Bh rows) fun i=>dotW (cof bs (row++List.replicate rows.length 0)) (colW (basR bs) i):=Span.comb _ (fun r hr=>by
  obtain⟨x,hx,rfl⟩:=List.mem_map.mp hr
  exact S.made x hx) (by unfold cof basR;simp)
 intro i hi
 have h1:=Vm h hs i hi
 have h2:=hat i
 rw[h0 i hi,Kf (by omega)]at h2
 have e1:row.getD i 0%p=dotW (cof bs (row++List.replicate rows.length 0)) (colW (basR bs) i)%p:=Int.emod_eq_emod_iff_emod_sub_eq_zero.mpr (by rw[<-h2];simp)
 rw[e1,h1]
 refine cg.dot (cg.map fun k hk=>?_) (cg.refl p _)
 have h3:=hat (m+k)
 rw[<-hw,TZ,Cr_,hw,Int.zero_sub]at h3
 rw[Int.emod_emod_of_dvd _ (Int.dvd_refl p),<-Int.neg_neg (dotW _ _)]
 have d:=Int.dvd_of_emod_eq_zero (Int.emod_eq_emod_iff_emod_sub_eq_zero.mp h3)
 refine Int.emod_eq_emod_iff_emod_sub_eq_zero.mpr (Int.emod_eq_zero_of_dvd ?_)
 have e:∀x y:Int,- -x - -y=y - -x:=fun x y=>by omega
 rw[e];exact d
theorem BA_ {p:Int}(hp:0<p){m:Nat}{rows:List (List Int)}(h:∀r∈rows,r.length=m)(hI:Indep p m rows){bs:List (Nat×List Int)}(S:Seen p (m+rows.length) m (Bh rows) bs){row:List Int}(hw:row.length=m){am:List Int}(ha:am.length=rows.length)(hin:∀x∈am,0<=x/\x<p)(he:∀i:Nat,i<m->row.getD i 0%p=dotW am (colW rows i)%p):((Ay p bs (row++List.replicate rows.length 0)).drop m).map (fun y => -y%p)=am:=by
 have h0:=(Y5 hp h S hw).mpr ⟨am,ha,he⟩
 have hl:=(Ef (row++List.replicate rows.length 0) (by simp[hw]:_=m+rows.length) bs S.b).1
 have hf:=DZ_ hp h S hw h0
 generalize Ay p bs (row++List.replicate rows.length 0)=left at hl hf h0 ⊢
 have e0:(left.drop m).map (fun y => -y%p)=(List.range rows.length).map fun k => -left.getD (m+k) 0%p:=by
  refine List.ext_getElem (by simp[hl]) fun i h1 h2=>?_
  have hi:m+i<left.length:=by simp at h1;omega
  rw[List.getElem_map,List.getElem_map,List.getElem_range,List.getElem_drop,List.getD_eq_getElem?_getD,List.getElem?_eq_getElem hi];rfl
 have hu:=hI.uniq (cs:=(List.range rows.length).map fun k => -left.getD (m+k) 0%p) (ds:=am) (by simp) ha fun i hi=>(hf i hi).symm.trans (he i hi)
 rw[e0]
 unfold cg at hu
 rw[List.map_map]at hu
 have e2:am.map (· % p)=am:=by
  conv=>rhs;rw[<-List.map_id am]
  exact List.map_congr_left fun x hx=>Int.emod_eq_of_lt (hin x hx).1 (hin x hx).2
 rw[e2]at hu
 rw[<-hu]
 refine List.map_congr_left fun k _=>?_
 show _=(-left.getD (m+k) 0%p)%p
 rw[Int.emod_emod_of_dvd _ (Int.dvd_refl p)]
theorem Qo:∀(m:Nat) (l:List Nat),l.Nodup->(∀x∈l,x<m)->l.length<=m
 |0,l,_,h=>by
  cases l with
  |nil=>exact Nat.le_refl _
  |cons x l=>exact absurd (h x (List.mem_cons_self ..)) (Nat.not_lt_zero _)
 |m+1,l,nd,h=>by
  have h1:=Qo m (l.erase m) (nd.erase m) fun x hx=>by
   have hx1:=h x (List.mem_of_mem_erase hx)
   have hx2:x≠m:=fun e=>by
    subst e
    exact (List.Nodup.not_mem_erase nd) hx
   omega
  have h2:=List.length_erase (a:=m) (l:=l)
  by_cases hm:m∈l
  ·rw[if_pos hm]at h2
   omega
  ·rw[if_neg hm]at h2;omega
theorem bez (a b:Nat):∃x y:Int,x*a+y*b=(Nat.gcd a b:Int):=by
 induction a,b using Nat.gcd.induction with
 |H0 n=>exact⟨0,1,by simp⟩
 |H1 m n hm ih=>
  obtain⟨x,y,h⟩:=ih
  refine⟨y-x*((n / m:Nat):Int),x,?_⟩
  rw[Nat.gcd_rec m n,<-h]
  have e:(n:Int)=(m:Int)*((n / m:Nat):Int)+((n%m:Nat):Int):=by
   have:=Nat.div_add_mod n m
   rw[<-Int.natCast_mul,<-Int.natCast_add,this]
  have e2:x*(n:Int)=x*((m:Int)*((n / m:Nat):Int))+x*((n%m:Nat):Int):=by rw[<-Int.mul_add,<-e]
  rw[e2,Int.sub_mul,Int.mul_assoc,Int.mul_comm ((n / m:Nat):Int) (m:Int)]
  omega
theorem BB_ {p a:Int}(hp:2<=p)(h0:0<a)(hg:Int.gcd a p=1):∃inv:Int,inv*a%p=1:=by
 obtain⟨x,y,h⟩:=bez a.natAbs p.natAbs
 rw[show Nat.gcd a.natAbs p.natAbs=1 from hg,show (a.natAbs:Int)=a by omega,show (p.natAbs:Int)=p by omega]at h
 refine⟨x,?_⟩
 have e:x*a=1+p*(-y):=by rw[Int.mul_neg,Int.mul_comm p y];omega
 rw[e,Int.add_mul_emod_self_left]
 exact Int.emod_eq_of_lt (by decide) (by omega)
theorem Y6 {p:Int}(hp:2<=p)(hI:∀a:Int,0<a->a<p->∃inv:Int,inv*a%p=1){n m:Nat}(hmn:m<=n):∀rows:List (List Int),(∀r∈rows,r.length=n)->∃bs,Seen p n m rows bs/\bs.length=(Fx p m rows).length:=by
 intro rows
 generalize hk:rows.length=k
 induction k generalizing rows with
 |zero=>
  intro _
  have:rows=[]:=List.length_eq_zero_iff.mp hk
  subst this
  exact⟨[],⟨⟨by simp,by simp,.nil⟩,by simp,by simp,by simp⟩,rfl⟩
 |succ k ih=>
  intro h
  obtain⟨R,x,rfl⟩:∃R x,rows=R++[x]:=⟨rows.dropLast,rows.getLast (by intro e;subst e;simp at hk),(List.dropLast_concat_getLast _).symm⟩
  obtain⟨bs,S,hb⟩:=ih R (by simp at hk;omega) fun r hr=>h r (List.mem_append_left _ hr)
  have hx:x.length=n:=h x (by simp)
  have hiff:=S.iff (by omega) hmn hx
  rw[GQ]
  by_cases hs:Span p m R fun i=>x.getD i 0
  ·rw[if_pos hs,List.append_nil]
   exact⟨bs,S.same hx (hiff.mpr hs),hb⟩
  ·rw[if_neg hs]
   obtain⟨q,hq,h0⟩:∃q:Nat,q<m/\(Ay p bs x).getD q 0≠0:=Classical.byContradiction fun hc=>hs (hiff.mp fun i hi=>Classical.byContradiction fun g=>hc ⟨i,hi,g⟩)
   have g:=getD_in (show 0<p by omega) (GP (by omega) x bs) q
   obtain⟨inv,hinv⟩:=hI _ (by omega) g.2
   exact⟨_,S.more hp hmn hx hq hinv,by unfold Qn;simp[hb]⟩
theorem Y7 {p:Int}{n:Nat}{bs:List (Nat×List Int)}(h:Bs p n bs):(bs.map (·.1)).Nodup:=by
 refine List.pairwise_map.mpr ((List.Pairwise.and_mem.mp h.off).imp fun {x y} g e=>?_)
 obtain⟨hx,hy,g1,_⟩:=g
 rw[<-e,h.own x hx]at g1
 exact absurd g1 (by decide)
theorem Y8 {p:Int}(hp:2<=p)(hI:∀a:Int,0<a->a<p->∃inv:Int,inv*a%p=1){n:Nat}{rows:List (List Int)}(h:∀r∈rows,r.length=n):(Fx p n rows).length<=n:=by
 obtain⟨bs,S,hb⟩:=Y6 hp hI (Nat.le_refl n) rows h
 rw[<-hb,<-List.length_map (f:=(·.1)) (as:=bs)]
 refine Qo n _ (Y7 S.b) fun x hx=>?_
 obtain⟨y,hy,rfl⟩:=List.mem_map.mp hx
 exact S.lt y hy
structure GcdI (p n one two f g:Int):Prop where
 o:0<one
 o1:one<=p
 t:0<=two
 t1:two<=p
 gc:Int.gcd one two=1
 f1:(f*n-one)%p=0
 g1:(g*n-two)%p=0
theorem Cs_ {a b:Int}(ha:0<a)(hb:0<b)(h:Int.gcd a b=1):Int.gcd b (a%b)=1:=by
 have m0:=Int.emod_nonneg a (show b≠0 by omega)
 have e:(a%b).natAbs=a.natAbs%b.natAbs:=by
  have e1:a%b=((a.natAbs%b.natAbs:Nat):Int):=by rw[Int.natCast_emod,show (a.natAbs:Int)=a from by omega,show (b.natAbs:Int)=b from by omega]
  rw[e1,Int.natAbs_natCast]
 unfold Int.gcd at h ⊢
 rw[e,Nat.gcd_comm,<-Nat.gcd_rec,Nat.gcd_comm];exact h
theorem GcdI.step {p n one two f g:Int}(h:GcdI p n one two f g)(ht:two≠0):GcdI p n two (one-one / two*two) g (f-one / two*g):=by
 have hp:0<two:=by have:=h.t;omega
 have e:one-one / two*two=one%two:=by have:=Int.mul_ediv_add_emod one two;rw[Int.mul_comm];omega
 refine⟨hp,h.t1,by rw[e];exact Int.emod_nonneg _ ht,by rw[e];have:=Int.emod_lt_of_pos one hp;have:=h.t1;omega,?_,h.g1,?_⟩
 ·rw[e];exact Cs_ h.o hp h.gc
 ·have e2:(f-one / two*g)*n-(one-one / two*two)=(f*n-one)-one / two*(g*n-two):=by
   rw[Int.sub_mul,Int.mul_sub,Int.mul_assoc];omega
  have d1:=Int.dvd_of_emod_eq_zero h.f1
  have d2:=Int.dvd_of_emod_eq_zero h.g1
  rw[e2]
  exact Int.emod_eq_zero_of_dvd (Int.dvd_sub d1 (Int.dvd_mul_of_dvd_right d2))
theorem GcdI.done {p n one f g:Int}(h:GcdI p n one 0 f g)(hp:2<=p):f%p*n%p=1:=by
 have e:one=1:=by have:=h.gc;have:=h.o;rw[Int.gcd_zero_right] at *;omega
 have:=h.f1
 rw[e]at this
 have d:=Int.dvd_of_emod_eq_zero this
 have e3:f*n%p=1%p:=Int.emod_eq_emod_iff_emod_sub_eq_zero.mpr this
 have e4:f%p*n%p=f*n%p:=by rw[Int.mul_emod,Int.emod_emod,<-Int.mul_emod]
 rw[e4,e3]
 exact Int.emod_eq_of_lt (by decide) (by omega)
def Pb (NI:Addr):Sp:=fun vs H Q E=>∃(p n:Int),vs=[.int p,.int n]/\2<=p/\p<1000000000000000000/\(n%p=0->E (.ref NI) none H)/\(n%p≠0->Int.gcd (n%p) p=1/\∀r,0<=r->r<p->r*n%p=1->Q (.int r) H)
theorem WQ {f:Addr}{fd:FuncData}(F:Fun K "inverse" "inverse" Fs f fd)(T:Txt mg)
  (Z:Exs K mg C_AskError C_BadWord C_NoInverse)
  : FnOk P w K mg base (CXe P w) 1 f fd ["p","number"] (Pb C_NoInverse):=by
 refine F.okE BQ (fun vs H Q E h=>?_) (fun cdv A outer s H vs Q E hr h=>?_)
 ·obtain⟨p,n,rfl,_⟩:=h;rfl
 ·obtain⟨p,n,rfl,hp,hp18,kE,k⟩:=h
  have hl:=Al
  refine⟨_,(Ad (Ai (i:=2) BQ.nd rfl (Or.inl rfl) (pv 0))
   (Ad (Ai (i:=3) BQ.nd rfl (Or.inl rfl) (An BR (pv 1) (pv 0)))
   (Ad (Et (Bc U1 (pv 3) Ag (BM _))
   (Af (V1 Z.m_NoInverse Z.x_NoInverse rfl rfl (Aa AL_ Ab)))
   Bb)
   (Ad (Ai (i:=4) BQ.nd rfl (Or.inl rfl) Ag)
   (Ad (Ai (i:=5) BQ.nd rfl (Or.inl rfl) Ag)
   (Ad (PJ PassesOwn.leaving (Bc U2 (pv 3) Ag (BM _))
   (Ad (Ai (i:=6) BQ.nd rfl (Or.inl rfl) (An ZW (pv 2) (pv 3)))
   (Ad (Ai (i:=7) BQ.nd rfl (Or.inl rfl) (An O1 (pv 2) (An CP (pv 6) (pv 3))))
   (Ad (Ai (i:=8) BQ.nd rfl (Or.inl rfl) (An O1 (pv 4) (An CP (pv 6) (pv 5))))
   (Ad (Ai (i:=2) BQ.nd rfl (Or.inl rfl) (pv 3))
   (Ad (Ai (i:=4) BQ.nd rfl (Or.inl rfl) (pv 5))
   (Ad (Ai (i:=3) BQ.nd rfl (Or.inl rfl) (pv 7))
   (Af (Ai (i:=5) BQ.nd rfl (Or.inl rfl) (pv 8))))))))))
   (Af (Aq (An BR (pv 4) (pv 0)))))))))),?_⟩
  walk_at "rd"
  refine⟨by omega,ite2 (fun e=>⟨by omega,kE e⟩) (fun e=>?_)⟩
  obtain⟨hg,kq⟩:=k e
  have m0:=Int.emod_nonneg n (show p≠0 by omega)
  have m1:=Int.emod_lt_of_pos n (show 0<p by omega)
  obtain⟨Pv,hPv⟩:∃Pv:Nat->St->Hp->Prop,∀m σ2 H2,Pv m σ2 H2↔(H2=H/\∃(one two f g:Int) (o6 o7 o8:Option V),m=two.toNat/\GcdI p n one two f g/\σ2=[some (.int p),some (.int n),some (.int one),some (.int two),some (.int f),some (.int g),o6,o7,o8]):=⟨_,fun _ _ _=>Iff.rfl⟩
  refine Yv Pv ⟨_,(hPv _ _ _).mpr ⟨rfl,p,n%p,0,1,none,none,none,rfl,⟨by omega,by omega,m0,by omega,by rw[Int.gcd_comm];exact hg,Int.emod_eq_zero_of_dvd ⟨-1,by rw[Int.zero_mul];omega⟩,Int.emod_eq_zero_of_dvd ⟨n / p,by rw[Int.one_mul];have:=Int.mul_ediv_add_emod n p;omega⟩⟩,rfl⟩⟩ ?_
  intro m σ2 H2 hpv
  obtain⟨rfl,one,two,f,g,o6,o7,o8,rfl,G,rfl⟩:=(hPv _ _ _).mp hpv
  have g1:=G.o
  have g2:=G.o1
  have g3:=G.t
  have g4:=G.t1
  walk_at "rd"
  by_cases ht:two=0
  ·rw[if_neg (by simp[ht])]
   subst ht
   walk_at "rd"
   exact⟨by omega,kq _ (Int.emod_nonneg _ (by omega)) (Int.emod_lt_of_pos _ (by omega)) (G.done hp)⟩
  ·rw[if_pos (by simp[ht])]
   have q0:=Int.ediv_nonneg (show 0<=one by omega) g3
   have q1:one / two<=one:=Int.ediv_le_self _ (by omega)
   have G':=G.step ht
   have r1:=G'.t
   refine⟨fun σ' H'=>∃m',m'<two.toNat/\Pv m' σ' H',fun _ _ h=>h,by omega,by omega,.inr ⟨by omega,by omega⟩,.inl ⟨by omega,by omega⟩,(one-one / two*two).toNat,?_,(hPv _ _ _).mpr ⟨rfl,_,_,_,_,_,_,_,rfl,G',rfl⟩⟩
   have e1:one-one / two*two=one%two:=by have:=Int.mul_ediv_add_emod one two;rw[Int.mul_comm];omega
   have:=Int.emod_lt_of_pos one (show 0<two by omega)
   omega
def M8 (K:PySem.W.Frag):Sp:=fun vs H Q _=>∃(p f:Int) (t:Bool) (a:Addr) (xs:List Int),vs=[.int p,.int f,.ref a]/\0<p/\(-(2 ^ 64)<f/\f<2 ^ 64)/\SqB K H t a (xs.map V.int)/\xs.length<=900/\∀q H',Same H H'->H' q=some (.tup ((xs.map fun x=>f*x%p).map V.int))->Q (.ref q) H'
theorem Y9 {f:Addr}{fd:FuncData}(F:Fun K "scaled" "scaled" FW f fd)(T:Txt mg)
  (Z:Exs K mg C_AskError C_BadWord C_NoInverse)
  : FnOk P w K mg base CX0 1 f fd ["p","factor","row"] (M8 K):=by
 refine F.ok Y1 (fun vs H Q E h=>?_) (fun cdv A outer s H vs Q E hr h=>?_)
 ·obtain⟨p,f,t,a,xs,rfl,_⟩:=h;rfl
 ·obtain⟨p,f,t,a,xs,rfl,hp,hf,ha,hz,k⟩:=h
  have hl:=Al
  refine⟨_,(Af (Aq (Aw Ap rfl T.tuple PyProof.Rows.boot_tuple (Aa (BN rfl (Ck rfl) (cp:=O6) ⟨⟨rfl,rfl⟩,⟨⟨rfl,rfl⟩,True.intro⟩⟩ (Yz (pv 2)) (fun _ _ _ _=>(Ak (i:=0) Qi rfl (Or.inl rfl))) (fun _ _ _ _=>BV) (fun _ _ _ _=>(An BR (An CP (pv 2) (pv 0)) (pv 1)))) Ab)))),?_⟩
  walk_at "rd"
  obtain⟨g,hg⟩:∃g:V->V,∀n:Int,g (V.int n)=.int (f*n%p):=⟨fun x=>match x with | .int n=>.int (f*n%p)|_=>.non,fun _=>rfl⟩
  refine Wa (σ':=[some (.int p),some (.int f)]) g rfl ha (by rw[List.length_map];omega) (fun x hx R hR=>?_) (fun D hD=>?_)
  ·obtain⟨n,hn,rfl⟩:=List.mem_map.mp hx
   rw[hg]at hR
   walk_at "rd"
   exact⟨.inl hf,hp,hR⟩
  ·have em:(xs.map V.int).map g=(xs.map fun x=>f*x%p).map V.int:=by
    rw[List.map_map,List.map_map]
    exact List.map_congr_left fun n _=>hg n
   rw[em]
   refine⟨D,rfl,_,.inl ⟨SqL.of Ac,fun q hq=>k q _ ((Same.new hD).newT hq) Ac⟩⟩
def Wk (K:PySem.W.Frag):Sp:=fun vs H Q _=>∃(p:Int) (t1 t2:Bool) (a b:Addr) (xs ys:List Int),vs=[.int p,.ref a,.ref b]/\0<p/\SqB K H t1 a (xs.map V.int)/\SqB K H t2 b (ys.map V.int)/\xs.length=ys.length/\xs.length<=900/\∀q H',Same H H'->H' q=some (.tup ((List.zipWith (fun x y=>(x+y)%p) xs ys).map V.int))->Q (.ref q) H'
theorem Ad_ {f:Addr}{fd:FuncData}(F:Fun K "added" "added" JG f fd)(T:Txt mg)
  (Z:Exs K mg C_AskError C_BadWord C_NoInverse)
  : FnOk P w K mg base CX0 1 f fd ["p","row","other"] (Wk K):=by
 refine F.ok Z8 (fun vs H Q E h=>?_) (fun cdv A outer s H vs Q E hr h=>?_)
 ·obtain⟨p,t1,t2,a,b,xs,ys,rfl,_⟩:=h;rfl
 ·obtain⟨p,t1,t2,a,b,xs,ys,rfl,hp,ha,hb,hlen,hz,k⟩:=h
  have hl:=Al
  refine⟨_,(Af (Aq (Aw Ap rfl T.tuple PyProof.Rows.boot_tuple (Aa (BN rfl (Ck rfl) (cp:=TU) ⟨⟨rfl,rfl⟩,True.intro⟩ (YS rfl T.zip (Aa (pv 1) (Aa (pv 2) Ab))) (fun _ _ _ _=>(Vh (K:=K) (n:=2) rfl rfl (DL (Ak (i:=0) LS rfl (Or.inl rfl)) (DL (Ak (i:=1) LS rfl (Or.inl rfl)) K4)))) (fun _ _ _ _=>BV) (fun _ _ _ _=>(An BR (An CN (pv 0) (pv 1)) (pv 2)))) Ab)))),?_⟩
  walk_at "rd"
  refine⟨_,_,t1,ha,t2,hb,Wb (σ':=[some (.int p)]) (fun x y=>(x+y)%p) rfl ha hb hlen (by omega) (fun t u v o1 o2 H1 N ht hN=>?_) (fun x y H1 hx hy s1 R hR=>?_) (fun H1 D s1 hD=>?_)⟩
  ·walk_at "rd"
   exact⟨_,SqT.of ht,rfl,_,_,rfl,_,_,rfl,rfl,hN⟩
  ·walk_at "rd"
   exact⟨hp,hR⟩
  ·refine⟨D,rfl,_,.inl ⟨SqL.of Ac,fun q hq=>k q _ ((s1.newT hD).newT hq) Ac⟩⟩
def Lj (K:PySem.W.Frag):Sp:=fun vs H Q _=>∃(p:Int) (t1 t2:Bool) (a b:Addr) (xs ys:List Int),vs=[.int p,.ref a,.ref b]/\0<p/\SqB K H t1 a (xs.map V.int)/\SqB K H t2 b (ys.map V.int)/\xs.length=ys.length/\xs.length<=900/\(∀x∈xs,-(2 ^ 64)<x/\x<2 ^ 64)/\∀H',Same H H'->Q (.int (dotW xs ys%p)) H'
theorem WR {f:Addr}{fd:FuncData}(F:Fun K "product" "product" EO f fd)(T:Txt mg)
  (Z:Exs K mg C_AskError C_BadWord C_NoInverse)
  : FnOk P w K mg base CX0 1 f fd ["p","row","other"] (Lj K):=by
 refine F.ok WK (fun vs H Q E h=>?_) (fun cdv A outer s H vs Q E hr h=>?_)
 ·obtain⟨p,t1,t2,a,b,xs,ys,rfl,_⟩:=h;rfl
 ·obtain⟨p,t1,t2,a,b,xs,ys,rfl,hp,ha,hb,hlen,hz,hx64,k⟩:=h
  have hl:=Al
  refine⟨_,(Af (Aq (An BR (As (MB rfl) rfl T.sum PyProof.Rows.boot_sum (Aa (BN rfl (Ck rfl) (cp:=MY) True.intro (YS rfl T.zip (Aa (pv 1) (Aa (pv 2) Ab))) (fun _ _ _ _=>(Vh (K:=K) (n:=2) rfl rfl (DL (Ak (i:=0) Jo rfl (Or.inl rfl)) (DL (Ak (i:=1) Jo rfl (Or.inl rfl)) K4)))) (fun _ _ _ _=>BV) (fun _ _ _ _=>(An CP (pv 0) (pv 1)))) Ab)) (pv 0)))),?_⟩
  walk_at "rd"
  refine⟨_,_,t1,ha,t2,hb,Wb (σ':=[]) (fun x y=>x*y) rfl ha hb hlen (by omega) (fun t u v o1 o2 H1 N ht hN=>?_) (fun x y H1 hx hy s1 R hR=>?_) (fun H1 D s1 hD=>?_)⟩
  ·walk_at "rd"
   exact⟨_,SqT.of ht,rfl,_,_,rfl,_,_,rfl,rfl,hN⟩
  ·walk_at "rd"
   exact⟨.inl (hx64 x hx),hR⟩
  ·exact⟨D,rfl,_,SqL.of Ac,hp,k _ (s1.newT hD)⟩
def Pd (K:PySem.W.Frag):Sp:=fun vs H Q _=>∃(p:Int) (t1 t2:Bool) (a b:Addr) (xs:List V) (rows:List (List Int)) (am:List Int) (n:Nat),vs=[.int p,.ref a,.ref b,.int n]/\0<p/\SqB K H t1 a xs/\AS K H xs rows/\(∀r∈rows,r.length=n)/\SqB K H t2 b (am.map V.int)/\am.length=rows.length/\rows.length<=900/\n<=900/\(∀x∈am,-(2 ^ 64)<x/\x<2 ^ 64)/\∀q H',Same H H'->H' q=some (.tup ((E7 p rows am n).map V.int))->Q (.ref q) H'
theorem WT {f:Addr}{fd:FuncData}(F:Fun K "made_of" "made_of" Ft f fd)(T:Txt mg)
  (Z:Exs K mg C_AskError C_BadWord C_NoInverse)
  {C9:Addr} {Ez:FuncData} (Gw:FnOk P w K mg base CX0 1 C9 Ez ["p","row","other"] (Lj K)) (ER:Fun K "product" "product" EO C9 Ez) (Gx:Binds K Ez ["p","row","other"] []) (Gy:mg "product"=some (.ref C9))
  : FnOk P w K mg base CX0 2 f fd ["p","rows","parts","size"] (Pd K):=by
 refine F.ok WL (fun vs H Q E h=>?_) (fun cdv A outer s H vs Q E hr h=>?_)
 ·obtain⟨p,t1,t2,a,b,xs,rows,am,n,rfl,_⟩:=h;rfl
 ·obtain⟨p,t1,t2,a,b,xs,rows,am,n,rfl,hp,ha,hrw,hrn,hb,hlen,hz,hn,h64,k⟩:=h
  have hl:=Al
  refine⟨_,(Af (Aq (Aw Ap rfl T.tuple PyProof.Rows.boot_tuple (Aa (V8 rfl (Vf rfl) (cp:=M0) ⟨⟨rfl,rfl⟩,⟨⟨rfl,rfl⟩,⟨⟨rfl,rfl⟩,True.intro⟩⟩⟩ (A0 rfl T.range (Aa (pv 3) Ab)) (fun _ _ _ _=>(Ak (i:=0) N8 rfl (Or.inr rfl))) (fun _ _ _ _=>BV) (fun _ _ _ _=>(Ah Gw (hr.mono (by decide)) rfl Gy ER.kp Gx .nil Az (Aa (pv 1) (Aa (pv 2) (Aa (BN rfl (Ck rfl) (cp:=M3) ⟨⟨rfl,rfl⟩,True.intro⟩ (Ck_ (K:=K) rfl (pv 3)) (fun _ _ _ _=>(Ak (i:=0) N9 rfl (Or.inl rfl))) (fun _ _ _ _=>BV) (fun _ _ _ _=>(Ax (Ec (K:=K) rfl) (pv 0) (pv 1) (fun _ _=>rfl)))) Ab)))))) Ab)))),?_⟩
  walk_at "rd"
  refine⟨by omega,by omega,?_⟩
  rw[Int.toNat_natCast]
  obtain⟨Pc,hPc⟩:∃Pc:Nat->List V->St->Hp->Prop,∀c ys σ4 H4,Pc c ys σ4 H4↔(Same H H4/\ys=((List.range c).map fun c=>dotW am (colW rows c)%p).map V.int/\∃o,σ4=[o,some (.int p),some (.ref b),some (.ref a)]):=⟨_,fun _ _ _ _=>Iff.rfl⟩
  refine L8 Pc ((hPc _ _ _ _).mpr ⟨Same.refl _,rfl,none,rfl⟩) (by omega) (fun c ys σ4 H4 _ h4=>?_) (fun c ys σ4 H4 hc h4=>?_) (fun ys σ4 H4 h4 D hD=>?_)
  ·obtain⟨_,rfl,_⟩:=(hPc _ _ _ _).mp h4
   rw[List.length_map,List.length_map,List.length_range];exact Nat.le_refl _
  ·obtain⟨s4,rfl,o,rfl⟩:=(hPc _ _ _ _).mp h4
   rw[Int.zero_add]
   walk_at "rd"
   refine YT (σ':=[some (.int c)]) (fun i=>V.int ((rows.getD i []).getD c 0)) rfl (ha.mono s4) (by rw[hrw.1];omega) (fun i x hx R hR=>?_) (fun D hD=>?_)
   ·have hi:i<rows.length:=by rw[<-hrw.1];exact (List.getElem?_eq_some_iff.mp hx).1
    obtain⟨t,e1,e2⟩:=hrw.2 i rows[i] (by simp[hi])
    rw[hx]at e1
    cases e1
    have hcl:c<(rows[i]).length:=by rw[hrn _ (List.getElem_mem hi)];exact hc
    have er:rows.getD i []=rows[i]:=by rw[List.getD_eq_getElem?_getD,List.getElem?_eq_getElem hi];rfl
    rw[er,List.getD_eq_getElem?_getD,List.getElem?_eq_getElem hcl]at hR
    walk_at "rd"
    exact⟨_,s4.seqT e2,_,Fq (by omega) (v:=(rows[i])[c]) (by simp[hcl]),hR⟩
   ·rw[hrw.1,DY_] at *
    have sD:=Same.new hD (o:=.lst ((colW rows c).map V.int))
    walk_at "rd"
    refine⟨p,t2,false,b,D,am,colW rows c,rfl,hp,hb.mono (s4.trans sD),SqL.of Ac,by unfold colW;rw[List.length_map];exact hlen,by omega,h64,fun H5 s5=>(hPc _ _ _ _).mpr ⟨(s4.trans sD).trans s5,?_,_,rfl⟩⟩
    rw[List.range_succ,List.map_append,List.map_append];rfl
  ·obtain⟨s4,rfl,o,rfl⟩:=(hPc _ _ _ _).mp h4
   exact⟨D,rfl,_,.inl ⟨SqL.of Ac,fun q hq=>k q _ ((s4.newT hD).newT hq) Ac⟩⟩
def BasD (K:PySem.W.Frag)(H:Hp)(d:Addr)(bs:List (Nat×List Int)):Prop:=∃kvs:List (Key×V),Rd H d (.dK kvs)/\kvs.length=bs.length/\∀(i:Nat) (x:Nat×List Int),bs[i]?=some x->∃t,kvs[i]?=some (Sum.inl (x.1:Int),V.ref t)/\SqT K H t (x.2.map V.int)
theorem BasD.fz {K:PySem.W.Frag}{H H':Hp}{d e:Addr}{bs:List (Nat×List Int)}(h:BasD K H d bs)(s:FzAt e H H'):BasD K H' d bs:=by
 obtain⟨kvs,h1,h2,h3⟩:=h
 refine⟨kvs,s.rd h1,h2,fun i x hx=>?_⟩
 obtain⟨t,a,b⟩:=h3 i x hx
 exact⟨t,a,s.seqT b⟩
theorem BasD.mono {K:PySem.W.Frag}{H H':Hp}{d:Addr}{bs:List (Nat×List Int)}(h:BasD K H d bs)(s:Same H H'):BasD K H' d bs:=h.fz (FzAt.of (d:=d) s)
def Wl (K:PySem.W.Frag):Sp:=fun vs H Q _=>∃(a:Addr) (xs:List Int),vs=[.ref a]/\SqT K H a (xs.map V.int)/\xs.length<=900/\(∀(q:Nat) (H':Hp),Same H H'->q<xs.length->xs.getD q 0≠0->Q (.int q) H')/\∀H',Same H H'->(∀q:Nat,q<xs.length->xs.getD q 0=0)->Q .non H'
theorem Lk {f:Addr}{fd:FuncData}(F:Fun K "place_of_first" "place_of_first" AW f fd)(T:Txt mg)
  (Z:Exs K mg C_AskError C_BadWord C_NoInverse)
  : FnOk P w K mg base CX0 1 f fd ["row"] (Wl K):=by
 refine F.ok Ex (fun vs H Q E h=>?_) (fun cdv A outer s H vs Q E hr h=>?_)
 ·obtain⟨a,xs,rfl,_⟩:=h;rfl
 ·obtain⟨a,xs,rfl,ha,hz,k1,k2⟩:=h
  have hl:=Al
  refine⟨_,(Ad (CM PassesOwn.never rfl (P4 rfl T.enumerate (pv 0)) (VS rfl (DL (Ak (i:=1) Ex.nd rfl (Or.inl rfl)) (DL (Ak (i:=2) Ex.nd rfl (Or.inl rfl)) K4)))
   (Af (Et (Bc U2 (pv 2) Ag (BM _))
   (Af (Aq (pv 1)))
   Bb)))
   (Af (Aq Tg))),?_⟩
  walk_at "rd"
  obtain⟨Pv,hPv⟩:∃Pv:Nat->St->Hp->Prop,∀i σ' H',Pv i σ' H'↔(Same H H'/\(∀q:Nat,q<i->xs.getD q 0=0)/\∃o1 o2,σ'=[some (.ref a),o1,o2]):=⟨_,fun _ _ _=>Iff.rfl⟩
  refine⟨_,ha,forN Pv ((hPv _ _ _).mpr ⟨Same.refl _,fun q hq=>by omega,none,none,rfl⟩) (fun i σ' H' _ h'=>((hPv _ _ _).mp h').1.seqT ha) (fun i v σ' H' t hv h' ht=>?_) (fun σ' H' h'=>?_)⟩
  ·obtain⟨s1,h0,o1,o2,rfl⟩:=(hPv _ _ _).mp h'
   obtain⟨x,hx,rfl⟩:∃x,xs[i]?=some x/\v=.int x:=by
    rw[List.getElem?_map]at hv
    cases e:xs[i]? with
    |none=>rw[e]at hv;cases hv
    |some x=>rw[e]at hv;exact⟨x,rfl,(Option.some.inj hv).symm⟩
   have hi:i<xs.length:=(List.getElem?_eq_some_iff.mp hx).1
   have ex:xs.getD i 0=x:=by rw[List.getD_eq_getElem?_getD,hx];rfl
   walk_at "rd"
   refine⟨_,SqT.of Ac,rfl,_,_,rfl,_,_,rfl,rfl,rfl,?_⟩
   have s2:=s1.newT ht (o:=.tup [.int i,.int x])
   by_cases hx0:x=0
   ·rw[if_neg (by simp[hx0])]
    refine (hPv _ _ _).mpr ⟨s2,fun q hq=>?_,_,_,rfl⟩
    rcases Nat.lt_or_ge q i with h|h
    ·exact h0 q h
    ·rw[show q=i by omega,ex,hx0]
   ·rw[if_pos (by simp[hx0])]
    exact k1 i _ s2 hi (by rw[ex];exact hx0)
  ·obtain⟨s1,h0,o1,o2,rfl⟩:=(hPv _ _ _).mp h'
   walk_at "rd"
   exact k2 _ s1 (by simpa using h0)
def M9 (K:PySem.W.Frag):Sp:=fun vs H Q _=>∃(p:Int) (d r:Addr) (t:Bool) (bs:List (Nat×List Int)) (row:List Int),vs=[.int p,.ref d,.ref r]/\0<p/\p<2 ^ 62/\BasD K H d bs/\SqB K H t r (row.map V.int)/\row.length<=900/\(∀x∈bs,x.2.length=row.length/\x.1<row.length)/\∀q H',FzAt d H H'->SqT K H' q ((Ay p bs row).map V.int)->Q (.ref q) H'
theorem WU {f:Addr}{fd:FuncData}(F:Fun K "left_of" "left_of" DI f fd)(T:Txt mg)
  (Z:Exs K mg C_AskError C_BadWord C_NoInverse)
  {Eg:Addr} {Fy:FuncData} (Jc:FnOk P w K mg base CX0 1 Eg Fy ["p","factor","row"] (M8 K)) (F0:Fun K "scaled" "scaled" FW Eg Fy) (Jd:Binds K Fy ["p","factor","row"] []) (Je:mg "scaled"=some (.ref Eg))
  {JJ:Addr} {Qp:FuncData} (Vo:FnOk P w K mg base CX0 1 JJ Qp ["p","row","other"] (Wk K)) (Na:Fun K "added" "added" JG JJ Qp) (Vp:Binds K Qp ["p","row","other"] []) (Vq:mg "added"=some (.ref JJ))
  : FnOk P w K mg base CX0 2 f fd ["p","bases","row"] (M9 K):=by
 refine F.ok Gs (fun vs H Q E h=>?_) (fun cdv A outer s H vs Q E hr h=>?_)
 ·obtain⟨p,d,r,t,bs,row,rfl,_⟩:=h;rfl
 ·obtain⟨p,d,r,t,bs,row,rfl,hp,hp62,hB,hrow,hz,hbs,k⟩:=h
  have hl:=Al
  refine⟨_,(Ad (Ai (i:=3) Gs.nd rfl (Or.inl rfl) (Aw Ap rfl T.tuple PyProof.Rows.boot_tuple (Aa (BN rfl (Ck rfl) (cp:=MZ) ⟨⟨rfl,rfl⟩,True.intro⟩ (Yz (pv 2)) (fun _ _ _ _=>(Ak (i:=0) N7 rfl (Or.inl rfl))) (fun _ _ _ _=>BV) (fun _ _ _ _=>(An BR (pv 0) (pv 1)))) Ab)))
   (Ad (CM PassesOwn.never rfl (YY (pv 1)) (VS rfl (DL (Ak (i:=4) Gs.nd rfl (Or.inl rfl)) (DL (Ak (i:=5) Gs.nd rfl (Or.inl rfl)) K4)))
   (Af (Et (Bc U2 (Ax Au (pv 3) (pv 4) (fun _ _=>rfl)) Ag (BM _))
   (Af (Ai (i:=3) Gs.nd rfl (Or.inl rfl) (Ah Vo (hr.mono (by decide)) rfl Vq Na.kp Vp .nil Az (Aa (pv 0) (Aa (pv 3) (Aa (Ah Jc (hr.mono (by decide)) rfl Je F0.kp Jd .nil Az (Aa (pv 0) (Aa (XY Ti (Ax Au (pv 3) (pv 4) (fun _ _=>rfl))) (Aa (pv 5) Ab)))) Ab))))))
   Bb)))
   (Af (Aq (pv 3))))),?_⟩
  walk_at "rd"
  obtain⟨g,hg⟩:∃g:V->V,∀n:Int,g (V.int n)=.int (n%p):=⟨fun x=>match x with | .int n=>.int (n%p)|_=>.non,fun _=>rfl⟩
  refine Wa (σ':=[some (.int p)]) g rfl hrow (by rw[List.length_map];omega) (fun x hx R hR=>?_) (fun D hD=>?_)
  ·obtain⟨n,hn,rfl⟩:=List.mem_map.mp hx
   rw[hg]at hR
   walk_at "rd"
   exact⟨hp,hR⟩
  ·have em:(row.map V.int).map g=(row.map fun x=>x%p).map V.int:=by
    rw[List.map_map,List.map_map]
    exact List.map_congr_left fun n _=>hg n
   rw[em]
   refine⟨D,rfl,_,.inl ⟨SqL.of Ac,fun q hq=>?_⟩⟩
   have s0:=(Same.new hD (o:=.lst ((row.map fun x=>x%p).map V.int))).newT hq (o:=.tup ((row.map fun x=>x%p).map V.int))
   obtain⟨kvs,b1,b2,b3⟩:=hB.mono s0
   refine⟨kvs,b1,fun o H2 hfr hF=>?_⟩
   have hF0:FzAt d H H2:=(FzAt.of s0).trans hF
   obtain⟨Pv,hPv⟩:∃Pv:Nat->St->Hp->Prop,∀i σ' H',Pv i σ' H'↔(Same H2 H'/\∃(l:Addr) (o1 o2:Option V),SqT K H' l (((bs.take i).foldl (GO p) (row.map fun x=>x%p)).map V.int)/\σ'=[some (.int p),some (.ref d),some (.ref r),some (.ref l),o1,o2]):=⟨_,fun _ _ _=>Iff.rfl⟩
   have hlen:∀i:Nat,((bs.take i).foldl (GO p) (row.map fun x=>x%p)).length=row.length/\∀y∈(bs.take i).foldl (GO p) (row.map fun x=>x%p),0<=y/\y<p:=fun i=>⟨by
    have key:∀(bs:List (Nat×List Int)) (l:List Int),(∀x∈bs,x.2.length=l.length)->(bs.foldl (GO p) l).length=l.length:=fun bs=>by
     induction bs with
     |nil=>exact fun l _=>rfl
     |cons x bs ih=>
      intro l h
      have e:(GO p l x).length=l.length:=(Qk rfl (h x (List.mem_cons_self ..)) 0).1
      rw[List.foldl_cons,ih _ (fun y hy=>by rw[e];exact h y (List.mem_cons_of_mem _ hy)),e]
    rw[key _ _ fun x hx=>by rw[List.length_map];exact (hbs x (List.mem_of_mem_take hx)).1,List.length_map],GP hp row (bs.take i)⟩
   refine Eu_ Pv ((hPv _ _ _).mpr ⟨Same.refl _,q,none,none,by rw[List.take_zero];exact hF.seqT (SqT.of Ac),rfl⟩) (fun i σ' H' _ h'=>((hPv _ _ _).mp h').1 _ _ hfr) (fun i key v tt σ' H' hkv h' htt=>?_) (fun σ' H' h'=>?_)
   ·obtain⟨s1,lf,o1,o2,hlf,rfl⟩:=(hPv _ _ _).mp h'
    have hib:i<bs.length:=by rw[<-b2];exact (List.getElem?_eq_some_iff.mp hkv).1
    have hbi:bs[i]?=some bs[i]:=by simp[hib]
    obtain⟨bt,hbt,hbase⟩:=b3 i _ hbi
    rw[hkv]at hbt
    cases hbt
    have hmem:bs[i]∈bs:=List.getElem_mem hib
    have hbl:=hbs _ hmem
    obtain⟨ll,lin⟩:=hlen i
    have etk:(bs.take (i+1)).foldl (GO p) (row.map fun x=>x%p)=GO p ((bs.take i).foldl (GO p) (row.map fun x=>x%p)) bs[i]:=by
     rw[List.take_succ_eq_append_getElem hib,List.foldl_append];rfl
    have hbase':SqT K H' bt (bs[i].2.map V.int):=s1.seqT (hF.seqT hbase)
    generalize (bs.take i).foldl (GO p) (row.map fun x=>x%p)=left at ll lin hlf etk
    generalize bs[i]=x at hbl hbase' etk hkv
    obtain⟨pl,xb⟩:=x
    have g:=getD_in hp lin pl
    have s2:=Same.new htt (o:=.tup [kV (Sum.inl (pl:Int)),.ref bt])
    have hpl:pl<left.length:=by rw[ll];exact hbl.2
    walk_at "rd"
    refine⟨_,SqT.of Ac,rfl,_,_,rfl,_,_,rfl,rfl,?_⟩
    refine⟨_,(pl:Int),rfl,s2.seqT hlf,_,MC hpl,rfl,?_⟩
    have hxl:xb.length=row.length:=hbl.1
    by_cases h0:left.getD pl 0=0
    ·rw[if_neg (by rw[h0];simp)]
     refine (hPv _ _ _).mpr ⟨s1.trans s2,lf,_,_,?_,rfl⟩
     rw[etk]
     unfold GO
     rw[if_pos h0];exact s2.seqT hlf
    ·rw[if_pos (by simp only[V.int.injEq,Bool.not_eq_eq_eq_not,Bool.not_true,decide_eq_false_iff_not];exact h0)]
     refine⟨_,(pl:Int),rfl,s2.seqT hlf,_,MC hpl,_,rfl,p,-left.getD pl 0,true,bt,xb,rfl,hp,⟨by omega,by omega⟩,s2.seqT hbase',by omega,fun q1 H4 s4 hq1=>⟨p,true,true,lf,q1,left,_,rfl,hp,(s2.trans s4).seqT hlf,SqT.of hq1,by rw[List.length_map];omega,by omega,fun q5 H5 s5 hq5=>(hPv _ _ _).mpr ⟨s1.trans (s2.trans (s4.trans s5)),q5,_,_,?_,rfl⟩⟩⟩
     rw[etk]
     unfold GO
     rw[if_neg h0];exact SqT.of hq5
   ·obtain⟨s1,lf,o1,o2,hlf,rfl⟩:=(hPv _ _ _).mp h'
    rw[b2,List.take_length]at hlf
    walk_at "rd"
    exact k lf _ (hF0.trans (FzAt.of s1)) hlf
theorem Bs.nodup {p:Int}{n:Nat}{bs:List (Nat×List Int)}(h:Bs p n bs):(bs.map (·.1)).Nodup:=by
 refine List.pairwise_map.mpr ((List.Pairwise.and_mem.mp h.off).imp fun {x y} g e=>?_)
 obtain⟨hx,hy,g1,_⟩:=g
 rw[<-e,h.own x hx]at g1
 exact absurd g1 (by decide)
def Ct_ (K:PySem.W.Frag):Sp:=fun vs H Q _=>∃(p:Int) (d l:Addr) (q:Nat) (bs:List (Nat×List Int)) (left:List Int),vs=[.int p,.ref d,.ref l,.int q]/\Pr p/\BasD K H d bs/\SqT K H l (left.map V.int)/\q<left.length/\left.length<=900/\0<left.getD q 0/\left.getD q 0<p/\bs.length<=900/\(∀x∈bs,x.2.length=left.length/\x.1<left.length)/\(bs.map (·.1)).Nodup/\q∉bs.map (·.1)/\∀m inv H',FzAt d H H'->0<=inv->inv<p->inv*left.getD q 0%p=1->BasD K H' m (Qn p inv bs left q)->H m=none->Q (.ref m) H'
def PutD (K:PySem.W.Frag)(H:Hp)(d:Addr)(bs:List (Nat×List Int)):Prop:=Ents K H d (bs.map fun x=>((x.1:Int),x.2))
theorem PutD.bas {K:PySem.W.Frag}{H:Hp}{d:Addr}{bs:List (Nat×List Int)}(h:PutD K H d bs):BasD K H d bs:=by
 obtain⟨kvs,h1,h2,h3⟩:=h
 refine⟨kvs,.inl h1,by rw[h2,List.length_map],fun i x hx=>?_⟩
 exact h3 i ((x.1:Int),x.2) (by rw[List.getElem?_map,hx];rfl)
theorem PutD.fz {K:PySem.W.Frag}{H H':Hp}{d e:Addr}{bs:List (Nat×List Int)}(h:PutD K H d bs)(s:FzAt e H H')(hne:d≠e):PutD K H' d bs:=by
 obtain⟨kvs,h1,h2,h3⟩:=h
 refine⟨kvs,s.1 _ _ hne h1,h2,fun i x hx=>?_⟩
 obtain⟨t,a,b⟩:=h3 i x hx
 exact⟨t,a,s.seqT b⟩
theorem PutD.put {K:PySem.W.Frag}{H:Hp}{d t:Addr}{bs:List (Nat×List Int)}{q:Nat}{v:List Int}(h:PutD K H d bs)(hq:q∉bs.map (·.1))(hz:bs.length<1000)(ht:SqT K H t (v.map V.int)):∃H',DPut H d (.int q) (.ref t) H'/\(∃kvs kvs',H d=some (.dK kvs)/\H'=upd H d (.dK kvs'))/\PutD K H' d (bs++[(q,v)]):=by
 have:=Ents.put (g:=(q:Int)) (w:=v) h (fun hm=>hq (by
  rw[List.map_map]at hm
  obtain⟨x,hx,e⟩:=List.mem_map.mp hm
  exact List.mem_map.mpr ⟨x,hx,by have:((x.1:Int))=(q:Int):=e;omega⟩)) (by rw[List.length_map];exact hz) ht
 obtain⟨H',a,b,c⟩:=this
 exact⟨H',a,b,by unfold PutD;rw[List.map_append];exact c⟩
theorem PutD.nil {K:PySem.W.Frag}{H:Hp}{d:Addr}(h:H d=some (.dK [])):PutD K H d []:=⟨[],h,rfl,fun i x hx=>by simp at hx⟩
theorem BasD.get {K:PySem.W.Frag}{H:Hp}{d:Addr}{bs:List (Nat×List Int)}(h:BasD K H d bs)(nod:(bs.map (·.1)).Nodup){x:Nat×List Int}(hx:x∈bs):∃t,DGet H d (.int x.1) (some (.ref t))/\SqT K H t (x.2.map V.int):=by
 obtain⟨kvs,h1,h2,h3⟩:=h
 obtain⟨i,hi,ei⟩:=List.getElem_of_mem hx
 have ei':bs[i]?=some x:=by rw[List.getElem?_eq_getElem hi,ei]
 obtain⟨t,a,b⟩:=h3 i _ ei'
 refine⟨t,?_,b⟩
 have hf:valV kvs (Sum.inl (x.1:Int):Key)=some (.ref t):=by
  unfold valV
  cases hq:kvs.find? (fun kv=>decide (kv.1=(Sum.inl (x.1:Int):Key))) with
  |none=>
   rw[List.find?_eq_none]at hq
   have:=hq _ (List.mem_of_getElem? a)
   simp at this
  |some kv=>
   have hk:=List.find?_some hq
   simp only[decide_eq_true_eq]at hk
   obtain⟨j,hj,ej⟩:=List.getElem_of_mem (List.mem_of_find?_eq_some hq)
   have hj':j<bs.length:=by omega
   obtain⟨t',a',b'⟩:=h3 j bs[j] (by simp[hj'])
   have e2:kvs[j]?=some kv:=by rw[List.getElem?_eq_getElem hj,ej]
   rw[e2]at a'
   have a2:kv=(Sum.inl (bs[j].1:Int),V.ref t'):=Option.some.inj a'
   rw[a2]at hk
   have hk':bs[j].1=x.1:=by injection hk with hk;omega
   have ij:i=j:=by
    refine (List.getElem_inj (h₀:=by simpa using hi) (h₁:=by simpa using hj') nod).mp ?_
    simp[ei,hk']
   subst ij
   rw[e2]at a
   have a3:kv=(Sum.inl (x.1:Int),V.ref t):=Option.some.inj a
   rw[a3];rfl
 exact .inl ⟨kvs,Sum.inl (x.1:Int),h1,rfl,hf.symm⟩
theorem SqT.offm {K:PySem.W.Frag}{H H':Hp}{m t:Addr}{xs:List V}{kv:List (Key×V)}(h:SqT K H t xs)(hm:H m=some (.dK kv))(s:∀a u,a≠m->H a=some u->H' a=some u):SqT K H' t xs:=by
 rcases h with (q|⟨o,q⟩)|q
 ·exact .inl (.inl (s _ _ (fun z=>by rw[z,hm]at q;cases q) q))
 ·exact .inl (.inr ⟨o,s _ _ (fun z=>by rw[z,hm]at q;cases q) q⟩)
 ·exact .inr q
theorem BasD.offm {K:PySem.W.Frag}{H H':Hp}{m d:Addr}{bs:List (Nat×List Int)}{kv:List (Key×V)}(h:BasD K H d bs)(hm:H m=some (.dK kv))(hd:d≠m)(s:∀a u,a≠m->H a=some u->H' a=some u):BasD K H' d bs:=by
 obtain⟨kvs,h1,h2,h3⟩:=h
 refine⟨kvs,?_,h2,fun i x hx=>?_⟩
 ·rcases h1 with h1|⟨o,h1⟩
  ·exact .inl (s _ _ hd h1)
  ·exact .inr ⟨o,s _ _ hd h1⟩
 ·obtain⟨t,a,b⟩:=h3 i x hx
  exact⟨t,a,SqT.offm b hm s⟩
theorem T1 {f:Addr}{fd:FuncData}(F:Fun K "with_base" "with_base" CQ f fd)(T:Txt mg)
  (Z:Exs K mg C_AskError C_BadWord C_NoInverse)
  {Fz:Addr} {Ll:FuncData} (Nb:FnOk P w K mg base (CXe P w) 1 Fz Ll ["p","number"] (Pb C_NoInverse)) (HW:Fun K "inverse" "inverse" Fs Fz Ll) (Nd:Binds K Ll ["p","number"] []) (Nf:mg "inverse"=some (.ref Fz))
  {Eg:Addr} {Fy:FuncData} (Jc:FnOk P w K mg base CX0 1 Eg Fy ["p","factor","row"] (M8 K)) (F0:Fun K "scaled" "scaled" FW Eg Fy) (Jd:Binds K Fy ["p","factor","row"] []) (Je:mg "scaled"=some (.ref Eg))
  {A5:Addr} {Be:FuncData} (CB:FnOk P w K mg base CX0 2 A5 Be ["p","bases","row"] (M9 K)) (BZ:Fun K "left_of" "left_of" DI A5 Be) (CC:Binds K Be ["p","bases","row"] []) (CD:mg "left_of"=some (.ref A5))
  : FnOk P w K mg base CX0 3 f fd ["p","bases","left","place"] (Ct_ K):=by
 refine F.ok FX (fun vs H Q E h=>?_) (fun cdv A outer s H vs Q E hr h=>?_)
 ·obtain⟨p,d,l,q,bs,left,rfl,_⟩:=h;rfl
 ·obtain⟨p,d,l,q,bs,left,rfl,hp,hB,hL,hq,hz,h0,h1,hbz,hbs,nod,hqn,k⟩:=h
  have hl:=Al
  have hp1:=hp.1
  have hp2:=hp.2.1
  have em:left.getD q 0%p=left.getD q 0:=Int.emod_eq_of_lt (by omega) h1
  refine⟨_,(Ad (Ai (i:=4) FX.nd rfl (Or.inl rfl) (Ah Jc (hr.mono (by decide)) rfl Je F0.kp Jd .nil Az (Aa (pv 0) (Aa (Ah Nb (hr.mono (by decide)) rfl Nf HW.kp Nd .nil (Vb (P:=P) (w:=w)) (Aa (pv 0) (Aa (Ax Au (pv 2) (pv 3) (fun _ _=>rfl)) Ab))) (Aa (pv 2) Ab)))))
   (Ad (Ai (i:=5) FX.nd rfl (Or.inl rfl) PQ)
   (Ad (CM PassesOwn.never rfl (Z6 (pv 1)) (Ak (i:=6) FX.nd rfl (Or.inl rfl))
   (Af (U7 (ZC hr) (pv 5) (pv 6) (Ah CB (hr.mono (by decide)) rfl CD BZ.kp CC .nil Az (Aa (pv 0) (Aa (ZP (pv 3) (pv 4)) (Aa (BW_ (ZC hr) (pv 1) (pv 6) (fun _ _=>rfl)) Ab)))) rfl)))
   (Ad (U7 (ZC hr) (pv 5) (pv 3) (pv 4) rfl)
   (Af (Aq (pv 5))))))),?_⟩
  walk_at "rd"
  refine⟨_,hL,_,MC hq,p,_,rfl,hp1,hp2,fun z=>by rw[em]at z;omega,fun _=>⟨by rw[em];exact hp.gcd h0 h1,fun inv i0 i1 hinv=>?_⟩⟩
  walk_at "rd"
  refine⟨p,inv,true,l,left,rfl,by omega,⟨by omega,by omega⟩,hL,hz,fun b H1 s1 hb=>?_⟩
  walk_at "rd"
  intro m hm
  obtain⟨base,hbase⟩:∃base:List Int,base=left.map fun y=>inv*y%p:=⟨_,rfl⟩
  rw[<-hbase]at hb
  have hm0:H m=none:=by
   cases e:H m with
   |none=>rfl
   |some u=>rw[s1 _ _ e]at hm;cases hm
  have s2:=s1.trans (Same.new hm (o:=.dK []))
  obtain⟨kvs,b1,b2,b3⟩:=hB.mono s2
  refine⟨kvs,b1,fun o H3 hfr hF=>?_⟩
  have hdm:d≠m:=fun z=>by
   subst z
   obtain⟨kvs0,c1,_⟩:=hB
   rcases c1 with c1|⟨o',c1⟩
   ·rw[hm0]at c1;cases c1
   ·rw[hm0]at c1;cases c1
  have hb3:H3 b=some (.tup (base.map V.int)):=by
   have:upd H1 m (.dK []) b=some (.tup (base.map V.int)):=(Same.new hm) _ _ hb
   exact (hF.1 b _ (fun z=>by
    subst z
    rcases b1 with c1|⟨o',c1⟩
    ·rw[this]at c1;cases c1
    ·rw[this]at c1;cases c1) this)
  have hm3:H3 m=some (.dK []):=hF.1 m _ (Ne.symm hdm) Ac
  have hB3:BasD K H3 d bs:=BasD.fz ⟨kvs,b1,b2,b3⟩ hF
  have hqn':q<left.length:=hq
  obtain⟨Pv,hPv⟩:∃Pv:Nat->St->Hp->Prop,∀i σ' H',Pv i σ' H'↔((∀a u,a≠m->H3 a=some u->H' a=some u)/\PutD K H' m ((bs.take i).map fun x=>(x.1,Ay p [(q,base)] x.2))/\∃o1,σ'=[some (.int p),some (.ref d),some (.ref l),some (.int q),some (.ref b),some (.ref m),o1]):=⟨_,fun _ _ _=>Iff.rfl⟩
  have hbaseLen:base.length=left.length:=by rw[hbase,List.length_map]
  refine Et_ Pv ((hPv _ _ _).mpr ⟨fun a u _ h=>h,PutD.nil hm3,none,rfl⟩) (fun i σ' H' _ h'=>((hPv _ _ _).mp h').1 d _ hdm hfr) (fun i key v σ' H' hkv h'=>?_) (fun σ' H' h'=>?_)
  ·obtain⟨s3,hP,o1,rfl⟩:=(hPv _ _ _).mp h'
   have hib:i<bs.length:=by rw[<-b2];exact (List.getElem?_eq_some_iff.mp hkv).1
   have hbi:bs[i]?=some bs[i]:=by simp[hib]
   obtain⟨t,ht,_⟩:=b3 i _ hbi
   rw[hkv]at ht
   cases ht
   have hmem:bs[i]∈bs:=List.getElem_mem hib
   have etk:bs.take (i+1)=bs.take i++[bs[i]]:=List.take_succ_eq_append_getElem hib
   have hnk:bs[i].1∉(bs.take i).map (·.1):=fun hm=>by
    rw[List.map_take]at hm
    obtain⟨j,hj1,hj2⟩:=List.mem_take_iff_getElem.mp hm
    have:(bs.map (·.1))[j]'(by omega)=(bs.map (·.1))[i]'(by rw[List.length_map];exact hib):=by rw[hj2];simp
    have:=(List.getElem_inj nod).mp this
    omega
   have hbl:=hbs _ hmem
   generalize bs[i]=x at hmem etk hnk hbl hkv
   obtain⟨pl,xb⟩:=x
   walk_at "rd"
   intro e he
   have sE:=Same.new he (o:=.dK (LM [] [((Sum.inl (q:Int):Key),V.ref b)]))
   have hB':=(hB3.offm hm3 hdm s3).mono sE
   have hb':=sE.seqT (SqT.offm (SqT.of (K:=K) hb3) hm3 s3)
   refine⟨Ac,[((Sum.inl (q:Int):Key),V.ref b)],rfl,Nat.le_of_ble_eq_true rfl,?_⟩
   rw[BL_]
   obtain⟨t',hget,hrow⟩:=hB'.get nod hmem
   have hne:m≠e:=fun z=>by
    subst z
    obtain⟨kk,h1,_⟩:=hP
    rw[he]at h1;cases h1
   have hxl:xb.length=left.length:=hbl.1
   refine⟨_,hget,p,e,t',true,[(q,base)],xb,rfl,by omega,by omega,⟨_,.inl Ac,rfl,fun j x hx=>?_⟩,hrow,by omega,fun x hx=>?_,fun q1 H4 hF4 hq1=>?_⟩
   ·have hj:j=0:=by
     have:=(List.getElem?_eq_some_iff.mp hx).1
     simp at this;omega
    subst hj
    cases hx
    exact⟨b,rfl,hb'⟩
   ·rw[List.mem_singleton.mp hx];exact⟨hbaseLen.trans hxl.symm,by omega⟩
   ·have hP4:PutD K H4 m ((bs.take i).map fun x=>(x.1,Ay p [(q,base)] x.2)):=(hP.fz (FzAt.of sE) hne).fz hF4 hne
    obtain⟨H5,g1,⟨kv1,kv2,g2,rfl⟩,g3⟩:=hP4.put (q:=pl) (v:=Ay p [(q,base)] xb) (t:=q1) (by rw[List.map_map];exact hnk) (by rw[List.length_map,List.length_take];omega) hq1
    refine⟨_,g1,(hPv _ _ _).mpr ⟨fun a u ha h=>?_,by rw[etk,List.map_append];exact g3,_,rfl⟩⟩
    rw[Av ha]
    exact hF4.1 a u (fun z=>by have:=s3 a u ha h;rw[z,he]at this;cases this) (sE _ _ (s3 a u ha h))
  ·obtain⟨s3,hP,o1,rfl⟩:=(hPv _ _ _).mp h'
   rw[b2,List.take_length]at hP
   walk_at "rd"
   obtain⟨H5,g1,⟨kv1,kv2,g2,rfl⟩,g3⟩:=hP.put (q:=q) (v:=base) (t:=b) (by rw[List.map_map];exact hqn) (by rw[List.length_map];omega) (SqT.offm (SqT.of (K:=K) hb3) hm3 s3)
   refine⟨_,g1,k m inv _ ⟨fun a u ha h=>?_,fun u h=>?_⟩ i0 i1 hinv (by
    have ew:Qn p inv bs left q=(bs.map fun x=>(x.1,Ay p [(q,base)] x.2))++[(q,base)]:=by rw[hbase];rfl
    rw[ew];exact g3.bas) hm0⟩
   ·have ham:a≠m:=fun z=>by rw[z,hm0]at h;cases h
    rw[Av ham]
    exact s3 a u ham (hF.1 a u ha (s2 _ _ h))
   ·rw[Av hdm]
    rcases hF.2 u (s2 _ _ h) with h' | ⟨kvs,o,e,h'⟩
    ·exact .inl (s3 _ _ hdm h')
    ·exact .inr ⟨kvs,o,e,s3 _ _ hdm h'⟩
def natV (ks:List Nat):List V:=ks.map fun (k:Nat)=>V.int (k:Int)
def BC_ (K:PySem.W.Frag):Sp:=fun vs H Q _=>∃(p:Int) (t:Bool) (a:Addr) (m n:Nat) (xs:List V) (rows:List (List Int)),vs=[.int p,.ref a,.int m]/\Pr p/\SqB K H t a xs/\AS K H xs rows/\(∀r∈rows,r.length=n)/\m<=n/\n<=900/\rows.length<=900/\∀q l d bs H',Same H H'->SqT K H' q [.ref l,.ref d]->H' l=some (.lst (natV (Fx p m rows)))->BasD K H' d bs->Seen p n m rows bs->H d=none->H l=none->Q (.ref q) H'
theorem BasD.offl {K:PySem.W.Frag}{H:Hp}{p d:Addr}{bs:List (Nat×List Int)}{zs ys:List V}(h:BasD K H d bs)(hp:H p=some (.lst zs)):BasD K (upd H p (.lst ys)) d bs:=by
 obtain⟨kvs,h1,h2,h3⟩:=h
 refine⟨kvs,?_,h2,fun i x hx=>?_⟩
 ·rcases h1 with h1|⟨o,h1⟩
  ·exact .inl (by rw[Av (fun z=>by rw[z,hp]at h1;cases h1)];exact h1)
  ·exact .inr ⟨o,by rw[Av (fun z=>by rw[z,hp]at h1;cases h1)];exact h1⟩
 ·obtain⟨t,a,b⟩:=h3 i x hx
  exact⟨t,a,AO hp b⟩
theorem Same.gone {H H':Hp}{a:Addr}(s:Same H H')(h:H' a=none):H a=none:=by
 cases e:H a with
 |none=>rfl
 |some u=>rw[s _ _ e]at h;cases h
theorem T2 (p inv:Int)(bs:List (Nat×List Int))(left:List Int)(q:Nat):(Qn p inv bs left q).length=bs.length+1:=by unfold Qn;simp
theorem JK {f:Addr}{fd:FuncData}(F:Fun K "chosen_and_bases" "chosen_and_bases" A3 f fd)(T:Txt mg)
  (Z:Exs K mg C_AskError C_BadWord C_NoInverse)
  {Ar:Addr} {AA:FuncData} (AX:FnOk P w K mg base CX0 1 Ar AA ["row"] (Wl K)) (AG:Fun K "place_of_first" "place_of_first" AW Ar AA) (AY:Binds K AA ["row"] []) (AZ:mg "place_of_first"=some (.ref Ar))
  {A5:Addr} {Be:FuncData} (CB:FnOk P w K mg base CX0 2 A5 Be ["p","bases","row"] (M9 K)) (BZ:Fun K "left_of" "left_of" DI A5 Be) (CC:Binds K Be ["p","bases","row"] []) (CD:mg "left_of"=some (.ref A5))
  {BF:Addr} {Dc:FuncData} (EA:FnOk P w K mg base CX0 3 BF Dc ["p","bases","left","place"] (Ct_ K)) (Dd:Fun K "with_base" "with_base" CQ BF Dc) (EB:Binds K Dc ["p","bases","left","place"] []) (EC:mg "with_base"=some (.ref BF))
  : FnOk P w K mg base CX0 4 f fd ["p","rows","size"] (BC_ K):=by
 refine F.ok AI (fun vs H Q E h=>?_) (fun cdv A outer s H vs Q E hr h=>?_)
 ·obtain⟨p,t,a,m,n,xs,rows,rfl,_⟩:=h;rfl
 ·obtain⟨p,t,a,m,n,xs,rows,rfl,hp,ha,hR,hrn,hmn,hn,hz,k⟩:=h
  have hl:=Al
  have hp1:=hp.1
  have hp2:=hp.2.1
  refine⟨_,(Ad (Ai (i:=3) AI.nd rfl (Or.inl rfl) (Fo Ab))
   (Ad (Ai (i:=4) AI.nd rfl (Or.inl rfl) PQ)
   (Ad (CM PassesOwn.never rfl (DV_ (V6 rfl T.enumerate (pv 1)) (P4 rfl T.enumerate (pv 1))) (VS rfl (DL (Ak (i:=5) AI.nd rfl (Or.inl rfl)) (DL (Ak (i:=6) AI.nd rfl (Or.inl rfl)) K4)))
   (Ad (Ai (i:=7) AI.nd rfl (Or.inl rfl) (Ah CB (hr.mono (by decide)) rfl CD BZ.kp CC .nil Az (Aa (pv 0) (Aa (pv 4) (Aa (pv 6) Ab)))))
   (Ad (Ai (i:=8) AI.nd rfl (Or.inl rfl) (Ah AX (hr.mono (by decide)) rfl AZ AG.kp AY .nil Az (Aa (J3 MV (pv 7) ML (MM (pv 2))) Ab)))
   (Af (Et (Bc X2 (pv 8) Tg (BM _))
   (Ad (DO (J5 PySem.F.plainAttrs_list PySem.F.slot_list_append PySem.F.type_list_append BS (pv 3) (Aa (pv 5) Ab)))
   (Af (Ai (i:=4) AI.nd rfl (Or.inl rfl) (Ah EA (hr.mono (by decide)) rfl EC Dd.kp EB .nil Az (Aa (pv 0) (Aa (pv 4) (Aa (pv 7) (Aa (pv 8) Ab))))))))
   Bb)))))
   (Af (Aq (Cj (Aa (pv 3) (Aa (pv 4) Ab)))))))),?_⟩
  walk_at "rd"
  refine⟨Nat.zero_le _,fun l hl0 d0 hd0=>?_⟩
  have s0:=(Same.new hl0 (o:=.lst [])).newT hd0 (o:=.dK [])
  have hd00:H d0=none:=by
   cases e:H d0 with
   |none=>rfl
   |some u=>rw[(Same.new hl0 (o:=.lst [])) _ _ e]at hd0;cases hd0
  have hne:l≠d0:=fun z=>by subst z;rw[Ac]at hd0;cases hd0
  obtain⟨Pv,hPv⟩:∃Pv:Nat->St->Hp->Prop,∀i σ' H',Pv i σ' H'↔(Same H H'/\H' l=some (.lst (natV (Fx p m (rows.take i))))/\∃(d:Addr) (bs:List (Nat×List Int)) (o1 o2 o3 o4:Option V),H d=none/\BasD K H' d bs/\Seen p n m (rows.take i) bs/\bs.length<=i/\σ'=[some (.int p),some (.ref a),some (.int m),some (.ref l),some (.ref d),o1,o2,o3,o4]):=⟨_,fun _ _ _=>Iff.rfl⟩
  refine forE (ha.mono s0) Pv ((hPv _ _ _).mpr ⟨s0,by rw[Av hne,Ac];rfl,d0,[],none,none,none,none,hd00,PutD.bas (PutD.nil Ac),⟨⟨by simp,by simp,.nil⟩,by simp,by simp,by simp⟩,Nat.le_refl _,rfl⟩) (fun i σ' H' _ h'=>ha.mono ((hPv _ _ _).mp h').1) (fun i v σ' H' q hv h' hq=>?_) (fun σ' H' h'=>?_)
  ·obtain⟨s1,hl1,d,bs,o1,o2,o3,o4,hd,hB,hS,hbz,rfl⟩:=(hPv _ _ _).mp h'
   have hi:i<rows.length:=by rw[<-hR.1];exact (List.getElem?_eq_some_iff.mp hv).1
   have hri:rows[i]?=some rows[i]:=by simp[hi]
   obtain⟨tr,ht,hrow⟩:=hR.2 i _ hri
   rw[hv]at ht
   cases ht
   have hrl:=hrn _ (List.getElem_mem hi)
   have etk:rows.take (i+1)=rows.take i++[rows[i]]:=(List.take_succ_eq_append_getElem hi)
   generalize rows[i]=row at hrow hrl etk
   walk_at "rd"
   have s2:=Same.new hq (o:=.tup [.int i,.ref tr])
   refine⟨_,SqT.of Ac,rfl,_,_,rfl,_,_,rfl,rfl,p,d,tr,true,bs,row,rfl,by omega,by omega,hB.mono s2,s2.seqT (s1.seqT hrow),by omega,fun x hx=>by rw[hrl];exact⟨(hS.b.len x hx).1,(hS.b.len x hx).2.1⟩,fun q1 H3 hF3 hq1=>⟨q1,rfl,_,hq1,fun p1 H4 s4 hp1'=>?_⟩⟩
   rw[O7,<-List.map_take]at hp1'
   have hiff:=hS.iff (by omega) hmn hrl
   have hll:=(Ef row hrl bs hS.b).1
   have hlin:=GP (p:=p) (by omega) row bs
   have hown:=Qm (p:=p) (by omega) hrl hS.b
   have hmore:=fun (inv:Int) (qq:Nat) (h1:qq<m) (h2:inv*(Ay p bs row).getD qq 0%p=1)=>hS.more (inv:=inv) hp1 hmn hrl h1 h2
   have hsame:=hS.same hrl
   generalize Ay p bs row=left at hq1 hp1' hiff hll hlin hown hmore hsame
   have htk:∀qq:Nat,qq<m->(left.take m).getD qq 0=left.getD qq 0:=fun qq hqq=>by
    rw[List.getD_eq_getElem?_getD,List.getElem?_take,if_pos hqq,<-List.getD_eq_getElem?_getD]
   have hlt:(left.take m).length=m:=by rw[List.length_take];omega
   have hl3:=hF3.lst (s2 _ _ hl1)
   have hti:(rows.take i).length=i:=by rw[List.length_take];omega
   have hcl:(Fx p m (rows.take i)).length<=i:=by
    unfold Fx
    refine Nat.le_trans (List.length_filter_le _ _) ?_
    rw[List.length_range,hti];exact Nat.le_refl _
   refine⟨p1,left.take m,rfl,hp1',by omega,fun qn H5 s5 hqn hq0=>?_,fun H5 s5 hall=>?_⟩
   ·rw[hlt]at hqn
    rw[htk qn hqn]at hq0
    rw[if_pos (by simp)]
    have hl5:=s5 _ _ (s4 _ _ hl3)
    have g:=getD_in (show 0<p by omega) hlin qn
    have hsp:¬ Span p m (rows.take i) fun j=>row.getD j 0:=fun z=>hq0 (hiff.mpr z qn hqn)
    have hB5:=((hB.mono s2).fz hF3).mono (s4.trans s5)
    have hS5:Same H H5:=(hF3.same (s1.trans s2) hd).trans (s4.trans s5)
    have hne:d≠l:=fun z=>by
     obtain⟨kk,c1,_⟩:=hB
     rcases c1 with c1|⟨o,c1⟩
     ·rw[z,hl1]at c1;cases c1
     ·rw[z,hl1]at c1;cases c1
    refine⟨.inl ⟨rfl,_,SqL.of hl5⟩,_,hl5,by unfold natV;rw[List.length_map];omega,p,d,q1,qn,bs,left,rfl,hp,hB5.offl hl5,AO hl5 ((s4.trans s5).seqT hq1),by omega,by omega,by omega,g.2,by omega,fun x hx=>by rw[hll];exact⟨(hS.b.len x hx).1,(hS.b.len x hx).2.1⟩,hS.b.nodup,fun hm=>?_,fun m' inv H7 hF7 i0 i1 hinv hB7 hm7=>?_⟩
    ·obtain⟨x,hx,e⟩:=List.mem_map.mp hm
     exact hq0 (by rw[<-e];exact hown x hx)
    ·have hS6:Same H (upd H5 l (.lst (natV (Fx p m (rows.take i))++[V.int i]))):=hS5.over hl0
     refine (hPv _ _ _).mpr ⟨hF7.same hS6 hd,?_,m',_,_,_,_,_,Mine.Same.gone hS6 hm7,hB7,by rw[etk];exact hmore inv qn hqn hinv,by rw[T2];omega,rfl⟩
     rw[hF7.lst Ac,etk,GQ,if_neg hsp,hti]
     unfold natV
     rw[List.map_append];rfl
   ·show if (!decide (V.non=V.non))=true then _ else _
    rw[if_neg (by simp)]
    have hz0:∀j:Nat,j<m->left.getD j 0=0:=fun j hj=>by rw[<-htk j hj];exact hall j (by omega)
    have hsp:=hiff.mp hz0
    refine (hPv _ _ _).mpr ⟨(hF3.same (s1.trans s2) hd).trans (s4.trans s5),?_,d,bs,_,_,_,_,hd,((hB.mono s2).fz hF3).mono (s4.trans s5),by rw[etk];exact hsame hz0,by omega,rfl⟩
    rw[s5 _ _ (s4 _ _ hl3),etk,GQ,if_pos hsp,List.append_nil]
  ·obtain⟨s1,hl1,d,bs,o1,o2,o3,o4,hd,hB,hS,hbz,rfl⟩:=(hPv _ _ _).mp h'
   rw[hR.1,List.take_length]at hl1 hS
   walk_at "rd"
   refine⟨by omega,fun q hq=>?_⟩
   have s2:=Same.new hq (o:=.tup [.ref l,.ref d])
   exact k q l d bs _ (s1.trans s2) (SqT.of Ac) (s2 _ _ hl1) (hB.mono s2) hS hd hl0
def Qq (K:PySem.W.Frag):Sp:=fun vs H Q _=>∃(n:Nat) (k:Nat),vs=[.int n,.int k]/\n<=900/\∀q H',Same H H'->SqT K H' q ((BO n k).map V.int)->Q (.ref q) H'
theorem Cu_ {f:Addr}{fd:FuncData}(F:Fun K "unit" "unit" J9 f fd)(T:Txt mg)
  (Z:Exs K mg C_AskError C_BadWord C_NoInverse)
  : FnOk P w K mg base CX0 1 f fd ["size","place"] (Qq K):=by
 refine F.ok Cp_ (fun vs H Q E h=>?_) (fun cdv A outer s H vs Q E hr h=>?_)
 ·obtain⟨n,k,rfl,_⟩:=h;rfl
 ·obtain⟨n,c,rfl,hn,k⟩:=h
  have hl:=Al
  refine⟨_,(Af (Aq (Aw Ap rfl T.tuple PyProof.Rows.boot_tuple (Aa (BN rfl (Ck rfl) (cp:=Wi) ⟨⟨rfl,rfl⟩,True.intro⟩ (A0 rfl T.range (Aa (pv 0) Ab)) (fun _ _ _ _=>(Ak (i:=0) Vk rfl (Or.inl rfl))) (fun _ _ _ _=>BV) (fun _ _ _ _=>(VR (Bc U1 (pv 0) (pv 1) (BM _)) Ag Ag))) Ab)))),?_⟩
  walk_at "rd"
  refine⟨by omega,by omega,?_⟩
  rw[Int.toNat_natCast]
  refine L8 (fun j zs σ4 H4=>H4=H/\zs=(((List.range j).map fun i=>if i=c then (1:Int) else 0)).map V.int/\∃o,σ4=[o,some (.int c)]) ⟨rfl,rfl,none,rfl⟩ (by omega) (fun j zs σ4 H4 _ h4=>?_) (fun j zs σ4 H4 hj h4=>?_) (fun zs σ4 H4 h4 D hD=>?_)
  ·rw[h4.2.1,List.length_map,List.length_map,List.length_range];exact Nat.le_refl _
  ·obtain⟨rfl,rfl,o,rfl⟩:=h4
   rw[Int.zero_add]
   walk_at "rd"
   rw[List.range_succ,List.map_append,List.map_append]
   by_cases hjc:j=c
   ·rw[if_pos (by rw[hjc])]
    exact⟨by rw[List.map_singleton,if_pos hjc];rfl,_,rfl⟩
   ·rw[if_neg (by omega)]
    exact⟨by rw[List.map_singleton,if_neg hjc];rfl,_,rfl⟩
  ·obtain⟨rfl,rfl,o,rfl⟩:=h4
   exact⟨D,rfl,_,.inl ⟨SqL.of Ac,fun q hq=>k q _ ((Same.new hD).newT hq) (SqT.of Ac)⟩⟩
theorem WV (d:Nat)(v:V):(List.replicate d [v]).flatten=List.replicate d v:=by
 induction d with
 |zero=>rfl
 |succ d ih=>rw[List.replicate_succ,List.flatten_cons,ih,List.replicate_succ];rfl
def ToldF (H:Hp)(p:Int)(m:Nat)(rows:List (List Int))(bs:List (Nat×List Int))(zs:List V)(somes:List (List Int)):Prop:=zs.length=somes.length/\∀(i:Nat) (r:List Int),somes[i]?=some r->(Span p m rows (fun j=>r.getD j 0)/\∃c,zs[i]?=some (.ref c)/\H c=some (.lst ((((Ay p bs (r++List.replicate rows.length 0)).drop m).map fun y => -y%p).map V.int)))\/(¬ Span p m rows (fun j=>r.getD j 0)/\zs[i]?=some .non)
def Cv_ (K:PySem.W.Frag):Sp:=fun vs H Q _=>∃(p:Int) (t:Bool) (a b:Addr) (m:Nat) (xs ys:List V) (rows somes:List (List Int)),vs=[.int p,.ref a,.ref b,.int m]/\Pr p/\SqB K H t a xs/\AS K H xs rows/\(∀r∈rows,r.length=m)/\SqL K H b ys/\AS K H ys somes/\(∀r∈somes,r.length=m)/\m<=400/\rows.length<=400/\somes.length<=900/\∀l zs bs H',Same H H'->H l=none->H' l=some (.lst zs)->Seen p (m+rows.length) m (Bh rows) bs->ToldF H' p m rows bs zs somes->Q (.ref l) H'
theorem ToldF.keep {H H':Hp}{p:Int}{m:Nat}{rows somes:List (List Int)}{bs:List (Nat×List Int)}{zs:List V}(h:ToldF H p m rows bs zs somes)(k:∀c ys,(∃j:Nat,zs[j]?=some (V.ref c))->H c=some (.lst ys)->H' c=some (.lst ys)):ToldF H' p m rows bs zs somes:=by
 refine⟨h.1,fun i r hi=>?_⟩
 rcases h.2 i r hi with ⟨a,c,e1,e2⟩|h'
 ·exact .inl ⟨a,c,e1,k c _ ⟨i,e1⟩ e2⟩
 ·exact .inr h'
theorem ToldF.snoc {H:Hp}{p:Int}{m:Nat}{rows somes:List (List Int)}{bs:List (Nat×List Int)}{zs:List V}{r:List Int}{z:V}(h:ToldF H p m rows bs zs somes)(g:(Span p m rows (fun j=>r.getD j 0)/\∃c,z=.ref c/\H c=some (.lst ((((Ay p bs (r++List.replicate rows.length 0)).drop m).map fun y => -y%p).map V.int)))\/(¬ Span p m rows (fun j=>r.getD j 0)/\z=.non)):ToldF H p m rows bs (zs++[z]) (somes++[r]):=by
 refine⟨by simp[h.1],fun i v hi=>?_⟩
 by_cases hl:i<somes.length
 ·rw[List.getElem?_append_left hl]at hi
  rw[List.getElem?_append_left (by rw[h.1];exact hl)]
  exact h.2 i v hi
 ·have:=(List.getElem?_eq_some_iff.mp hi).1
  rw[List.length_append,List.length_singleton]at this
  have e:i=somes.length:=by omega
  subst e
  rw[List.getElem?_append_right (Nat.le_refl _),Nat.sub_self]at hi
  simp at hi
  subst hi
  have ez:(zs++[z])[somes.length]?=some z:=by rw[<-h.1];simp
  rw[ez]
  rcases g with ⟨a,c,e1,e2⟩|⟨a,e1⟩
  ·exact .inl ⟨a,c,by rw[e1],e2⟩
  ·exact .inr ⟨a,by rw[e1]⟩
theorem Wm {zs:List V}{z v:V}{j:Nat}(h:(zs++[z])[j]?=some v):zs[j]?=some v\/z=v:=by
 by_cases hl:j<zs.length
 ·rw[List.getElem?_append_left hl]at h;exact .inl h
 ·rw[List.getElem?_append_right (by omega)]at h
  have:=(List.getElem?_eq_some_iff.mp h).1
  simp at this
  have e:j-zs.length=0:=by omega
  rw[e]at h
  exact .inr (by simpa using h)
theorem Kg {f:Addr}{fd:FuncData}(F:Fun K "factors_of_each" "factors_of_each" A1 f fd)(T:Txt mg)
  (Z:Exs K mg C_AskError C_BadWord C_NoInverse)
  {Ar:Addr} {AA:FuncData} (AX:FnOk P w K mg base CX0 1 Ar AA ["row"] (Wl K)) (AG:Fun K "place_of_first" "place_of_first" AW Ar AA) (AY:Binds K AA ["row"] []) (AZ:mg "place_of_first"=some (.ref Ar))
  {A5:Addr} {Be:FuncData} (CB:FnOk P w K mg base CX0 2 A5 Be ["p","bases","row"] (M9 K)) (BZ:Fun K "left_of" "left_of" DI A5 Be) (CC:Binds K Be ["p","bases","row"] []) (CD:mg "left_of"=some (.ref A5))
  {A6:Addr} {DR:FuncData} (Eh:FnOk P w K mg base CX0 4 A6 DR ["p","rows","size"] (BC_ K)) (B0:Fun K "chosen_and_bases" "chosen_and_bases" A3 A6 DR) (Ei:Binds K DR ["p","rows","size"] []) (Ej:mg "chosen_and_bases"=some (.ref A6))
  {FA:Addr} {FC:FuncData} (Kh:FnOk P w K mg base CX0 1 FA FC ["size","place"] (Qq K)) (HX:Fun K "unit" "unit" J9 FA FC) (Ki:Binds K FC ["size","place"] []) (Kj:mg "unit"=some (.ref FA))
  : FnOk P w K mg base CX0 5 f fd ["p","rows","some","size"] (Cv_ K):=by
 refine F.ok AR (fun vs H Q E h=>?_) (fun cdv A outer s H vs Q E hr h=>?_)
 ·obtain⟨p,t,a,b,m,xs,ys,rows,somes,rfl,_⟩:=h;rfl
 ·obtain⟨p,t,a,b,m,xs,ys,rows,somes,rfl,hp,ha,hR,hrn,hb,hY,hsn,hm,hz,hsz,k⟩:=h
  have hl:=Al
  have hp1:=hp.1
  have hp2:=hp.2.1
  refine⟨_,(Ad (Ai (i:=4) AR.nd rfl (Or.inr rfl) (As Aj (by rfl) T.len PySem.boot_len (Aa (pv 1) Ab)))
   (Ad (PU (i:=5) AR.nd rfl rfl rfl (Ck rfl) (cp:=Fv) ⟨⟨rfl,rfl⟩,True.intro⟩ (DV_ (V6 rfl T.enumerate (pv 1)) (P4 rfl T.enumerate (pv 1))) (fun _ _ _ _=>(Vh (K:=K) (n:=2) rfl rfl (DL (Ak (i:=0) Ew rfl (Or.inl rfl)) (DL (Ak (i:=1) Ew rfl (Or.inl rfl)) K4)))) (fun _ _ _ _=>BV) (fun _ _ _ _=>(An (HH (K:=K) rfl) (Aw (P9 (K:=K) rfl) rfl T.tuple PyProof.Rows.boot_tuple (Aa (pv 1) Ab)) (Ah Kh (hr.mono (by decide)) rfl Kj HX.kp Ki .nil Az (Aa (pv 2) (Aa (pv 0) Ab))))))
   (Ad (Ai (i:=6) AR.nd rfl (Or.inl rfl) (Ax Au (Ah Eh (hr.mono (by decide)) rfl Ej B0.kp Ei .nil Az (Aa (pv 0) (Aa (pv 5) (Aa (pv 3) Ab)))) Ag (fun _ _=>rfl)))
   (Ad (Ai (i:=7) AR.nd rfl (Or.inl rfl) (Fo Ab))
   (Ad (CM PassesOwn.never rfl (Fm (pv 2)) (Ak (i:=8) AR.nd rfl (Or.inl rfl))
   (Ad (Ai (i:=9) AR.nd rfl (Or.inl rfl) (Ah CB (hr.mono (by decide)) rfl CD BZ.kp CC .nil Az (Aa (pv 0) (Aa (pv 6) (Aa (An DM (Aw LQ rfl T.tuple PyProof.Rows.boot_tuple (Aa (pv 8) Ab)) (An PZ (Cj (Aa Ag Ab)) (pv 4))) Ab)))))
   (Ad (Ai (i:=10) AR.nd rfl (Or.inl rfl) (U4 Da_ (Ah AX (hr.mono (by decide)) rfl AZ AG.kp AY .nil Az (Aa (J3 MV (pv 9) ML (MM (pv 3))) Ab)) Tg (BM _)))
   (Af (DO (J5 PySem.F.plainAttrs_list PySem.F.slot_list_append PySem.F.type_list_append BS (pv 7) (Aa (VR (Eu (pv 10)) (BN rfl (Ck rfl) (cp:=Fw) ⟨⟨rfl,rfl⟩,True.intro⟩ (Jm (J3 MV (pv 9) (MM (pv 3)) ML)) (fun _ _ _ _=>(Ak (i:=0) Hu rfl (Or.inl rfl))) (fun _ _ _ _=>BV) (fun _ _ _ _=>(An BR (XY Ti (pv 0)) (pv 1)))) Tg) Ab)))))))
   (Af (Aq (pv 7)))))))),?_⟩
  walk_at "rd"
  refine⟨xs,(by cases t;exact .inl ha;exact .inr ha),?_⟩
  rw[hR.1]
  have hlm:(Bh rows).length=rows.length:=by unfold Bh;simp
  obtain⟨Pc,hPc⟩:∃Pc:Nat->List V->St->Hp->Prop,∀j zs σ4 H4,Pc j zs σ4 H4↔(Same H H4/\AS K H4 zs ((Bh rows).take j)/\∃o1 o2,σ4=[o1,o2,some (.int rows.length)]):=⟨_,fun _ _ _ _=>Iff.rfl⟩
  refine Ev_ ha Pc ((hPc _ _ _ _).mpr ⟨Same.refl _,by rw[List.take_zero];exact AS.nil,none,none,rfl⟩) (by rw[hR.1];omega) (fun j zs σ4 H4 hj h4=>?_) (fun j v zs σ4 H4 q hv h4 hq=>?_) (fun zs σ4 H4 h4 D hD=>?_)
  ·obtain⟨s4,hR4,_⟩:=(hPc _ _ _ _).mp h4
   exact⟨ha.mono s4,by rw[hR4.1,List.length_take];omega⟩
  ·obtain⟨s4,hR4,o1,o2,rfl⟩:=(hPc _ _ _ _).mp h4
   have hi:j<rows.length:=by rw[<-hR.1];exact (List.getElem?_eq_some_iff.mp hv).1
   obtain⟨tr,ht,hrow⟩:=hR.2 j rows[j] (by simp[hi])
   rw[hv]at ht
   cases ht
   have s5:=Same.new hq (o:=.tup [.int j,.ref tr])
   have etk:(Bh rows).take (j+1)=(Bh rows).take j++[rows[j]++BO rows.length j]:=by
    rw[List.take_succ_eq_append_getElem (hlm ▸ hi)]
    congr 2
    unfold Bh
    rw[List.getElem_map,List.getElem_range,List.getD_eq_getElem?_getD,List.getElem?_eq_getElem hi];rfl
   have hrl:=hrn _ (List.getElem_mem hi)
   generalize rows[j]=row at hrow etk hrl
   walk_at "rd"
   refine⟨_,SqT.of Ac,rfl,_,_,rfl,_,_,rfl,rfl,tr,rfl,_,.inr ⟨s5.seqT (s4.seqT hrow),rows.length,j,rfl,by omega,fun q6 H6 s6 hq6=>?_⟩⟩
   refine DH.of (s6.seqT (s5.seqT (s4.seqT hrow))) hq6 (by unfold BO;simp;omega) fun q7 H7 s7 hq7=>?_
   refine (hPc _ _ _ _).mpr ⟨s4.trans (s5.trans (s6.trans s7)),?_,_,_,rfl⟩
   rw[etk]
   exact (hR4.mono (s5.trans (s6.trans s7))).snoc (by rw[List.map_append];exact hq7)
  ·obtain⟨s4,hR4,o1,o2,rfl⟩:=(hPc _ _ _ _).mp h4
   rw[hR.1,<-hlm,List.take_length]at hR4
   walk_at "rd"
   have sD:=Same.new hD (o:=.lst zs)
   refine⟨p,false,D,m,m+rows.length,zs,Bh rows,rfl,hp,SqL.of Ac,hR4.mono sD,O9 hrn,by omega,by omega,by omega,fun q6 l6 d bs H6 s6 hq6 _ hB S hd0 _=>⟨q6,rfl,_,hq6,.ref d,rfl,Nat.zero_le _,fun l hl0=>?_⟩⟩
   have s60:Same H H6:=(s4.trans sD).trans s6
   have s7:=Same.new hl0 (o:=.lst [])
   have hd00:H d=none:=Mine.Same.gone (s4.trans sD) hd0
   have hl00:H l=none:=Mine.Same.gone s60 hl0
   refine⟨⟨_,(s60.trans s7).seq hb⟩,?_⟩
   obtain⟨Pv,hPv⟩:∃Pv:Nat->St->Hp->Prop,∀i σ' H',Pv i σ' H'↔(Same H H'/\BasD K H' d bs/\∃(us:List V) (o1 o2 o3:Option V),H' l=some (.lst us)/\ToldF H' p m rows bs us (somes.take i)/\(∀(j:Nat) (c:Addr),us[j]?=some (.ref c)->c≠l)/\σ'=[some (.int p),some (.ref a),some (.ref b),some (.int m),some (.int rows.length),some (.ref D),some (.ref d),some (.ref l),o1,o2,o3]):=⟨_,fun _ _ _=>Iff.rfl⟩
   refine forL Pv ((hPv _ _ _).mpr ⟨s60.trans s7,hB.mono s7,[],none,none,none,Ac,⟨rfl,fun i r hi=>by simp at hi⟩,by simp,rfl⟩) (fun i σ' H' _ h'=>((hPv _ _ _).mp h').1.seq hb) (fun i v σ' H' hv h'=>?_) (fun σ' H' h'=>?_)
   ·obtain⟨s8,hB8,us,o1,o2,o3,hu,hT,hne,rfl⟩:=(hPv _ _ _).mp h'
    have hi:i<somes.length:=by rw[<-hY.1];exact (List.getElem?_eq_some_iff.mp hv).1
    obtain⟨tr,ht,hrow⟩:=hY.2 i somes[i] (by simp[hi])
    rw[hv]at ht
    cases ht
    have hrl:=hsn _ (List.getElem_mem hi)
    have etk:somes.take (i+1)=somes.take i++[somes[i]]:=List.take_succ_eq_append_getElem hi
    generalize somes[i]=row at hrow hrl etk
    walk_at "rd"
    have etl:(somes.take i).length=i:=by rw[List.length_take];omega
    refine⟨_,.inr ⟨s8.seqT hrow,by omega,fun p1 hp1'=>?_⟩⟩
    have sA:=Same.new hp1' (o:=.tup [V.int 0])
    refine PY.of (SqT.of Ac) (by simp) (by omega) (by omega) (by simp;omega) fun pt H2 s2 ht=>?_
    rw[Int.toNat_natCast,WV]at ht
    refine DH.of ((s8.trans (sA.trans s2)).seqT hrow) ht (by simp;omega) fun q5 H5 s5 hq5=>?_
    have sB:=sA.trans (s2.trans s5)
    have erow:(row++List.replicate rows.length 0).map V.int=row.map V.int++List.replicate rows.length (V.int 0):=by rw[List.map_append,List.map_replicate]
    rw[<-erow]at hq5
    have hr0:(row++List.replicate rows.length (0:Int)).length=m+rows.length:=by simp[hrl]
    have hll:=(Ef (row++List.replicate rows.length 0) hr0 bs S.b).1
    have hiff:=Y5 (show 0<p by omega) hrn S hrl
    refine⟨p,d,q5,true,bs,row++List.replicate rows.length 0,rfl,by omega,by omega,hB8.mono sB,hq5,by omega,fun x hx=>by rw[hr0];exact⟨(S.b.len x hx).1,(S.b.len x hx).2.1⟩,fun q6 H6 hF6 hq6=>⟨q6,rfl,_,hq6,fun p7 H7 s7 hp7=>?_⟩⟩
    rw[O7,<-List.map_take]at hp7
    have hlt:((Ay p bs (row++List.replicate rows.length 0)).take m).length=m:=by rw[List.length_take];omega
    have htk:∀qq:Nat,qq<m->((Ay p bs (row++List.replicate rows.length 0)).take m).getD qq 0=(Ay p bs (row++List.replicate rows.length 0)).getD qq 0:=fun qq hqq=>by
     rw[List.getD_eq_getElem?_getD,List.getElem?_take,if_pos hqq,<-List.getD_eq_getElem?_getD]
    generalize hleft:Ay p bs (row++List.replicate rows.length 0)=left at hq6 hp7 hll hiff hlt htk
    have hu6:=hF6.lst (sB _ _ hu)
    have hS6:Same H H6:=hF6.same (s8.trans sB) hd00
    refine⟨p7,left.take m,rfl,hp7,by omega,fun qn H9 s9 hqn hq0=>?_,fun H9 s9 hall=>?_⟩
    ·rw[hlt]at hqn
     rw[htk qn hqn]at hq0
     have hu9:=s9 _ _ (s7 _ _ hu6)
     refine⟨.inl ⟨rfl,_,SqL.of hu9⟩,?_⟩
     show if V.int qn=V.non then _ else _
     rw[if_neg (by simp)]
     have hnsp:¬ Span p m rows fun j=>row.getD j 0:=fun z=>hq0 (hiff.mpr z qn hqn)
     refine⟨_,hu9,by rw[hT.1];omega,(hPv _ _ _).mpr ⟨((hS6.trans (s7.trans s9))).over hl00,(((hB8.mono sB).fz hF6).mono (s7.trans s9)).offl hu9,us++[.non],_,_,_,Ac,?_,fun j c hj=>?_,rfl⟩⟩
     ·rw[etk]
      refine (hT.keep fun c ys hc h=>?_).snoc (.inr ⟨hnsp,rfl⟩)
      obtain⟨j,hj⟩:=hc
      rw[Av (hne j c hj)]
      exact s9 _ _ (s7 _ _ (hF6.lst (sB _ _ h)))
     ·rcases Wm hj with hj|hj
      ·exact hne j c hj
      ·cases hj
    ·have hz0:∀j:Nat,j<m->left.getD j 0=0:=fun j hj=>by rw[<-htk j hj];exact hall j (by omega)
     have hsp:=hiff.mp hz0
     have hu9:=s9 _ _ (s7 _ _ hu6)
     refine⟨.inl ⟨rfl,_,SqL.of hu9⟩,?_⟩
     show if V.non=V.non then _ else _
     rw[if_pos rfl]
     refine⟨q6,rfl,_,(s7.trans s9).seqT hq6,fun p8 H10 s10 hp8=>⟨⟨_,hp8⟩,?_⟩⟩
     rw[WO,<-List.map_drop]at hp8
     obtain⟨gg,hgg⟩:∃g:V->V,∀n:Int,g (V.int n)=.int (-n%p):=⟨fun x=>match x with | .int n=>.int (-n%p)|_=>.non,fun _=>rfl⟩
     refine PX (σ':=[some (.int p)]) gg rfl hp8 (by rw[List.length_map,List.length_drop];omega) (fun x hx R hR=>?_) (fun D2 hD2=>?_)
     ·obtain⟨n,hn,rfl⟩:=List.mem_map.mp hx
      rw[hgg]at hR
      walk_at "rd"
      exact⟨by omega,hR⟩
     ·have em:((left.drop m).map V.int).map gg=((left.drop m).map fun y => -y%p).map V.int:=by
       rw[List.map_map,List.map_map]
       exact List.map_congr_left fun n _=>hgg n
      rw[em]
      have sD2:=Same.new hD2 (o:=.lst (((left.drop m).map fun y => -y%p).map V.int))
      have hu10:=sD2 _ _ (s10 _ _ hu9)
      have hDl:D2≠l:=fun z=>by rw[z,s10 _ _ hu9]at hD2;cases hD2
      have sZ:=s7.trans (s9.trans (s10.trans sD2))
      refine⟨_,hu10,by rw[hT.1];omega,(hPv _ _ _).mpr ⟨(hS6.trans sZ).over hl00,(((hB8.mono sB).fz hF6).mono sZ).offl hu10,us++[.ref D2],_,_,_,Ac,?_,fun j c hj=>?_,rfl⟩⟩
      ·rw[etk]
       refine (hT.keep fun c ys hc h=>?_).snoc (.inl ⟨hsp,D2,rfl,?_⟩)
       ·obtain⟨j,hj⟩:=hc
        rw[Av (hne j c hj)]
        exact sZ _ _ (hF6.lst (sB _ _ h))
       ·rw[Av hDl,Ac,hleft]
      ·rcases Wm hj with hj|hj
       ·exact hne j c hj
       ·cases hj;exact hDl
   ·obtain⟨s8,hB8,us,o1,o2,o3,hu,hT,hne,rfl⟩:=(hPv _ _ _).mp h'
    rw[hY.1,List.take_length]at hT
    walk_at "rd"
    exact k l us bs _ s8 hl00 hu S hT
def Pf (K:PySem.W.Frag):Sp:=fun vs H Q _=>∃(L:Int) (a:Addr) (ws:List Int),vs=[.int L,.ref a]/\SqT K H a (ws.map V.int)/\ws.length<=1000/\∀H',Same H H'->Q (.bl (isW L ws)) H'
theorem WW {f:Addr}{fd:FuncData}(F:Fun K "is_word" "is_word" Fu f fd)(T:Txt mg)
  (Z:Exs K mg C_AskError C_BadWord C_NoInverse)
  : FnOk P w K mg base CX0 1 f fd ["letters","word"] (Pf K):=by
 refine F.ok WM (fun vs H Q E h=>?_) (fun cdv A outer s H vs Q E hr h=>?_)
 ·obtain⟨L,a,ws,rfl,_⟩:=h;rfl
 ·obtain⟨L,a,ws,rfl,hw,hz,k⟩:=h
  have hl:=Al
  refine⟨_,(Af (Aq (As (ZL rfl) rfl T.all PyProof.Rows.boot_all (Aa (BN rfl (Ck rfl) (cp:=M4) ⟨⟨rfl,rfl⟩,True.intro⟩ (Jm (pv 1)) (fun _ _ _ _=>(Ak (i:=0) Oa rfl (Or.inl rfl))) (fun _ _ _ _=>BV) (fun _ _ _ _=>(Zy Ei_ U3 Ag (pv 0) (pv 1)))) Ab)))),?_⟩
  walk_at "rd"
  refine⟨⟨_,hw⟩,PX (σ':=[some (.int L)]) (fun x=>match x with | .int n=>.bl (inW L n)|_=>.non) rfl hw (by rw[List.length_map];omega) (fun x hx R hR=>?_) (fun D hD=>?_)⟩
  ·obtain⟨n,_,rfl⟩:=J8 hx
   walk_at "rd"
   by_cases h0:0<=n
   ·simp only[h0,if_true]
    simpa [inW,h0] using hR
   ·simp only[h0,if_false]
    simpa [inW,h0] using hR
  ·refine⟨D,rfl,ws.map (inW L),.inl (.inl ?_),?_⟩
   ·rw[Ac,List.map_map,List.map_map];rfl
   ·have:=k _ (Same.new hD (o:=.lst ((ws.map V.int).map fun x=>match x with | .int n=>.bl (inW L n)|_=>.non)))
    simpa [isW,List.all_map] using this
def Wn (K:PySem.W.Frag)(BW:Addr):Sp:=fun vs H Q E=>∃(L:Int) (a:Addr) (ws:List Int),vs=[.int L,.ref a]/\SqT K H a (ws.map V.int)/\ws.length<=1000/\(isW L ws=true->∀H',Same H H'->Q .non H')/\(isW L ws=false->∀H',Same H H'->E (.ref BW) none H')
theorem Qr {f:Addr}{fd:FuncData}(F:Fun K "check_word" "check_word" CS f fd)(T:Txt mg)
  (Z:Exs K mg C_AskError C_BadWord C_NoInverse)
  {FD:Addr} {Lm:FuncData} (Ng:FnOk P w K mg base CX0 1 FD Lm ["letters","word"] (Pf K)) (HY:Fun K "is_word" "is_word" Fu FD Lm) (Nh:Binds K Lm ["letters","word"] []) (Ni:mg "is_word"=some (.ref FD))
  : FnOk P w K mg base (CXe P w) 2 f fd ["letters","word"] (Wn K C_BadWord):=by
 refine F.okE Qa (fun vs H Q E h=>?_) (fun cdv A outer s H vs Q E hr h=>?_)
 ·obtain⟨L,a,ws,rfl,_⟩:=h;rfl
 ·obtain⟨L,a,ws,rfl,hw,hz,k,kE⟩:=h
  have hl:=Al
  refine⟨_,(Af (Et (Fl (Eu (Ah Ng (hr.mono (by decide)) rfl Ni HY.kp Nh .nil Az (Aa (pv 0) (Aa (pv 1) Ab)))))
   (Af (V1 Z.m_BadWord Z.x_BadWord rfl rfl (Aa AL_ Ab)))
   Bb)),?_⟩
  walk_at "rd"
  refine⟨L,a,ws,rfl,hw,hz,fun H' s'=>?_⟩
  walk_at "rd"
  cases hv:isW L ws with
  |true=>
   simp only[Bool.not_true,Bool.false_eq_true,if_false]
   exact k hv H' s'
  |false=>
   simp only[Bool.not_false,if_true]
   exact⟨by omega,kE hv H' s'⟩
def Tabs (K:PySem.W.Frag)(H:Hp)(tt:Addr)(tables:List (List (List Int))):Prop:=∃us:List Addr,SqT K H tt (us.map V.ref)/\us.length=tables.length/\∀(i:Nat) (u:Addr) (tb:List (List Int)),us[i]?=some u->tables[i]?=some tb->∃xs,SqT K H u xs/\AS K H xs tb
theorem Tabs.mono {K:PySem.W.Frag}{H H':Hp}{tt:Addr}{tables:List (List (List Int))}(h:Tabs K H tt tables)(s:Same H H'):Tabs K H' tt tables:=by
 obtain⟨us,a,b,c⟩:=h
 refine⟨us,s.seqT a,b,fun i u tb h1 h2=>?_⟩
 obtain⟨xs,d,e⟩:=c i u tb h1 h2
 exact⟨xs,s.seqT d,e.mono s⟩
def SumH (K:PySem.W.Frag)(H:Hp)(h:Addr)(p:Int)(L:Int)(first:List Int)(tables:List (List (List Int)))(last:List Int):Prop:=∃tf tt tl:Addr,SqT K H h [.int p,.int L,.ref tf,.ref tt,.ref tl]/\SqT K H tf (first.map V.int)/\SqT K H tl (last.map V.int)/\Tabs K H tt tables
theorem SumH.mono {K:PySem.W.Frag}{H H':Hp}{h:Addr}{p L:Int}{first last:List Int}{tables:List (List (List Int))}(x:SumH K H h p L first tables last)(s:Same H H'):SumH K H' h p L first tables last:=by
 obtain⟨tf,tt,tl,a,b,c,d⟩:=x
 exact⟨tf,tt,tl,s.seqT a,s.seqT b,s.seqT c,d.mono s⟩
structure WfSum (p L:Int)(d:Nat)(first:List Int)(tables:List (List (List Int)))(last:List Int):Prop where
 p2:2<=p
 p18:p<1000000000000000000
 dl:d<=16
 f:first.length=d/\∀x∈first,0<=x/\x<p
 l:last.length=d/\∀x∈last,0<=x/\x<p
 t:(tables.length:Int)=L
 tt:∀tb∈tables,tb.length=d/\∀r∈tb,r.length=d
def Jk (p:Int)(d:Nat)(tables:List (List (List Int)))(row:List Int)(x:Int):List Int:=E7 p (tables.getD x.toNat []) row d
def rowS (p:Int)(d:Nat)(tables:List (List (List Int)))(first ws:List Int):List Int:=ws.foldl (Jk p d tables) first
theorem Ae_ {p:Int}(hp:0<p){rows:List (List Int)}{am:List Int}{n:Nat}:∀x∈E7 p rows am n,0<=x/\x<p:=fun x hx=>by
 obtain⟨c,_,rfl⟩:=List.mem_map.mp hx
 exact⟨Int.emod_nonneg _ (by omega),Int.emod_lt_of_pos _ hp⟩
theorem Za (p:Int)(rows:List (List Int))(am:List Int)(n:Nat):(E7 p rows am n).length=n:=by unfold E7;rw[List.length_map,List.length_range]
theorem WfSum.row {p L:Int}{d:Nat}{first last:List Int}{tables:List (List (List Int))}(wf:WfSum p L d first tables last)(ws:List Int):(rowS p d tables first ws).length=d/\∀x∈rowS p d tables first ws,0<=x/\x<p:=by
 have h2:=wf.p2
 have key:∀(ws r:List Int),(r.length=d/\∀x∈r,0<=x/\x<p)->((ws.foldl (Jk p d tables) r).length=d/\∀x∈ws.foldl (Jk p d tables) r,0<=x/\x<p):=fun ws=>by
  induction ws with
  |nil=>exact fun r h=>h
  |cons y ws ih=>exact fun r _=>ih _ ⟨Za _ _ _ _,Ae_ (by omega)⟩
 exact key ws first wf.f
theorem T3 {p:Int}{d:Nat}{tables:List (List (List Int))}{first ws:List Int}{i:Nat}{x:Int}(h:ws[i]?=some x):rowS p d tables first (ws.take (i+1))=Jk p d tables (rowS p d tables first (ws.take i)) x:=by
 unfold rowS
 rw[List.take_add_one,h,Option.toList_some,List.foldl_append];rfl
theorem WfSum.table {p L:Int}{d:Nat}{first last:List Int}{tables:List (List (List Int))}(wf:WfSum p L d first tables last){x:Int}(x0:0<=x)(x1:x<L):tables[x.toNat]?=some (tables.getD x.toNat [])/\(tables.getD x.toNat []).length=d/\∀r∈tables.getD x.toNat [],r.length=d:=by
 have hx:x.toNat<tables.length:=by have:=wf.t;omega
 have e:tables.getD x.toNat []=tables[x.toNat]:=by rw[List.getD_eq_getElem?_getD,List.getElem?_eq_getElem hx];rfl
 rw[e]
 exact⟨by rw[List.getElem?_eq_getElem hx],wf.tt _ (List.getElem_mem hx)⟩
theorem Tabs.at {K:PySem.W.Frag}{H:Hp}{tt:Addr}{tables:List (List (List Int))}(h:Tabs K H tt tables){i:Nat}{tb:List (List Int)}(ht:tables[i]?=some tb):∃zs u xs,SqT K H tt zs/\atI zs (i:Int)=some (V.ref u)/\SqT K H u xs/\AS K H xs tb:=by
 obtain⟨us,a,b,c⟩:=h
 have hi:i<us.length:=by rw[b];exact (List.getElem?_eq_some_iff.mp ht).1
 have hu:us[i]?=some us[i]:=by simp[hi]
 obtain⟨xs,d,e⟩:=c i _ tb hu ht
 exact⟨_,us[i],xs,a,Cq (by rw[List.getElem?_map,hu];rfl),d,e⟩
def Jf (K:PySem.W.Frag):Sp:=fun vs H Q _=>∃(h r:Addr) (p L x:Int) (d:Nat) (first last row:List Int) (tables:List (List (List Int))),vs=[.ref h,.ref r,.int x]/\SumH K H h p L first tables last/\WfSum p L d first tables last/\SqT K H r (row.map V.int)/\row.length=d/\(∀y∈row,0<=y/\y<p)/\0<=x/\x<L/\∀q H',Same H H'->H' q=some (.tup ((Jk p d tables row x).map V.int))->Q (.ref q) H'
theorem WX {f:Addr}{fd:FuncData}(F:Fun K "stepped" "stepped" Ed f fd)(T:Txt mg)
  (Z:Exs K mg C_AskError C_BadWord C_NoInverse)
  {FE:Addr} {Lo:FuncData} (Nj:FnOk P w K mg base CX0 2 FE Lo ["p","rows","parts","size"] (Pd K)) (HZ:Fun K "made_of" "made_of" Ft FE Lo) (Nk:Binds K Lo ["p","rows","parts","size"] []) (Nl:mg "made_of"=some (.ref FE))
  : FnOk P w K mg base CX0 3 f fd ["house","row","letter"] (Jf K):=by
 refine F.ok WN (fun vs H Q E h=>?_) (fun cdv A outer s H vs Q E hr h=>?_)
 ·obtain⟨h,r,p,L,x,d,first,last,row,tables,rfl,_⟩:=h;rfl
 ·obtain⟨h,r,p,L,x,d,first,last,row,tables,rfl,hh,wf,hrr,hrl,hri,x0,x1,k⟩:=h
  have h2:=wf.p2
  have h18:=wf.p18
  have hd:=wf.dl
  refine⟨_,(Af (Aq (Ah Nj (hr.mono (by decide)) rfl Nl HZ.kp Nk .nil Az (Aa (Ax Au (pv 0) Ag (fun _ _=>rfl)) (Aa (Ax Au (Ax Au (pv 0) Ag (fun _ _=>rfl)) (pv 2) (fun _ _=>rfl)) (Aa (pv 1) (Aa (As Aj (by rfl) T.len PySem.boot_len (Aa (pv 1) Ab)) Ab))))))),?_⟩
  obtain⟨tf,tt,tl,e1,e2,e3,e4⟩:=id hh
  obtain⟨t1,t2,t3⟩:=wf.table x0 x1
  obtain⟨zs,u,xs,z1,z2,z3,z4⟩:=e4.at t1
  rw[Int.toNat_of_nonneg x0]at z2
  walk_at "rd"
  refine⟨_,e1,_,rfl,_,e1,_,rfl,?_⟩
  walk_at "rd"
  exact⟨_,z1,_,z2,_,.inr hrr,p,true,true,u,r,xs,tables.getD x.toNat [],row,d,by rw[List.length_map,hrl],by omega,z3,z4,t3,hrr,by rw[t2];exact hrl,by omega,by omega,(fun y hy=>by have:=hri y hy;omega),fun q H' s' hq=>k q H' s' hq⟩
def Kk (K:PySem.W.Frag)(BW:Addr):Sp:=fun vs H Q E=>∃(h a:Addr) (p L:Int) (d:Nat) (first last ws:List Int) (tables:List (List (List Int))),vs=[.ref h,.ref a]/\SumH K H h p L first tables last/\WfSum p L d first tables last/\SqT K H a (ws.map V.int)/\ws.length<=600/\(isW L ws=true->∀(q t:Addr) (xs:List V) (H':Hp),Same H H'->H' q=some (.lst (xs++[V.ref t]))->SqT K H' t ((rowS p d tables first ws).map V.int)->Q (.ref q) H')/\(isW L ws=false->∀H',Same H H'->E (.ref BW) none H')
theorem Qs {f:Addr}{fd:FuncData}(F:Fun K "rows_along" "rows_along" CT f fd)(T:Txt mg)
  (Z:Exs K mg C_AskError C_BadWord C_NoInverse)
  {De:Addr} {GR:FuncData} (Ia:FnOk P w K mg base (CXe P w) 2 De GR ["letters","word"] (Wn K C_BadWord)) (ES:Fun K "check_word" "check_word" CS De GR) (Ib:Binds K GR ["letters","word"] []) (Ic:mg "check_word"=some (.ref De))
  {BG:Addr} {Ce:FuncData} (Ek:FnOk P w K mg base CX0 3 BG Ce ["house","row","letter"] (Jf K)) (Df:Fun K "stepped" "stepped" Ed BG Ce) (El:Binds K Ce ["house","row","letter"] []) (Em:mg "stepped"=some (.ref BG))
  : FnOk P w K mg base (CXe P w) 4 f fd ["house","word"] (Kk K C_BadWord):=by
 refine F.okE GJ (fun vs H Q E h=>?_) (fun cdv A outer s H vs Q E hr h=>?_)
 ·obtain⟨h,a,p,L,d,first,last,ws,tables,rfl,_⟩:=h;rfl
 ·obtain⟨h,a,p,L,d,first,last,ws,tables,rfl,hh,wf,hw,hz,k,kE⟩:=h
  have hl:=Al
  refine⟨_,(Ad (DO (Ah Ia (hr.mono (by decide)) rfl Ic ES.kp Ib .nil (Cc_ fun _ _ _ h=>h) (Aa (Ax Au (pv 0) Ag (fun _ _=>rfl)) (Aa (pv 1) Ab))))
   (PSs.nox (Ad (Ai (i:=2) GJ.nd rfl (Or.inl rfl) (Fo (Aa (Ax Au (pv 0) Ag (fun _ _=>rfl)) Ab)))
   (Ad (CM PassesOwn.never rfl (Jm (pv 1)) (Ak (i:=3) GJ.nd rfl (Or.inl rfl))
   (Af (DO (J5 PySem.F.plainAttrs_list PySem.F.slot_list_append PySem.F.type_list_append BS (pv 2) (Aa (Ah Ek (hr.mono (by decide)) rfl Em Df.kp El .nil Az (Aa (pv 0) (Aa (Ax E6 (pv 2) (XY Ti Ag) (fun _ _=>rfl)) (Aa (pv 3) Ab)))) Ab)))))
   (Af (Aq (pv 2))))))),?_⟩
  obtain⟨tf,tt,tl,e1,e2,e3,e4⟩:=id hh
  walk_at "rd"
  refine⟨_,e1,_,rfl,L,a,ws,rfl,hw,by omega,fun hv H1 s1=>?_,kE⟩
  walk_at "rd"
  refine⟨_,s1.seqT e1,_,rfl,by omega,fun q hq=>?_⟩
  have s0:=Same.new hq (o:=.lst [V.ref tf])
  refine⟨⟨_,(s1.trans s0).seqT hw⟩,?_⟩
  obtain⟨Pv,hPv⟩:∃Pv:Nat->St->Hp->Prop,∀i σ' H',Pv i σ' H'↔(∃(xs:List V) (t:Addr) (o:Option V),Same H1 H'/\H' q=some (.lst (xs++[V.ref t]))/\xs.length=i/\SqT K H' t ((rowS p d tables first (ws.take i)).map V.int)/\σ'=[some (.ref h),some (.ref a),some (.ref q),o]):=⟨_,fun _ _ _=>Iff.rfl⟩
  refine forT (xs:=ws.map V.int) Pv ((hPv _ _ _).mpr ⟨[],tf,none,s0,Ac,rfl,(s1.trans s0).seqT e2,rfl⟩) (fun i σ' H' _ h'=>by obtain⟨_,_,_,s',_⟩:=(hPv _ _ _).mp h';exact (s1.trans s').seqT hw) (fun i x σ' H' hx h'=>?_) (fun σ' H' h'=>?_)
  ·obtain⟨xs,t,o,s2,hq2,hxl,ht,rfl⟩:=(hPv _ _ _).mp h'
   obtain⟨n,hn,rfl⟩:=Ja hx
   have hi:=(List.getElem?_eq_some_iff.mp hn).1
   have hnr:=Bl.mp hv n (List.mem_of_getElem? hn)
   obtain⟨r1,r2⟩:=wf.row (ws.take i)
   walk_at "rd"
   refine⟨.inl ⟨rfl,_,SqL.of hq2⟩,_,SqL.of hq2,_,YB (v:=V.ref t) (by simp),h,t,p,L,n,d,first,last,_,tables,rfl,hh.mono (s1.trans s2),wf,ht,r1,r2,hnr.1,hnr.2,fun q3 H3 s3 hq3=>?_⟩
   refine⟨_,s3 _ _ hq2,by simp;omega,(hPv _ _ _).mpr ⟨xs++[V.ref t],q3,_,(s2.trans s3).over hq,Ac,by simp[hxl],?_,rfl⟩⟩
   rw[T3 hn]
   exact AO (s3 _ _ hq2) (SqT.of hq3)
  ·obtain⟨xs,t,o,s2,hq2,hxl,ht,rfl⟩:=(hPv _ _ _).mp h'
   rw[List.length_map,List.take_length]at ht
   walk_at "rd"
   exact k hv q t xs _ (s1.trans s2) hq2 ht
def Kl (K:PySem.W.Frag)(BW:Addr):Sp:=fun vs H Q E=>∃(h a:Addr) (p L:Int) (d:Nat) (first last ws:List Int) (tables:List (List (List Int))),vs=[.ref h,.ref a]/\SumH K H h p L first tables last/\WfSum p L d first tables last/\SqT K H a (ws.map V.int)/\ws.length<=600/\(isW L ws=true->∀(t:Addr) (H':Hp),Same H H'->SqT K H' t ((rowS p d tables first ws).map V.int)->Q (.ref t) H')/\(isW L ws=false->∀H',Same H H'->E (.ref BW) none H')
theorem Qt {f:Addr}{fd:FuncData}(F:Fun K "row_behind" "row_behind" CU f fd)(T:Txt mg)
  (Z:Exs K mg C_AskError C_BadWord C_NoInverse)
  {Dh:Addr} {GS:FuncData} (Ie:FnOk P w K mg base (CXe P w) 4 Dh GS ["house","word"] (Kk K C_BadWord)) (ET:Fun K "rows_along" "rows_along" CT Dh GS) (Ig:Binds K GS ["house","word"] []) (Ih:mg "rows_along"=some (.ref Dh))
  : FnOk P w K mg base (CXe P w) 5 f fd ["house","word"] (Kl K C_BadWord):=by
 refine F.okE Qb (fun vs H Q E h=>?_) (fun cdv A outer s H vs Q E hr h=>?_)
 ·obtain⟨h,a,p,L,d,first,last,ws,tables,rfl,_⟩:=h;rfl
 ·obtain⟨h,a,p,L,d,first,last,ws,tables,rfl,hh,wf,hw,hz,k,kE⟩:=h
  refine⟨_,(Af (Aq (Ax E6 (Ah Ie (hr.mono (by decide)) rfl Ih ET.kp Ig .nil (Cc_ fun _ _ _ h=>h) (Aa (pv 0) (Aa (pv 1) Ab))) (XY Ti Ag) (fun _ _=>rfl)))),?_⟩
  walk_at "rd"
  refine⟨h,a,p,L,d,first,last,ws,tables,rfl,hh,wf,hw,hz,fun hv q t xs H1 s1 hq ht=>?_,kE⟩
  walk_at "rd"
  exact⟨_,SqL.of hq,_,YB (v:=V.ref t) (by simp),k hv t _ s1 ht⟩
def Qu (K:PySem.W.Frag)(BW:Addr):Sp:=fun vs H Q E=>∃(h a:Addr) (p L:Int) (d:Nat) (first last ws:List Int) (tables:List (List (List Int))),vs=[.ref h,.ref a]/\SumH K H h p L first tables last/\WfSum p L d first tables last/\SqT K H a (ws.map V.int)/\ws.length<=600/\(isW L ws=true->∀H',Same H H'->Q (.int (dotW last (rowS p d tables first ws)%p)) H')/\(isW L ws=false->∀H',Same H H'->E (.ref BW) none H')
theorem Af_ {f:Addr}{fd:FuncData}(F:Fun K "worth" "worth" HI f fd)(T:Txt mg)
  (Z:Exs K mg C_AskError C_BadWord C_NoInverse)
  {C9:Addr} {Ez:FuncData} (Gw:FnOk P w K mg base CX0 1 C9 Ez ["p","row","other"] (Lj K)) (ER:Fun K "product" "product" EO C9 Ez) (Gx:Binds K Ez ["p","row","other"] []) (Gy:mg "product"=some (.ref C9))
  {Di:Addr} {GU:FuncData} (Ii:FnOk P w K mg base (CXe P w) 5 Di GU ["house","word"] (Kl K C_BadWord)) (EU:Fun K "row_behind" "row_behind" CU Di GU) (Ij:Binds K GU ["house","word"] []) (Ik:mg "row_behind"=some (.ref Di))
  : FnOk P w K mg base (CXe P w) 6 f fd ["house","word"] (Qu K C_BadWord):=by
 refine F.okE Z9 (fun vs H Q E h=>?_) (fun cdv A outer s H vs Q E hr h=>?_)
 ·obtain⟨h,a,p,L,d,first,last,ws,tables,rfl,_⟩:=h;rfl
 ·obtain⟨h,a,p,L,d,first,last,ws,tables,rfl,hh,wf,hw,hz,k,kE⟩:=h
  have h2:=wf.p2
  have h18:=wf.p18
  have hd:=wf.dl
  have hl':=wf.l
  refine⟨_,(Af (Aq (Ah Gw (hr.mono (by decide)) rfl Gy ER.kp Gx .nil Az (Aa (Ax Au (pv 0) Ag (fun _ _=>rfl)) (Aa (Ax Au (pv 0) Ag (fun _ _=>rfl)) (Aa (Ah Ii (hr.mono (by decide)) rfl Ik EU.kp Ij .nil (Cc_ fun _ _ _ h=>h) (Aa (pv 0) (Aa (pv 1) Ab))) Ab)))))),?_⟩
  obtain⟨tf,tt,tl,e1,e2,e3,e4⟩:=id hh
  obtain⟨r1,r2⟩:=wf.row ws
  walk_at "rd"
  refine⟨_,e1,_,rfl,_,e1,_,rfl,h,a,p,L,d,first,last,ws,tables,rfl,hh,wf,hw,hz,fun hv t H1 s1 ht=>?_,kE⟩
  walk_at "rd"
  exact⟨p,true,true,tl,t,last,_,rfl,by omega,s1.seqT e3,ht,by rw[r1];exact hl'.1,by omega,(fun x hx=>by have:=hl'.2 x hx;omega),fun H2 s2=>k hv _ (s1.trans s2)⟩
def stepI (d:Nat)(tables:List (List (List Int)))(row:List Int)(x:Int):List Int:=(List.range d).map fun c=>dotW row (colW (tables.getD x.toNat []) c)
def rowI (d:Nat)(tables:List (List (List Int)))(first ws:List Int):List Int:=ws.foldl (stepI d tables) first
theorem Ag_ {p:Int}{d:Nat}{t t':List (List (List Int))}{r r':List Int}{x:Int}(ht:cgT p (t.getD x.toNat []) (t'.getD x.toNat []))(hr:cg p r r'):cg p (Jk p d t r x) (stepI d t' r' x):=by
 unfold Jk E7 stepI
 refine cg.map fun c _=>?_
 rw[Int.emod_emod_of_dvd _ (Int.dvd_refl p)]
 exact hr.dot (ht.col c)
theorem Vr {p:Int}{d:Nat}{t t':List (List (List Int))}(ht:∀i:Nat,cgT p (t.getD i []) (t'.getD i [])):∀(ws:List Int) {r r':List Int},cg p r r'->cg p (rowS p d t r ws) (rowI d t' r' ws)
 |[],r,r',h=>h
 |x::ws,r,r',h=>Vr ht ws (Ag_ (ht _) h)
theorem T4 {d:Nat}{t:List (List (List Int))}{r:List Int}{x:Int}:(stepI d t r x).length=d:=by unfold stepI;simp
theorem Wo {d:Nat}{t:List (List (List Int))}:∀(ws:List Int) {r:List Int},r.length=d->(rowI d t r ws).length=d
 |[],r,h=>h
 |x::ws,r,h=>Wo ws T4
structure Dim (d:Nat)(tb:List (List Int)):Prop where
 n:tb.length=d
 r:∀r∈tb,r.length=d
def EV (d:Nat)(tb:List (List Int)):List (List Int):=(List.range d).map fun c=>colW tb c
theorem Wq {d k:Nat}{tb:List (List Int)}(h:Dim d tb)(hk:k<d):colW (EV d tb) k=tb.getD k []:=by
 have hkl:k<tb.length:=by rw[h.n];exact hk
 have e:tb.getD k []=tb[k]:=by rw[List.getD_eq_getElem?_getD,List.getElem?_eq_getElem hkl];rfl
 have hl:=h.r _ (List.getElem_mem hkl)
 rw[e]
 unfold colW EV
 rw[List.map_map]
 refine List.ext_getElem? fun i=>?_
 by_cases hi:i<d
 ·rw[List.getElem?_map,List.getElem?_range hi,List.getElem?_eq_getElem (show i<tb[k].length by omega)]
  show some ((colW tb i).getD k 0)=_
  congr 1
  unfold colW
  rw[List.getD_eq_getElem?_getD,List.getElem?_map,List.getElem?_eq_getElem hkl]
  show tb[k].getD i 0=_
  rw[List.getD_eq_getElem?_getD,List.getElem?_eq_getElem (show i<tb[k].length by omega)];rfl
 ·rw[List.getElem?_eq_none (by simp;omega),List.getElem?_eq_none (by omega)]
theorem Zb {d:Nat}{T t:List (List (List Int))}{x:Int}(hT:T.getD x.toNat []=EV d (t.getD x.toNat []))(h:Dim d (t.getD x.toNat [])){row col:List Int}(l1:row.length=d)(l2:col.length=d):dotW (stepI d t row x) col=dotW row (stepI d T col x):=by
 unfold stepI
 rw[GN l2 _ row h.r (by rw[h.n];exact l1),hT]
 congr 1
 refine List.ext_getElem? fun k=>?_
 by_cases hk:k<d
 ·have hkl:k<(t.getD x.toNat []).length:=by rw[h.n];exact hk
  rw[List.getElem?_map,List.getElem?_map,List.getElem?_range hk,List.getElem?_eq_getElem hkl]
  show some (dotW col (t.getD x.toNat [])[k])=some (dotW col (colW (EV d (t.getD x.toNat [])) k))
  rw[Wq h hk]
  congr 2
  rw[List.getD_eq_getElem?_getD (l:=t.getD x.toNat []),List.getElem?_eq_getElem hkl];rfl
 ·rw[List.getElem?_eq_none (by rw[List.length_map,h.n];omega),List.getElem?_eq_none (by simp;omega)]
theorem Wr {L d:Nat}{T t:List (List (List Int))}(hT:∀i:Nat,i<L->T.getD i []=EV d (t.getD i []))(h:∀i:Nat,i<L->Dim d (t.getD i [])):∀(ws:List Int) {row col:List Int},(∀x∈ws,0<=x/\x<L)->row.length=d->col.length=d->dotW (rowI d t row ws) col=dotW row (rowI d T col ws.reverse)
 |[],row,col,_,_,_=>rfl
 |x::ws,row,col,hw,l1,l2=>by
  have hx:=hw x (List.mem_cons_self ..)
  show dotW (rowI d t (stepI d t row x) ws) col=_
  rw[Wr hT h ws (fun y hy=>hw y (List.mem_cons_of_mem _ hy)) T4 l2,Zb (hT _ (by omega)) (h _ (by omega)) l1 (Wo _ l2),List.reverse_cons]
  unfold rowI
  rw[List.foldl_append];rfl
theorem Zc {d:Nat}{tb:List (List Int)}(h:Dim d tb):Dim d (EV d tb):=⟨by unfold EV;simp,fun r hr=>by
 obtain⟨c,_,rfl⟩:=List.mem_map.mp hr
 unfold colW;rw[List.length_map];exact h.n⟩
theorem WY {d:Nat}{tb:List (List Int)}(h:Dim d tb):EV d (EV d tb)=tb:=by
 refine List.ext_getElem? fun k=>?_
 by_cases hk:k<d
 ·have hkl:k<tb.length:=by rw[h.n];exact hk
  show ((List.range d).map fun c=>colW (EV d tb) c)[k]?=_
  rw[List.getElem?_map,List.getElem?_range hk,List.getElem?_eq_getElem hkl]
  show some (colW (EV d tb) k)=_
  rw[Wq h hk,List.getD_eq_getElem?_getD,List.getElem?_eq_getElem hkl];rfl
 ·rw[List.getElem?_eq_none (by unfold EV;simp;omega),List.getElem?_eq_none (by rw[h.n];omega)]
def Hv (K:PySem.W.Frag)(H:Hp)(zs:List V)(tabs:List (List (List Int))):Prop:=zs.length=tabs.length/\∀(i:Nat) (tb:List (List Int)),tabs[i]?=some tb->∃(u:Addr) (xs:List V),zs[i]?=some (.ref u)/\SqT K H u xs/\AS K H xs tb
theorem Hv.mono {K:PySem.W.Frag}{H H':Hp}{zs:List V}{tabs:List (List (List Int))}(h:Hv K H zs tabs)(s:Same H H'):Hv K H' zs tabs:=⟨h.1,fun i tb hi=>by
 obtain⟨u,xs,a,b,c⟩:=h.2 i tb hi
 exact⟨u,xs,a,s.seqT b,c.mono s⟩⟩
theorem Hv.nil {K:PySem.W.Frag}{H:Hp}:Hv K H [] []:=⟨rfl,fun i tb h=>by simp at h⟩
theorem Hv.snoc {K:PySem.W.Frag}{H:Hp}{zs:List V}{tabs:List (List (List Int))}(h:Hv K H zs tabs){u:Addr}{xs:List V}{tb:List (List Int)}(h1:SqT K H u xs)(h2:AS K H xs tb):Hv K H (zs++[.ref u]) (tabs++[tb]):=by
 refine⟨by rw[List.length_append,List.length_append,h.1];rfl,fun i r hi=>?_⟩
 by_cases hl:i<tabs.length
 ·rw[List.getElem?_append_left hl]at hi
  rw[List.getElem?_append_left (by rw[h.1];exact hl)]
  exact h.2 i r hi
 ·have:=(List.getElem?_eq_some_iff.mp hi).1
  rw[List.length_append,List.length_singleton]at this
  have e:i=tabs.length:=by omega
  subst e
  rw[List.getElem?_append_right (Nat.le_refl _),Nat.sub_self]at hi
  simp at hi
  subst hi
  exact⟨u,xs,by rw[<-h.1];simp,h1,h2⟩
theorem Hv.tabs {K:PySem.W.Frag}{H:Hp}{tt:Addr}{zs:List V}{tabs:List (List (List Int))}(h:Hv K H zs tabs)(ht:SqT K H tt zs):Tabs K H tt tabs:=by
 refine⟨zs.map (fun v=>match v with | .ref t=>t|_=>0),?_,by rw[List.length_map];exact h.1,fun i u tb hi hr=>?_⟩
 ·have e:(zs.map (fun v=>match v with | .ref t=>t|_=>0)).map V.ref=zs:=by
   rw[List.map_map]
   refine List.ext_getElem? fun i=>?_
   rw[List.getElem?_map]
   by_cases hi:i<tabs.length
   ·obtain⟨t,_,a,_⟩:=h.2 i tabs[i] (by simp[hi])
    rw[a];rfl
   ·rw[List.getElem?_eq_none (by rw[h.1];omega)];rfl
  rw[e];exact ht
 ·obtain⟨t',xs,a,b,c⟩:=h.2 i tb hr
  rw[List.getElem?_map,a]at hi
  cases hi
  exact⟨xs,b,c⟩
theorem Ah_ {K:PySem.W.Frag}{u:Addr}{xs:List V}{tb:List (List Int)}{cp:Caps}{te:TE}{Q:VK}{σ σ':St}{H:Hp}(c:Nat)(e:cp.st σ=none::σ')(hu:SqT K H u xs)(hX:AS K H xs tb)(hc:∀r∈tb,c<r.length)(hz:tb.length<=900)
  (hs:∀(t:Addr) (r:List Int) (R:VK),c<r.length->SqT K H t (r.map V.int)->R (.int (r.getD c 0)) H->te (some (.ref t)::σ') H R)
  (hd:∀D,H D=none->Q (.ref D) (upd H D (.lst ((colW tb c).map V.int)))):(∃xs,SqT K H u xs)/\Jh (Itt K u) cp (J2 0) N3 te σ H Q:=by
 have hl:=Al
 have hxl:=hX.1
 refine⟨⟨_,hu⟩,Yq (xs:=xs) (fun i ys σ2 H2=>H2=H/\ys=(colW (tb.take i) c).map V.int/\∃o,σ2=o::σ') ⟨rfl,by simp[colW],none,e⟩ (by omega) (fun i ys σ2 H2 hi h=>⟨by rw[h.1];exact hu,by rw[h.2.1];unfold colW;rw[List.length_map,List.length_map,List.length_take];omega⟩) (fun i x ys σ2 H2 hx h=>?_) (fun ys σ2 H2 h D hD=>?_)⟩
 ·obtain⟨rfl,rfl,o,rfl⟩:=h
  have hi:i<tb.length:=by rw[<-hxl];exact (List.getElem?_eq_some_iff.mp hx).1
  have hai:tb[i]?=some tb[i]:=by simp[hi]
  obtain⟨t,e1,e2⟩:=hX.2 i _ hai
  rw[hx]at e1
  cases e1
  refine hs t tb[i] _ (hc _ (List.getElem_mem hi)) e2 ⟨rfl,?_,_,rfl⟩
  unfold colW
  rw[List.take_add_one,hai,List.map_append,List.map_append];rfl
 ·obtain⟨rfl,rfl,_⟩:=h
  rw[hxl,List.take_length]
  exact hd D hD
def Ws (K:PySem.W.Frag):Sp:=fun vs H Q _=>∃(u:Addr) (xs:List V) (tb:List (List Int)) (d:Nat),vs=[.ref u]/\SqT K H u xs/\AS K H xs tb/\Dim d tb/\d<=16/\∀q zs H',Same H H'->H' q=some (.tup zs)->AS K H' zs (EV d tb)->Q (.ref q) H'
theorem Qv {f:Addr}{fd:FuncData}(F:Fun K "table_back" "table_back" CV f fd)(T:Txt mg)
  (Z:Exs K mg C_AskError C_BadWord C_NoInverse)
  : FnOk P w K mg base CX0 1 f fd ["table"] (Ws K):=by
 refine F.ok Qc (fun vs H Q E h=>?_) (fun cdv A outer s H vs Q E hr h=>?_)
 ·obtain⟨u,xs,tb,d,rfl,_⟩:=h;rfl
 ·obtain⟨u,xs,tb,d,rfl,hu,hX,da,hd,k⟩:=h
  have hl:=Al
  have hxl:=hX.1
  have hdn:=da.n
  refine⟨_,(Af (Aq (Aw Ap rfl T.tuple PyProof.Rows.boot_tuple (Aa (V8 rfl (Vf rfl) (cp:=HS) ⟨⟨rfl,rfl⟩,True.intro⟩ (A0 rfl T.range (Aa (As Aj (by rfl) T.len PySem.boot_len (Aa (pv 0) Ab)) Ab)) (fun _ _ _ _=>(Ak (i:=0) Ka rfl (Or.inr rfl))) (fun _ _ _ _=>BV) (fun _ _ _ _=>(Aw (GI (K:=K) rfl) rfl T.tuple PyProof.Rows.boot_tuple (Aa (BN rfl (Ck rfl) (cp:=HU) ⟨⟨rfl,rfl⟩,True.intro⟩ (Cl_ (K:=K) rfl (pv 1)) (fun _ _ _ _=>(Ak (i:=0) Kb rfl (Or.inl rfl))) (fun _ _ _ _=>BV) (fun _ _ _ _=>(Ax (Ec (K:=K) rfl) (pv 0) (pv 1) (fun _ _=>rfl)))) Ab)))) Ab)))),?_⟩
  walk_at "rd"
  refine⟨_,.inr hu,by omega,by omega,?_⟩
  rw[Int.toNat_natCast,hxl,hdn]
  refine L8 (fun c zs σ4 H4=>Same H H4/\AS K H4 zs ((List.range c).map (fun c=>colW tb c))/\∃o,σ4=[o,some (.ref u)]) ⟨Same.refl _,AS.nil,none,rfl⟩ (by omega) (fun c zs σ4 H4 _ h4=>?_) (fun c zs σ4 H4 hc h4=>?_) (fun zs σ4 H4 h4 D hD=>?_)
  ·rw[h4.2.1.1,List.length_map,List.length_range];exact Nat.le_refl _
  ·obtain⟨s4,hZ,o,rfl⟩:=h4
   rw[Int.zero_add]
   walk_at "rd"
   refine Ah_ (σ':=[some (.int c)]) c rfl (s4.seqT hu) (hX.mono s4) (fun r hr=>by rw[da.r r hr];exact hc) (by omega) (fun t r R hcr ht hR=>?_) (fun D hD=>?_)
   ·walk_at "rd"
    exact⟨_,ht,_,MC hcr,hR⟩
   ·refine⟨D,rfl,_,.inl ⟨SqL.of Ac,fun q hq=>?_⟩⟩
    have sq:=(Same.new hD (o:=.lst ((colW tb c).map V.int))).newT hq (o:=.tup ((colW tb c).map V.int))
    refine⟨s4.trans sq,?_,_,rfl⟩
    rw[List.range_succ,List.map_append]
    exact (hZ.mono sq).snoc (SqT.of Ac)
  ·obtain⟨s4,hZ,o,rfl⟩:=h4
   refine⟨D,rfl,_,.inl ⟨SqL.of Ac,fun q hq=>?_⟩⟩
   have sq:=(Same.new hD (o:=.lst zs)).newT hq (o:=.tup zs)
   exact k q zs _ (s4.trans sq) Ac (hZ.mono sq)
def Qw (K:PySem.W.Frag):Sp:=fun vs H Q _=>∃(h:Addr) (p L:Int) (d:Nat) (f l:List Int) (t:List (List (List Int))),vs=[.ref h]/\SumH K H h p L f t l/\WfSum p L d f t l/\L<=6/\∀q H',Same H H'->SumH K H' q p L l (t.map (EV d)) f->Q (.ref q) H'
theorem T5 {f:Addr}{fd:FuncData}(F:Fun K "sums_back" "sums_back" CW f fd)(T:Txt mg)
  (Z:Exs K mg C_AskError C_BadWord C_NoInverse)
  {Dj:Addr} {GV:FuncData} (Il:FnOk P w K mg base CX0 1 Dj GV ["table"] (Ws K)) (EW:Fun K "table_back" "table_back" CV Dj GV) (Im:Binds K GV ["table"] []) (Io:mg "table_back"=some (.ref Dj))
  : FnOk P w K mg base CX0 2 f fd ["house"] (Qw K):=by
 refine F.ok LR (fun vs H Q E h=>?_) (fun cdv A outer s H vs Q E hr h=>?_)
 ·obtain⟨h,p,L,d,f,l,t,rfl,_⟩:=h;rfl
 ·obtain⟨h,p,L,d,f,l,t,rfl,hs,wf,hL6,k⟩:=h
  have hl:=Al
  obtain⟨a1,a2,a3,x1,x2,x3,us,x4,x5,x6⟩:=hs
  have ht:=wf.t
  refine⟨_,(Ad (Ai (i:=1) LR.nd rfl (Or.inl rfl) (Aw Ap rfl T.tuple PyProof.Rows.boot_tuple (Aa (BN rfl (Ck rfl) (cp:=Kc) True.intro (Jm (Ax Au (pv 0) Ag (fun _ _=>rfl))) (fun _ _ _ _=>(Ak (i:=0) Mc rfl (Or.inl rfl))) (fun _ _ _ _=>BV) (fun _ _ _ _=>(Ah Il (hr.mono (by decide)) rfl Io EW.kp Im .nil Az (Aa (pv 0) Ab)))) Ab)))
   (Af (Aq (Cj (Aa (Ax Au (pv 0) Ag (fun _ _=>rfl)) (Aa (Ax Au (pv 0) Ag (fun _ _=>rfl)) (Aa (Ax Au (pv 0) Ag (fun _ _=>rfl)) (Aa (pv 1) (Aa (Ax Au (pv 0) Ag (fun _ _=>rfl)) Ab))))))))),?_⟩
  walk_at "rd"
  refine⟨_,x1,_,rfl,a2,rfl,⟨_,x4⟩,Yq (xs:=us.map V.ref) (fun i zs σ2 H2=>Same H H2/\Hv K H2 zs ((t.map (EV d)).take i)/\∃o,σ2=[o]) ⟨Same.refl _,Hv.nil,none,rfl⟩ (by rw[List.length_map];omega) (fun i zs σ2 H2 hi h=>⟨h.1.seqT x4,by rw[h.2.1.1,List.length_take];omega⟩) (fun i x zs σ2 H2 hx h=>?_) (fun zs σ2 H2 h D hD=>?_)⟩
  ·obtain⟨s,hZ,o,rfl⟩:=h
   obtain⟨u,hu,rfl⟩:∃u,us[i]?=some u/\x=.ref u:=by
    rw[List.getElem?_map]at hx
    cases h1:us[i]? with
    |none=>rw[h1]at hx;cases hx
    |some u=>rw[h1]at hx;cases hx;exact⟨u,rfl,rfl⟩
   have hi:i<t.length:=by rw[<-x5];exact (List.getElem?_eq_some_iff.mp hu).1
   have hti:t[i]?=some t[i]:=by simp[hi]
   obtain⟨xs,c1,c2⟩:=x6 i u _ hu hti
   have hw:=wf.tt _ (List.getElem_mem hi)
   walk_at "rd"
   refine⟨u,xs,t[i],d,rfl,s.seqT c1,c2.mono s,⟨hw.1,hw.2⟩,wf.dl,fun q ys H3 s3 hq hy=>⟨s.trans s3,?_,_,rfl⟩⟩
   rw[List.take_add_one,List.getElem?_map,hti]
   exact (hZ.mono s3).snoc (SqT.of hq) hy
  ·obtain⟨s,hZ,_⟩:=h
   rw[List.length_map,x5,<-List.length_map (f:=EV d),List.take_length]at hZ
   refine⟨D,rfl,_,.inl ⟨SqL.of Ac,fun q hq=>?_⟩⟩
   have sD:=(Same.new hD (o:=.lst zs)).newT hq (o:=.tup zs)
   have s3:=s.trans sD
   have hq3:upd (upd H2 D (.lst zs)) q (.tup zs) q=some (.tup zs):=Ac
   have hZ3:=hZ.mono sD
   generalize upd (upd H2 D (.lst zs)) q (.tup zs)=H3 at sD s3 hq3 hZ3 ⊢
   refine⟨_,s3.seqT x1,_,rfl,_,s3.seqT x1,_,rfl,_,s3.seqT x1,_,rfl,_,s3.seqT x1,_,rfl,by omega,fun qz hqz=>?_⟩
   have sz:=Same.new hqz (o:=.tup [V.int p,V.int L,V.ref a3,V.ref q,V.ref a1])
   have s4:=s3.trans sz
   exact k qz _ s4 ⟨a3,q,a1,SqT.of Ac,s4.seqT x3,s4.seqT x2,(hZ3.mono sz).tabs (sz.seqT (SqT.of hq3))⟩
theorem Indep.of {p:Int}(hp:2<=p)(hI:∀a:Int,0<a->a<p->∃inv:Int,inv*a%p=1){m:Nat}:∀(k:Nat) (rows:List (List Int)),rows.length=k->(∀i:Nat,i<rows.length->¬ Span p m (rows.take i) fun j=>(rows.getD i []).getD j 0)->Indep p m rows
 |0,rows,hk,_=>by
  have:rows=[]:=List.length_eq_zero_iff.mp hk
  subst this
  exact Indep.nil p m
 |k+1,rows,hk,h=>by
  obtain⟨R,r,rfl⟩:∃R r,rows=R++[r]:=⟨rows.dropLast,rows.getLast (by intro e;subst e;simp at hk),(List.dropLast_concat_getLast _).symm⟩
  have hkl:R.length=k:=by simp at hk;exact hk
  have ih:=Indep.of hp hI k R hkl fun i hi=>by
   have:=h i (by simp;omega)
   rw[List.take_append_of_le_length (by omega)]at this
   rw[List.getD_eq_getElem?_getD,List.getElem?_append_left hi]at this
   rw[List.getD_eq_getElem?_getD]
   exact this
  have hl:=h R.length (by simp)
  rw[List.take_left' rfl,List.getD_eq_getElem?_getD,List.getElem?_append_right (Nat.le_refl _),Nat.sub_self]at hl
  intro cs hc h0
  obtain⟨ds,c,rfl⟩:∃ds c,cs=ds++[c]:=⟨cs.dropLast,cs.getLast (by intro e;subst e;simp at hc),(List.dropLast_concat_getLast _).symm⟩
  have hdl:ds.length=R.length:=by simp at hc;exact hc
  have hsum:∀i:Nat,i<m->(dotW ds (colW R i)+c*r.getD i 0)%p=0:=fun i hi=>by
   have:=h0 i hi
   rw[MF]at this
   rw[show colW [r] i=[r.getD i 0] from rfl,Ql _ _ (by rw[FZ,hdl])]at this
   exact this
  have hc0:c%p=0:=by
   refine Decidable.byContradiction fun hne=>hl ?_
   have hm0:=Int.emod_nonneg c (show p≠0 by omega)
   have hm1:=Int.emod_lt_of_pos c (show 0<p by omega)
   obtain⟨inv,hinv⟩:=hI (c%p) (by omega) hm1
   refine⟨ds.map (-inv * ·),by rw[List.length_map,hdl],fun i hi=>?_⟩
   rw[HV]
   show ((some r).getD []).getD i 0%p=_
   have h1:=hsum i hi
   have hinv':inv*c%p=1:=by rw[Int.mul_emod,<-hinv,Int.mul_emod inv (c%p),Int.emod_emod_of_dvd _ (Int.dvd_refl p)]
   have e:r.getD i 0 - -inv*dotW ds (colW R i)=inv*(dotW ds (colW R i)+c*r.getD i 0)-(inv*c-1)*r.getD i 0:=by
    rw[Int.mul_add,Int.sub_mul,Int.one_mul,Int.neg_mul,Int.mul_assoc];omega
   refine Int.emod_eq_emod_iff_emod_sub_eq_zero.mpr ?_
   show (r.getD i 0-_)%p=0
   rw[e]
   have d1:p ∣ inv*(dotW ds (colW R i)+c*r.getD i 0):=Int.dvd_mul_of_dvd_right (Int.dvd_of_emod_eq_zero h1)
   have d2:p ∣ (inv*c-1)*r.getD i 0:=Int.dvd_mul_of_dvd_left (Int.dvd_of_emod_eq_zero (by rw[Int.sub_emod,hinv'];have:(1:Int)%p=1:=Int.emod_eq_of_lt (by omega) (by omega);rw[this];simp))
   exact Int.emod_eq_zero_of_dvd (Int.dvd_sub d1 d2)
  intro x hx
  rcases List.mem_append.mp hx with hx|hx
  ·refine ih ds hdl (fun i hi=>?_) x hx
   have h1:=hsum i hi
   rw[Int.add_emod,Int.mul_emod,hc0]at h1
   simpa using h1
  ·rw[List.mem_singleton.mp hx];exact hc0
structure BW (p L:Int)(d:Nat)(tables:List (List (List Int)))(first:List Int)(F:List (List Int))(n:Nat)(K:List (List Int)):Prop where
 nF:n<=F.length
 f0:F[0]?=some []
 valid:∀f∈F,isW L f=true
 sorted:F.Pairwise fun a b=>place L a<place L b
 from_:∀f∈F,f=[] \/ ∃u x,f=u++[x]/\u∈F.take n
 kF:∀w∈K,w∈F.take n
 kSort:K.Pairwise fun a b=>place L a<place L b
 kids:∀w∈K,∀x:Int,0<=x->x<L->w++[x]∈F
 kPre:∀w∈K,w=[]\/w.dropLast∈K
 fPre:∀f∈F,f=[]\/f.dropLast∈K
 free:∀i:Nat,i<K.length->¬ Span p d ((K.take i).map (rowS p d tables first)) fun j=>(rowS p d tables first (K.getD i [])).getD j 0
 span:∀f∈F.take n,∃j:Nat,j<=K.length/\Span p d ((K.take j).map (rowS p d tables first)) (fun i=>(rowS p d tables first f).getD i 0)/\∀w∈K.take j,place L w<=place L f
 flen:(F.length:Int)=1+K.length*L
 short:∀f∈F,f.length<=K.length
 zero:n=0->K=[]/\F=[[]]
 nil0:0<n->(∀i:Nat,i<d->first.getD i 0%p=0)->K=[]
 nil1:0<n->¬ (∀i:Nat,i<d->first.getD i 0%p=0)->K[0]?=some []
theorem BW.start {p L:Int}{d:Nat}{tables:List (List (List Int))}{first:List Int}:BW p L d tables first [[]] 0 [] where
 nF:=by simp
 f0:=rfl
 valid:=fun f hf=>by rw[List.mem_singleton.mp hf];rfl
 sorted:=List.pairwise_singleton ..
 from_:=fun f hf=>.inl (List.mem_singleton.mp hf)
 kF:=fun w hw=>by cases hw
 kSort:=.nil
 kids:=fun w hw=>by cases hw
 kPre:=fun w hw=>by cases hw
 fPre:=fun f hf=>.inl (List.mem_singleton.mp hf)
 free:=fun i hi=>by simp at hi
 span:=fun f hf=>by simp at hf
 flen:=by simp
 short:=fun f hf=>by rw[List.mem_singleton.mp hf];exact Nat.le_refl _
 zero:=fun _=>⟨rfl,rfl⟩
 nil0:=fun h=>absurd h (Nat.lt_irrefl 0)
 nil1:=fun h=>absurd h (Nat.lt_irrefl 0)
theorem Vs {α:Type}{R:α->α->Prop}{F:List α}(h:F.Pairwise R){n:Nat}{f w:α}(hf:F[n]?=some f)(hw:w∈F.take n):R w f:=by
 obtain⟨i,hi⟩:=List.mem_iff_getElem?.mp hw
 rw[List.getElem?_take]at hi
 split at hi
 ·rename_i hlt
  have h1:=(List.getElem?_eq_some_iff.mp hi)
  have h2:=(List.getElem?_eq_some_iff.mp hf)
  have:=List.pairwise_iff_getElem.mp h i n h1.1 h2.1 hlt
  rw[h1.2,h2.2]at this
  exact this
 ·cases hi
theorem B1 {α:Type}{F:List α}{n:Nat}{f x:α}(hf:F[n]?=some f):x∈F.take (n+1)↔x∈F.take n\/x=f:=by
 rw[List.take_add_one,hf]
 simp
section
variable {p L:Int} {d:Nat} {tables:List (List (List Int))} {first:List Int} {F:List (List Int)} {n:Nat} {K:List (List Int)}
theorem BW.lt (h:BW p L d tables first F n K){f w:List Int}(hf:F[n]?=some f)(hw:w∈K):place L w<place L f:=Vs h.sorted hf (h.kF w hw)
theorem BW.once (h:BW p L d tables first F n K){f:List Int}(hf:F[n]?=some f)(hn:0<n):f ≠ []:=fun e=>by
 have h0:([]:List Int)∈F.take n:=List.mem_iff_getElem?.mpr ⟨0,by rw[List.getElem?_take,if_pos hn];exact h.f0⟩
 have:=Vs h.sorted hf h0
 rw[e]at this
 omega
theorem BW.some_ (h:BW p L d tables first F n K){f:List Int}(hf:F[n]?=some f)(hn:0<n):K ≠ []:=fun e=>by
 rcases h.fPre f (List.mem_of_getElem? hf) with z|z
 ·exact h.once hf hn z
 ·rw[e]at z;cases z
theorem BW.same (h:BW p L d tables first F n K){v:Nat->Int}:Span p d ((F.take n).map (rowS p d tables first)) v↔Span p d (K.map (rowS p d tables first)) v:=by
 constructor
 ·refine fun g=>g.trans fun r hr=>?_
  obtain⟨f,hf,rfl⟩:=List.mem_map.mp hr
  obtain⟨j,hj,a,_⟩:=h.span f hf
  have:=a.app ((K.drop j).map (rowS p d tables first))
  rwa [<-List.map_append,List.take_append_drop]at this
 ·refine fun g=>g.trans fun r hr=>?_
  obtain⟨w,hw,rfl⟩:=List.mem_map.mp hr
  exact Span.mem (List.mem_map_of_mem (h.kF w hw))
theorem BW.skip (h:BW p L d tables first F n K){f:List Int}(hf:F[n]?=some f)(hs:Span p d (K.map (rowS p d tables first)) fun i=>(rowS p d tables first f).getD i 0):BW p L d tables first F (n+1) K where
 nF:=(List.getElem?_eq_some_iff.mp hf).1
 f0:=h.f0
 valid:=h.valid
 sorted:=h.sorted
 from_:=fun g hg=>by
  rcases h.from_ g hg with z|⟨u,x,a,b⟩
  ·exact .inl z
  ·exact .inr ⟨u,x,a,(B1 hf).mpr (.inl b)⟩
 kF:=fun w hw=>(B1 hf).mpr (.inl (h.kF w hw))
 kSort:=h.kSort
 kids:=h.kids
 kPre:=h.kPre
 fPre:=h.fPre
 free:=h.free
 flen:=h.flen
 short:=h.short
 span:=fun g hg=>by
  rcases (B1 hf).mp hg with hg|rfl
  ·exact h.span g hg
  ·exact⟨K.length,Nat.le_refl _,by rw[List.take_length];exact hs,fun w hw=>by rw[List.take_length]at hw;exact Int.le_of_lt (h.lt hf hw)⟩
 zero:=fun z=>by omega
 nil0:=fun _ z=>by
  by_cases hn:n=0
  ·exact (h.zero hn).1
  ·exact h.nil0 (by omega) z
 nil1:=fun _ z=>by
  by_cases hn:n=0
  ·subst hn
   obtain⟨e1,e2⟩:=h.zero rfl
   rw[h.f0]at hf
   cases hf
   rw[e1]at hs
   obtain⟨cs,a,b⟩:=hs
   have:cs=[]:=List.length_eq_zero_iff.mp a
   subst this
   refine absurd (fun i hi=>?_) z
   have e:first.getD i 0%p=dotW [] _%p:=b i hi
   rw[e,Cu];simp
  ·exact h.nil1 (by omega) z
theorem BW.add {Ln:Nat}(hL:L=(Ln:Int))(h:BW p L d tables first F n K){f:List Int}(hf:F[n]?=some f)(hs:¬ Span p d (K.map (rowS p d tables first)) fun i=>(rowS p d tables first f).getD i 0):BW p L d tables first (F++(List.range Ln).map fun (x:Nat)=>f++[(x:Int)]) (n+1) (K++[f]):=by
 have hfF:=List.mem_of_getElem? hf
 have hfv:=h.valid f hfF
 have hnl:=(List.getElem?_eq_some_iff.mp hf).1
 have htk:(F++(List.range Ln).map fun (x:Nat)=>f++[(x:Int)]).take (n+1)=F.take (n+1):=List.take_append_of_le_length (by omega)
 have hp0:∀w:List Int,isW L w=true->0<=place L w:=fun w hw=>by
  by_cases hL0:0<L
  ·have:=(LP hL0 hw).1
   have:=Fp hL0 w.length
   omega
  ·cases w with
   |nil=>rw[Tx];exact Int.le_refl 0
   |cons x w=>have:=Bl.mp hw x (by simp);omega
 have hnew:∀g∈(List.range Ln).map (fun (x:Nat)=>f++[(x:Int)]),∃x:Int,g=f++[x]/\0<=x/\x<L:=fun g hg=>by
  obtain⟨x,hx,rfl⟩:=List.mem_map.mp hg
  exact⟨x,rfl,by omega,by have:=List.mem_range.mp hx;omega⟩
 refine⟨by simp;omega,?_,fun g hg=>?_,?_,fun g hg=>?_,fun w hw=>?_,?_,fun w hw x x0 x1=>?_,fun w hw=>?_,fun g hg=>?_,fun i hi=>?_,fun g hg=>?_,?_,fun g hg=>?_,fun z=>by omega,fun _ z=>?_,fun _ z=>?_⟩
 ·rw[List.getElem?_append_left (by omega)];exact h.f0
 ·rcases List.mem_append.mp hg with hg|hg
  ·exact h.valid g hg
  ·obtain⟨x,rfl,x0,x1⟩:=hnew g hg
   refine Bl.mpr fun y hy=>?_
   rcases List.mem_append.mp hy with hy|hy
   ·exact Bl.mp hfv y hy
   ·rw[List.mem_singleton.mp hy];exact⟨x0,x1⟩
 ·refine List.pairwise_append.mpr ⟨h.sorted,?_,fun a ha b hb=>?_⟩
  ·refine List.pairwise_map.mpr ((List.pairwise_lt_range).imp fun {x y} hxy=>?_)
   rw[Gp,Gp];omega
  ·obtain⟨x,rfl,x0,x1⟩:=hnew b hb
   rw[Gp]
   have hpf:=hp0 f hfv
   have hm:0<=place L f*L:=Int.mul_nonneg hpf (by omega)
   rcases h.from_ a ha with rfl|⟨u,y,rfl,hu⟩
   ·rw[Tx];omega
   ·have hlt:=Vs h.sorted hf hu
    have hy:=Bl.mp (h.valid _ ha) y (by simp)
    rw[Gp]
    have:(place L u+1)*L<=place L f*L:=Int.mul_le_mul_of_nonneg_right (by omega) (by omega)
    rw[Int.add_mul,Int.one_mul]at this
    omega
 ·rw[htk]
  rcases List.mem_append.mp hg with hg|hg
  ·rcases h.from_ g hg with z|⟨u,x,a,b⟩
   ·exact .inl z
   ·exact .inr ⟨u,x,a,(B1 hf).mpr (.inl b)⟩
  ·obtain⟨x,rfl,x0,x1⟩:=hnew g hg
   exact .inr ⟨f,x,rfl,(B1 hf).mpr (.inr rfl)⟩
 ·rw[htk]
  rcases List.mem_append.mp hw with hw|hw
  ·exact (B1 hf).mpr (.inl (h.kF w hw))
  ·exact (B1 hf).mpr (.inr (List.mem_singleton.mp hw))
 ·refine List.pairwise_append.mpr ⟨h.kSort,List.pairwise_singleton ..,fun a ha b hb=>?_⟩
  rw[List.mem_singleton.mp hb]
  exact h.lt hf ha
 ·rcases List.mem_append.mp hw with hw|hw
  ·exact List.mem_append_left _ (h.kids w hw x x0 x1)
  ·rw[List.mem_singleton.mp hw]
   refine List.mem_append_right _ (List.mem_map.mpr ⟨x.toNat,List.mem_range.mpr (by omega),?_⟩)
   rw[Int.toNat_of_nonneg x0]
 ·rcases List.mem_append.mp hw with hw|hw
  ·rcases h.kPre w hw with z|z
   ·exact .inl z
   ·exact .inr (List.mem_append_left _ z)
  ·rw[List.mem_singleton.mp hw]
   rcases h.fPre f hfF with z|z
   ·exact .inl z
   ·exact .inr (List.mem_append_left _ z)
 ·rcases List.mem_append.mp hg with hg|hg
  ·rcases h.fPre g hg with z|z
   ·exact .inl z
   ·exact .inr (List.mem_append_left _ z)
  ·obtain⟨x,rfl,x0,x1⟩:=hnew g hg
   exact .inr (by rw[List.dropLast_concat];simp)
 ·by_cases hik:i<K.length
  ·have:=h.free i hik
   rw[List.take_append_of_le_length (by omega),List.getD_eq_getElem?_getD,List.getElem?_append_left hik,<-List.getD_eq_getElem?_getD]
   exact this
  ·have ei:i=K.length:=by simp at hi;omega
   subst ei
   rw[List.take_left' rfl,List.getD_eq_getElem?_getD,List.getElem?_append_right (Nat.le_refl _),Nat.sub_self]
   exact hs
 ·rw[htk]at hg
  rcases (B1 hf).mp hg with hg|rfl
  ·obtain⟨j,a,b,c⟩:=h.span g hg
   refine⟨j,by simp;omega,?_,?_⟩
   ·rw[List.take_append_of_le_length a];exact b
   ·rw[List.take_append_of_le_length a];exact c
  ·refine⟨K.length+1,by simp,?_,fun w hw=>?_⟩
   ·rw[List.take_of_length_le (by simp),List.map_append]
    exact Span.last _ _
   ·rw[List.take_of_length_le (by simp)]at hw
    rcases List.mem_append.mp hw with hw|hw
    ·exact Int.le_of_lt (h.lt hf hw)
    ·rw[List.mem_singleton.mp hw];exact Int.le_refl _
 ·have:=h.flen
  rw[List.length_append,List.length_append,List.length_map,List.length_range]
  push_cast
  rw[this,<-hL,Int.add_mul]
  simp
  omega
 ·rw[List.length_append,List.length_singleton]
  rcases List.mem_append.mp hg with hg|hg
  ·have:=h.short g hg;omega
  ·obtain⟨x,rfl,x0,x1⟩:=hnew g hg
   rw[List.length_append,List.length_singleton]
   have:=h.short f hfF;omega
 ·exfalso
  by_cases hn:n=0
  ·subst hn
   obtain⟨e1,e2⟩:=h.zero rfl
   rw[h.f0]at hf
   cases hf
   rw[e1]at hs
   exact hs ⟨[],rfl,fun i hi=>by rw[Cu];show first.getD i 0%p=0%p;rw[z i hi];simp⟩
  ·exact h.some_ hf (by omega) (h.nil0 (by omega) z)
 ·by_cases hn:n=0
  ·subst hn
   obtain⟨e1,e2⟩:=h.zero rfl
   rw[h.f0]at hf
   cases hf
   rw[e1];rfl
  ·have:=h.nil1 (by omega) z
   have hk:0<K.length:=(List.getElem?_eq_some_iff.mp this).1
   rw[List.getElem?_append_left hk];exact this
end
def RowD (K:PySem.W.Frag)(H:Hp)(kvs:List (List Key×V))(ws:List (List Int))(row:List Int->List Int):Prop:=TF ws kvs/\AS K H (kvs.map (·.2)) (ws.map row)
def Prs (K:PySem.W.Frag)(H:Hp)(xs:List V)(ws:List (List Int))(row:List Int->List Int):Prop:=xs.length=ws.length/\∀(i:Nat) (v:List Int),ws[i]?=some v->∃t a b,xs[i]?=some (.ref t)/\SqT K H t [.ref a,.ref b]/\H a=some (.tup (v.map V.int))/\SqT K H b ((row v).map V.int)
theorem Prs.mono {K:PySem.W.Frag}{H H':Hp}{xs:List V}{ws:List (List Int)}{row:List Int->List Int}(h:Prs K H xs ws row)(s:∀t ys,SqT K H t ys->SqT K H' t ys)(s2:∀t ys,H t=some (.tup ys)->H' t=some (.tup ys)):Prs K H' xs ws row:=⟨h.1,fun i v hi=>by
 obtain⟨t,a,b,e,h1,h2,h3⟩:=h.2 i v hi
 exact⟨t,a,b,e,s _ _ h1,s2 _ _ h2,s _ _ h3⟩⟩
theorem Prs.snoc {K:PySem.W.Frag}{H:Hp}{xs:List V}{ws:List (List Int)}{row:List Int->List Int}(h:Prs K H xs ws row){t a b:Addr}{v:List Int}(h1:SqT K H t [.ref a,.ref b])(h2:H a=some (.tup (v.map V.int)))(h3:SqT K H b ((row v).map V.int)):Prs K H (xs++[.ref t]) (ws++[v]) row:=by
 refine⟨by rw[List.length_append,List.length_append,h.1];rfl,fun i r hi=>?_⟩
 by_cases hil:i<ws.length
 ·rw[List.getElem?_append_left hil]at hi
  rw[List.getElem?_append_left (by rw[h.1];exact hil)]
  exact h.2 i r hi
 ·have:=(List.getElem?_eq_some_iff.mp hi).1
  rw[List.length_append,List.length_singleton]at this
  have ei:i=ws.length:=by omega
  subst ei
  rw[List.getElem?_append_right (Nat.le_refl _),Nat.sub_self]at hi
  simp at hi
  subst hi
  exact⟨t,a,b,by rw[<-h.1];simp,h1,h2,h3⟩
theorem AS.mono2 {K:PySem.W.Frag}{H H':Hp}{xs:List V}{rows:List (List Int)}(h:AS K H xs rows)(s:∀t ys,SqT K H t ys->SqT K H' t ys):AS K H' xs rows:=⟨h.1,fun i r hi=>by
 obtain⟨t,e,h1⟩:=h.2 i r hi
 exact⟨t,e,s _ _ h1⟩⟩
theorem _root_.L2.Same.gone' {H H':Hp}{a:Addr}(s:Same H H')(h:H' a=none):H a=none:=by
 cases e:H a with
 |none=>rfl
 |some u=>rw[s _ _ e]at h;cases h
theorem Nm {K:PySem.W.Frag}{H:Hp}{p t:Addr}{xs:List V}{kvs kvs':List (List Key×V)}(hp:H p=some (.dT kvs))(h:SqT K H t xs):SqT K (upd H p (.dT kvs')) t xs:=by
 rcases h with (q|⟨o,q⟩)|q
 ·refine .inl (.inl ?_)
  rw[Av (fun z=>by rw[z,hp]at q;cases q)];exact q
 ·refine .inl (.inr ⟨o,?_⟩)
  rw[Av (fun z=>by rw[z,hp]at q;cases q)];exact q
 ·exact .inr q
theorem BasD.offT {K:PySem.W.Frag}{H:Hp}{p d:Addr}{bs:List (Nat×List Int)}{kvs kvs':List (List Key×V)}(h:BasD K H d bs)(hp:H p=some (.dT kvs)):BasD K (upd H p (.dT kvs')) d bs:=by
 obtain⟨kv,h1,h2,h3⟩:=h
 refine⟨kv,?_,h2,fun i x hx=>?_⟩
 ·rcases h1 with h1|⟨o,h1⟩
  ·exact .inl (by rw[Av (fun z=>by rw[z,hp]at h1;cases h1)];exact h1)
  ·exact .inr ⟨o,by rw[Av (fun z=>by rw[z,hp]at h1;cases h1)];exact h1⟩
 ·obtain⟨t,a,b⟩:=h3 i x hx
  exact⟨t,a,Nm hp b⟩
theorem BasD.ne {K:PySem.W.Frag}{H:Hp}{p d:Addr}{bs:List (Nat×List Int)}{o:HO}(h:BasD K H d bs)(hp:H p=some o)(h1:∀kvs,o ≠ .dK kvs)(h2:∀ob kvs,o ≠ .frz ob (.dK kvs)):p≠d:=fun z=>by
 obtain⟨kv,h3,_⟩:=h
 rcases h3 with h3|⟨ob,h3⟩
 ·rw[<-z,hp]at h3;exact h1 _ (Option.some.inj h3)
 ·rw[<-z,hp]at h3;exact h2 _ _ (Option.some.inj h3)
theorem _root_.L2.FzAt.tup {d a:Addr}{H H':Hp}{xs:List V}(s:FzAt d H H')(h:H a=some (.tup xs)):H' a=some (.tup xs):=by
 by_cases e:a=d
 ·subst e
  rcases s.2 _ h with g|⟨kvs,o,g,_⟩
  ·exact g
  ·cases g
 ·exact s.1 a _ e h
def MG (K:PySem.W.Frag):Sp:=fun vs H Q _=>∃(h:Addr) (p:Int) (L d:Nat) (first last:List Int) (tables:List (List (List Int))),vs=[.ref h]/\Pr p/\SumH K H h p L first tables last/\WfSum p L d first tables last/\L<=6/\d<=16/\∀q kvs F ws H',Same H H'->H' q=some (.dT kvs)->H q=none->RowD K H' kvs ws (Mine.rowS p d tables first)->BW p L d tables first F F.length ws->ws.length<=d->Q (.ref q) H'
theorem Qx {f:Addr}{fd:FuncData}(F:Fun K "basis_rows" "basis_rows" BX f fd)(T:Txt mg)
  (Z:Exs K mg C_AskError C_BadWord C_NoInverse)
  {Ar:Addr} {AA:FuncData} (AX:FnOk P w K mg base CX0 1 Ar AA ["row"] (Wl K)) (AG:Fun K "place_of_first" "place_of_first" AW Ar AA) (AY:Binds K AA ["row"] []) (AZ:mg "place_of_first"=some (.ref Ar))
  {A5:Addr} {Be:FuncData} (CB:FnOk P w K mg base CX0 2 A5 Be ["p","bases","row"] (M9 K)) (BZ:Fun K "left_of" "left_of" DI A5 Be) (CC:Binds K Be ["p","bases","row"] []) (CD:mg "left_of"=some (.ref A5))
  {BF:Addr} {Dc:FuncData} (EA:FnOk P w K mg base CX0 3 BF Dc ["p","bases","left","place"] (Ct_ K)) (Dd:Fun K "with_base" "with_base" CQ BF Dc) (EB:Binds K Dc ["p","bases","left","place"] []) (EC:mg "with_base"=some (.ref BF))
  {BG:Addr} {Ce:FuncData} (Ek:FnOk P w K mg base CX0 3 BG Ce ["house","row","letter"] (Jf K)) (Df:Fun K "stepped" "stepped" Ed BG Ce) (El:Binds K Ce ["house","row","letter"] []) (Em:mg "stepped"=some (.ref BG))
  : FnOk P w K mg base CX0 4 f fd ["house"] (MG K):=by
 refine F.ok AQ (fun vs H Q E h=>?_) (fun cdv A outer s H vs Q E hr h=>?_)
 ·obtain⟨h,p,L,d,first,last,tables,rfl,_⟩:=h;rfl
 ·obtain⟨h,p,L,d,first,last,tables,rfl,hp,hh,wf,hL6,hd16,k⟩:=h
  have hl:=Al
  have hp1:=hp.1
  have hp2:=hp.2.1
  obtain⟨tf,tt,tl,h1,h2,h3,h4⟩:=id hh
  refine⟨_,(Ad (Ai (i:=1) AQ.nd rfl (Or.inl rfl) (Ax Au (pv 0) Ag (fun _ _=>rfl)))
   (Ad (Ai (i:=2) AQ.nd rfl (Or.inl rfl) ZI)
   (Ad (Ai (i:=3) AQ.nd rfl (Or.inl rfl) PQ)
   (Ad (Ai (i:=4) AQ.nd rfl (Or.inl rfl) (Fo (Aa (Cj (Aa (Cj Ab) (Aa (Ax Au (pv 0) Ag (fun _ _=>rfl)) Ab))) Ab)))
   (Ad (Ai (i:=5) AQ.nd rfl (Or.inl rfl) Ag)
   (Ad (PJ PassesOwn.never (Bc U3 (pv 5) (As Aj (by rfl) T.len PySem.boot_len (Aa (pv 4) Ab)) (BM _))
   (Ad (Ai (i:=6) AQ.nd rfl (Or.inl rfl) (Ax Au (Ax E6 (pv 4) (pv 5) (fun _ _=>rfl)) Ag (fun _ _=>rfl)))
   (Ad (Ai (i:=7) AQ.nd rfl (Or.inl rfl) (Ax Au (Ax E6 (pv 4) (pv 5) (fun _ _=>rfl)) Ag (fun _ _=>rfl)))
   (Ad (Ai (i:=8) AQ.nd rfl (Or.inl rfl) (Ah CB (hr.mono (by decide)) rfl CD BZ.kp CC .nil Az (Aa (pv 1) (Aa (pv 3) (Aa (pv 7) Ab)))))
   (Ad (Ai (i:=9) AQ.nd rfl (Or.inl rfl) (Ah AX (hr.mono (by decide)) rfl AZ AG.kp AY .nil Az (Aa (pv 8) Ab)))
   (Va (Et (Bc X2 (pv 9) Tg (BM _))
   (Ad (U7 (ZC hr) (pv 2) (pv 6) (pv 7) rfl)
   (Ad (Ai (i:=3) AQ.nd rfl (Or.inl rfl) (Ah EA (hr.mono (by decide)) rfl EC Dd.kp EB .nil Az (Aa (pv 1) (Aa (pv 3) (Aa (pv 8) (Aa (pv 9) Ab))))))
   (Af (CM PassesOwn.never rfl (A0 rfl T.range (Aa (Ax Au (pv 0) Ag (fun _ _=>rfl)) Ab)) (Ak (i:=10) AQ.nd rfl (Or.inl rfl))
   (Af (DO (J5 PySem.F.plainAttrs_list PySem.F.slot_list_append PySem.F.type_list_append BS (pv 4) (Aa (Cj (Aa (An DM (pv 6) (Cj (Aa (pv 10) Ab))) (Aa (Ah Ek (hr.mono (by decide)) rfl Em Df.kp El .nil Az (Aa (pv 0) (Aa (pv 7) (Aa (pv 10) Ab)))) Ab))) Ab))))))))
   Bb)
   (Af (CW_ (i:=5) AQ.nd rfl (Or.inl rfl) Ag CX_))))))))
   (Af (Aq (pv 2))))))))),?_⟩
  walk_at "rd"
  refine⟨_,h1,V.int p,rfl,fun dr hdr db hdb=>?_⟩
  refine⟨by omega,fun t0 ht0=>⟨_,(((Same.new hdr (o:=.dT [])).newT hdb (o:=.dK [])).newT ht0 (o:=.tup [])).seqT h1,V.ref tf,rfl,by omega,fun t1 ht1=>⟨by omega,fun pf hpf=>?_⟩⟩⟩
  have s0:=(((Same.new hdr (o:=.dT [])).newT hdb (o:=.dK [])).newT ht0 (o:=.tup [])).newT ht1 (o:=.tup [V.ref t0,V.ref tf])
  have sP:=s0.newT hpf (o:=.lst [V.ref t1])
  have hdbN:H db=none:=(Same.new hdr (o:=.dT [])).gone' hdb
  have hpfN:H pf=none:=s0.gone' hpf
  have u_dr:upd (upd (upd (upd (upd H dr (HO.dT [])) db (HO.dK [])) t0 (HO.tup [])) t1 (HO.tup [V.ref t0,V.ref tf])) pf (HO.lst [V.ref t1]) dr=some (.dT []):=Same.new hpf _ _ (Same.new ht1 _ _ (Same.new ht0 _ _ (Same.new hdb _ _ Ac)))
  have u_db:upd (upd (upd (upd (upd H dr (HO.dT [])) db (HO.dK [])) t0 (HO.tup [])) t1 (HO.tup [V.ref t0,V.ref tf])) pf (HO.lst [V.ref t1]) db=some (.dK []):=Same.new hpf _ _ (Same.new ht1 _ _ (Same.new ht0 _ _ Ac))
  have u_pf:upd (upd (upd (upd (upd H dr (HO.dT [])) db (HO.dK [])) t0 (HO.tup [])) t1 (HO.tup [V.ref t0,V.ref tf])) pf (HO.lst [V.ref t1]) pf=some (.lst [V.ref t1]):=Ac
  have u_t1:upd (upd (upd (upd (upd H dr (HO.dT [])) db (HO.dK [])) t0 (HO.tup [])) t1 (HO.tup [V.ref t0,V.ref tf])) pf (HO.lst [V.ref t1]) t1=some (.tup [V.ref t0,V.ref tf]):=Same.new hpf _ _ Ac
  have u_t0:upd (upd (upd (upd (upd H dr (HO.dT [])) db (HO.dK [])) t0 (HO.tup [])) t1 (HO.tup [V.ref t0,V.ref tf])) pf (HO.lst [V.ref t1]) t0=some (.tup []):=Same.new hpf _ _ (Same.new ht1 _ _ Ac)
  generalize upd (upd (upd (upd (upd H dr (HO.dT [])) db (HO.dK [])) t0 (HO.tup [])) t1 (HO.tup [V.ref t0,V.ref tf])) pf (HO.lst [V.ref t1])=H0 at sP u_dr u_db u_pf u_t1 u_t0 ⊢
  clear s0 hpf ht1 ht0 hdb
  obtain⟨R,hRd⟩:∃R:List Int->List Int,R=Mine.rowS p d tables first:=⟨_,rfl⟩
  have hR0:R []=first:=by rw[hRd];rfl
  have hRl:∀v,isW L v=true->(R v).length=d/\∀y∈R v,0<=y/\y<p:=fun v hv=>by rw[hRd];exact wf.row v
  have hRs:∀v x,R (v++[x])=Jk p d tables (R v) x:=fun v x=>by rw[hRd];unfold Mine.rowS;rw[List.foldl_append];rfl
  obtain⟨Pv,hPv⟩:∃Pv:Nat->St->Hp->Prop,∀m σ' H',Pv m σ' H'↔(∃(F ws:List (List Int)) (bs:List (Nat×List Int)) (n:Nat) (b:Addr) (kvs:List (List Key×V)) (xs:List V) (o6 o7 o8 o9 o10:Option V),m=1+d*L-n/\Same H H'/\H' dr=some (.dT kvs)/\RowD K H' kvs ws R/\BasD K H' b bs/\H b=none/\H' pf=some (.lst xs)/\Prs K H' xs F R/\BW p L d tables first F n ws/\Seen p d d ((F.take n).map R) bs/\bs.length=ws.length/\σ'=[some (.ref h),some (.int p),some (.ref dr),some (.ref b),some (.ref pf),some (.int n),o6,o7,o8,o9,o10]):=⟨_,fun _ _ _=>Iff.rfl⟩
  refine Yv Pv ⟨_,(hPv _ _ _).mpr ⟨[[]],[],[],0,db,[],[V.ref t1],none,none,none,none,none,rfl,sP,u_dr,⟨rfl,rfl,fun i r hi=>by simp at hi⟩,PutD.bas (PutD.nil u_db),hdbN,u_pf,⟨rfl,fun i v hi=>?_⟩,BW.start,⟨⟨by simp,by simp,.nil⟩,by simp,by simp,by simp⟩,rfl,rfl⟩⟩ ?_
  ·match i,hi with
   |0,hi=>
    cases hi
    exact⟨t1,t0,tf,rfl,SqT.of u_t1,u_t0,by rw[hR0];exact sP.seqT h2⟩
   |j+1,hi=>simp at hi
  intro m σ' H' h'
  obtain⟨F,ws,bs,n,b,kvs,xs,o6,o7,o8,o9,o10,rfl,s1,c1,c2,c3,c4,c5,c6,bw,sn,hbl,rfl⟩:=(hPv _ _ _).mp h'
  have hbd:bs.length<=d:=by
   have:=Qo d (bs.map (·.1)) sn.b.nodup fun x hx=>by
    obtain⟨y,hy,rfl⟩:=List.mem_map.mp hx
    exact sn.lt y hy
   rwa [List.length_map]at this
  have hFl:=bw.flen
  have hFd:F.length<=1+d*L:=by
   have:(ws.length:Int)*L<=d*L:=Int.mul_le_mul_of_nonneg_right (by omega) (by omega)
   have e:((d*L:Nat):Int)=(d:Int)*L:=by push_cast;rfl
   omega
  have hdL:d*L<=96:=by
   have:=Nat.mul_le_mul hd16 hL6
   omega
  have c6l:=c6.1
  walk_at "rd"
  refine⟨_,.inl (SqL.of c5),ite2 (fun hlt=>?_) (fun hge=>?_)⟩
  ·have hnF:n<F.length:=by omega
   have hfn:F[n]?=some F[n]:=by simp
   obtain⟨t,a,rr,e1,e2,e3,e4⟩:=c6.2 n _ hfn
   have hfv:=bw.valid _ (List.mem_of_getElem? hfn)
   generalize F[n]=f at hfn e3 e4 hfv
   have hrl:=hRl f hfv
   refine⟨Pv (1+d*L-(n+1)),fun σ2 H2 h2=>⟨_,by omega,h2⟩,?_⟩
   refine⟨_,SqL.of c5,V.ref t,Cq e1,t,rfl,_,e2,V.ref a,rfl,_,SqL.of c5,V.ref t,Cq e1,t,rfl,_,e2,V.ref rr,rfl,?_⟩
   have hdb:dr≠b:=c3.ne c1 (fun _ z=>by cases z) (fun _ _ z=>by cases z)
   have hpb:pf≠b:=c3.ne c5 (fun _ z=>by cases z) (fun _ _ z=>by cases z)
   have hdp:dr≠pf:=fun z=>by rw[z,c5]at c1;cases c1
   refine⟨p,b,rr,true,bs,R f,rfl,by omega,by omega,c3,e4,by omega,fun x hx=>by rw[hrl.1];exact⟨(sn.b.len x hx).1,(sn.b.len x hx).2.1⟩,fun q1 H3 hF3 hq1=>?_⟩
   have hiff:=sn.iff (by omega) (Nat.le_refl d) hrl.1
   have hll:=(Ef (R f) hrl.1 bs sn.b).1
   have hlin:=GP (p:=p) (by omega) (R f) bs
   have hown:=Qm (p:=p) (by omega) hrl.1 sn.b
   have hmore:=fun (inv:Int) (qq:Nat) (h1:qq<d) (h2:inv*(Ay p bs (R f)).getD qq 0%p=1)=>sn.more (inv:=inv) hp1 (Nat.le_refl d) hrl.1 h1 h2
   have hsame:=sn.same hrl.1
   generalize Ay p bs (R f)=left at hq1 hiff hll hlin hown hmore hsame
   have etk:F.take (n+1)=F.take n++[f]:=by rw[List.take_add_one,hfn];rfl
   obtain⟨Rr,hRr⟩:∃Rr:St->Hp->Prop,∀σ' H',Rr σ' H'↔(∃(F ws:List (List Int)) (bs:List (Nat×List Int)) (b:Addr) (kvs:List (List Key×V)) (xs:List V) (o6 o7 o8 o9 o10:Option V),Same H H'/\H' dr=some (.dT kvs)/\RowD K H' kvs ws R/\BasD K H' b bs/\H b=none/\H' pf=some (.lst xs)/\Prs K H' xs F R/\BW p L d tables first F (n+1) ws/\Seen p d d ((F.take (n+1)).map R) bs/\bs.length=ws.length/\σ'=[some (.ref h),some (.int p),some (.ref dr),some (.ref b),some (.ref pf),some (.int n),o6,o7,o8,o9,o10]):=⟨_,fun _ _=>Iff.rfl⟩
   have finR:∀σ2 H2,Rr σ2 H2->tAug 5 (tC (V.int 1)) (ipI fun i j=>i+j) {nx:=Pv (1+d*L-(n+1)),rt:=Q,bk:=tRet (tVar 2) {nx:=fun x H'=>Q V.non H',rt:=Q},ct:=Pv (1+d*L-(n+1))} σ2 H2:=fun σ2 H2 h2=>by
    obtain⟨F,ws,bs,b,kvs,xs,o6,o7,o8,o9,o10,g1,g2,g3,g4,g5,g6,g7,g8,g9,g10,rfl⟩:=(hRr _ _).mp h2
    walk_at "rd"
    exact (hPv _ _ _).mpr ⟨F,ws,bs,n+1,b,kvs,xs,_,_,_,_,_,rfl,g1,g2,g3,g4,g5,g6,g7,g8,g9,g10,rfl⟩
   refine⟨q1,left,rfl,hq1,by omega,fun qn H4 s4 hqn hq0=>⟨Rr,?_,finR⟩,fun H4 s4 hall=>⟨Rr,?_,finR⟩⟩
   ·have s14:Same H H4:=(hF3.same s1 c4).trans s4
    have d4:=s4 _ _ (hF3.1 dr _ hdb c1)
    have p4:=s4 _ _ (hF3.lst c5)
    have sk:∀t ys,SqT K H' t ys->SqT K H4 t ys:=fun t ys z=>s4.seqT (hF3.seqT z)
    have tk:∀t ys,H' t=some (.tup ys)->H4 t=some (.tup ys):=fun t ys z=>s4 _ _ (hF3.tup z)
    have hsp:¬ Span p d (ws.map R) fun j=>(R f).getD j 0:=fun z=>hq0 (hiff.mpr (by rw[hRd]at z ⊢;exact bw.same.mpr z) qn (by omega))
    have hfw:f∉ws:=fun z=>by have:=bw.lt hfn z;omega
    have hbw:=bw.add (Ln:=L) rfl hfn (by rw[<-hRd];exact hsp)
    have hkl:kvs.length=ws.length:=by have:=c2.2.1;rw[List.length_map,List.length_map]at this;exact this
    have hnone:valV kvs (wkey f)=none:=by
     have:=c2.1.some_iff f
     rw[decide_eq_false hfw]at this
     cases e:valV kvs (wkey f) with
     |none=>rfl
     |some v=>rw[e]at this;cases this
    walk_at "rd"
    refine⟨_,DPut.t d4 (by rw[P5];exact tk _ _ e3) (by omega),?_⟩
    rw[ZD _ hnone]
    have s15:=s14.over hdr (o:=.dT (kvs++[(wkey f,V.ref rr)]))
    have d5:upd H4 dr (.dT (kvs++[(wkey f,V.ref rr)])) dr=some (.dT (kvs++[(wkey f,V.ref rr)])):=Ac
    have p5:upd H4 dr (.dT (kvs++[(wkey f,V.ref rr)])) pf=some (.lst xs):=by rw[Av (Ne.symm hdp)];exact p4
    have sk5:∀t ys,SqT K H' t ys->SqT K (upd H4 dr (.dT (kvs++[(wkey f,V.ref rr)]))) t ys:=fun t ys z=>Nm d4 (sk t ys z)
    have tk5:∀t ys,H' t=some (.tup ys)->upd H4 dr (.dT (kvs++[(wkey f,V.ref rr)])) t=some (.tup ys):=fun t ys z=>by
     have:=tk t ys z
     rw[Av (fun e=>by rw[e,d4]at this;cases this)];exact this
    have hB5:=(((c3.fz hF3).mono s4).offT d4 (kvs':=kvs++[(wkey f,V.ref rr)]))
    have hq5:SqT K (upd H4 dr (.dT (kvs++[(wkey f,V.ref rr)]))) q1 (left.map V.int):=Nm d4 (s4.seqT hq1)
    generalize upd H4 dr (.dT (kvs++[(wkey f,V.ref rr)]))=H5 at s15 d5 p5 sk5 tk5 hB5 hq5 ⊢
    have g:=getD_in (show 0<p by omega) hlin qn
    refine⟨p,b,q1,qn,bs,left,rfl,hp,hB5,hq5,by omega,by omega,by omega,g.2,by omega,fun x hx=>by rw[hll];exact⟨(sn.b.len x hx).1,(sn.b.len x hx).2.1⟩,sn.b.nodup,fun hm=>?_,fun b2 inv H7 hF7 i0 i1 hinv hB7 hb2=>?_⟩
    ·obtain⟨x,hx,e⟩:=List.mem_map.mp hm
     exact hq0 (by rw[<-e];exact hown x hx)
    have s17:=hF7.same s15 c4
    have d7:=hF7.1 dr _ hdb d5
    have p7:=hF7.lst p5
    have sk7:∀t ys,SqT K H' t ys->SqT K H7 t ys:=fun t ys z=>hF7.seqT (sk5 t ys z)
    have tk7:∀t ys,H' t=some (.tup ys)->H7 t=some (.tup ys):=fun t ys z=>hF7.tup (tk5 t ys z)
    have hb2N:H b2=none:=s15.gone' hb2
    have rd7:RowD K H7 (kvs++[(wkey f,V.ref rr)]) (ws++[f]) R:=⟨by unfold TF;rw[List.map_append,List.map_append,c2.1];rfl,by rw[List.map_append,List.map_append];exact AS.snoc (c2.2.mono2 sk7) (sk7 _ _ e4)⟩
    refine⟨_,s17.seqT h1,V.int L,rfl,(L:Int),rfl,by omega,by omega,?_⟩
    obtain⟨Pz,hPz⟩:∃Pz:Nat->St->Hp->Prop,∀i σ' H',Pz i σ' H'↔(∃(xs:List V) (o10:Option V),Same H H'/\H' dr=some (.dT (kvs++[(wkey f,V.ref rr)]))/\RowD K H' (kvs++[(wkey f,V.ref rr)]) (ws++[f]) R/\BasD K H' b2 (Qn p inv bs left qn)/\H' pf=some (.lst xs)/\Prs K H' xs (F++(List.range i).map fun (x:Nat)=>f++[(x:Int)]) R/\H' a=some (.tup (f.map V.int))/\SqT K H' rr ((R f).map V.int)/\σ'=[some (.ref h),some (.int p),some (.ref dr),some (.ref b2),some (.ref pf),some (.int n),some (.ref a),some (.ref rr),some (.ref q1),some (.int qn),o10]):=⟨_,fun _ _ _=>Iff.rfl⟩
    refine forR Pz ((hPz _ _ _).mpr ⟨xs,o10,s17,d7,rd7,hB7,p7,by simpa using c6.mono sk7 tk7,tk7 _ _ e3,sk7 _ _ e4,rfl⟩) (fun i σ2 H8 hi h8=>?_) (fun σ2 H8 h8=>?_)
    ·obtain⟨ys,o,k1,k2,k3,k4,k5,k6,k7,k8,rfl⟩:=(hPz _ _ _).mp h8
     rw[Int.zero_add]
     walk_at "rd"
     have hfs:=bw.short f (List.mem_of_getElem? hfn)
     refine⟨.inl ⟨rfl,_,SqL.of k5⟩,by omega,fun u1 hu1=>DH.ofS (Same.new hu1 _ _ k7) Ac (by simp;omega) fun u2 H9 s9 hu2=>?_⟩
     have s89:=(Same.new hu1 (o:=.tup [V.int i])).trans s9
     have s19:=k1.trans s89
     refine⟨h,rr,p,L,i,d,first,last,R f,tables,rfl,hh.mono s19,wf,s89.seqT k8,hrl.1,hrl.2,by omega,by omega,fun u3 H10 s10 hu3=>⟨by omega,fun u4 hu4=>?_⟩⟩
     have s8a:=s89.trans s10
     have sN:=s8a.newT hu4 (o:=.tup [V.ref u2,V.ref u3])
     have hpz:=sN _ _ k5
     refine⟨ys,hpz,?_,(hPz _ _ _).mpr ⟨_,_,(k1.trans sN).over hpfN,?_,⟨k3.1,k3.2.mono2 fun t ys z=>AO hpz (sN.seqT z)⟩,(k4.mono sN).offl hpz,Ac,?_,?_,AO hpz (sN.seqT k8),rfl⟩⟩
     ·have:=k6.1
      rw[List.length_append,List.length_map,List.length_range]at this
      omega
     ·rw[Av hdp];exact sN _ _ k2
     ·rw[List.range_succ,List.map_append,<-List.append_assoc]
      refine (k6.mono (fun t ys z=>AO hpz (sN.seqT z)) fun t ys z=>?_).snoc (t:=u4) (a:=u2) (b:=u3) (v:=f++[(i:Int)]) (AO hpz (SqT.of Ac)) ?_ ?_
      ·have:=sN _ _ z
       rw[Av (fun e=>by rw[e,hpz]at this;cases this)];exact this
      ·have:upd H10 u4 (.tup [V.ref u2,V.ref u3]) u2=some (.tup ((f++[(i:Int)]).map V.int)):=by
        have:=Same.new hu4 (o:=.tup [V.ref u2,V.ref u3]) _ _ (s10 _ _ hu2)
        rw[List.map_append];exact this
       exact (Av (fun e=>by have z:=this.symm.trans ((congrArg (upd H10 u4 (.tup [V.ref u2,V.ref u3])) e).trans hpz);cases z)).trans this
      ·rw[hRs]
       exact AO hpz (SqT.of (Same.new hu4 (o:=.tup [V.ref u2,V.ref u3]) _ _ hu3))
     ·have:=sN _ _ k7
      rw[Av (fun e=>by rw[e,hpz]at this;cases this)];exact this
    ·obtain⟨ys,o,k1,k2,k3,k4,k5,k6,k7,k8,rfl⟩:=(hPz _ _ _).mp h8
     rw[show ((L:Int)).toNat=L by omega]at k6
     refine (hRr _ _).mpr ⟨_,ws++[f],_,b2,_,ys,_,_,_,_,_,k1,k2,k3,k4,hb2N,k5,k6,hbw,?_,by rw[T2,List.length_append,hbl];rfl,rfl⟩
     rw[List.take_append_of_le_length (by omega),etk,List.map_append]
     exact hmore inv qn (by omega) hinv
   ·walk_at "rd"
    have s14:Same H H4:=(hF3.same s1 c4).trans s4
    have d4:=s4 _ _ (hF3.1 dr _ hdb c1)
    have p4:=s4 _ _ (hF3.lst c5)
    have sk:∀t ys,SqT K H' t ys->SqT K H4 t ys:=fun t ys z=>s4.seqT (hF3.seqT z)
    have tk:∀t ys,H' t=some (.tup ys)->H4 t=some (.tup ys):=fun t ys z=>s4 _ _ (hF3.tup z)
    have hz0:∀i:Nat,i<d->left.getD i 0=0:=fun i hi=>hall i (by omega)
    have hbw:=bw.skip hfn (by
     have:=bw.same.mp (by rw[<-hRd];exact hiff.mp hz0)
     rwa [<-hRd]at this ⊢)
    refine (hRr _ _).mpr ⟨F,ws,bs,b,kvs,xs,_,_,_,_,_,s14,d4,⟨c2.1,c2.2.mono2 sk⟩,(c3.fz hF3).mono s4,c4,p4,c6.mono sk tk,hbw,?_,hbl,rfl⟩
    rw[etk,List.map_append]
    exact hsame hz0
  ·have hnF:n=F.length:=by have:=bw.nF;omega
   subst hnF
   walk_at "rd"
   exact k dr kvs F ws H' s1 c1 hdr (by rw[<-hRd];exact c2) bw (by omega)
def LX (p L:Int)(d:Nat)(R:List Int->List Int)(ws:List (List Int))(f l:List Int):Prop:=l.length=ws.length/\(∀x∈l,0<=x/\x<p)/\(∀i:Nat,i<d->(R f).getD i 0%p=dotW l (colW (ws.map R) i)%p)/\∀(k:Nat) (v:List Int),ws[k]?=some v->l.getD k 0≠0->place L v<=place L f
theorem BW.indep {p L:Int}{d:Nat}{tables:List (List (List Int))}{first:List Int}{F ws:List (List Int)}{n:Nat}(hp:Pr p)(h:BW p L d tables first F n ws):Indep p d (ws.map (Mine.rowS p d tables first)):=by
 refine Indep.of hp.1 (fun a a0 a1=>BB_ hp.1 a0 (hp.gcd a0 a1)) _ _ rfl fun i hi=>?_
 rw[List.length_map]at hi
 have:=h.free i hi
 rw[<-List.map_take]
 have e:(ws.map (Mine.rowS p d tables first)).getD i []=Mine.rowS p d tables first (ws.getD i []):=by
  rw[List.getD_eq_getElem?_getD,List.getElem?_map,List.getD_eq_getElem?_getD,List.getElem?_eq_getElem hi];rfl
 rw[e]
 exact this
theorem BD_ {p L:Int}{d:Nat}{tables:List (List (List Int))}{first last:List Int}{F ws:List (List Int)}(hp:Pr p)(wf:WfSum p L d first tables last)(h:BW p L d tables first F F.length ws){bs:List (Nat×List Int)}(S:Seen p (d+(ws.map (Mine.rowS p d tables first)).length) d (Bh (ws.map (Mine.rowS p d tables first))) bs){f:List Int}(hf:f∈F):
  Span p d (ws.map (Mine.rowS p d tables first)) (fun i=>(Mine.rowS p d tables first f).getD i 0)/\LX p L d (Mine.rowS p d tables first) ws f (((Ay p bs (Mine.rowS p d tables first f++List.replicate (ws.map (Mine.rowS p d tables first)).length 0)).drop d).map fun y => -y%p):=by
 have hp1:=hp.1
 obtain⟨j,hj,⟨cs,hc,he⟩,hpl⟩:=h.span f (by rw[List.take_length];exact hf)
 rw[List.length_map,List.length_take,Nat.min_eq_left hj]at hc
 have hsplit:ws.map (Mine.rowS p d tables first)=(ws.take j).map (Mine.rowS p d tables first)++(ws.drop j).map (Mine.rowS p d tables first):=by rw[<-List.map_append,List.take_append_drop]
 obtain⟨am,ham⟩:∃am:List Int,am=cs.map (· % p)++List.replicate (ws.length-j) 0:=⟨_,rfl⟩
 have hal:am.length=ws.length:=by rw[ham,List.length_append,List.length_map,List.length_replicate,hc];omega
 have hin:∀x∈am,0<=x/\x<p:=fun x hx=>by
  rw[ham]at hx
  rcases List.mem_append.mp hx with hx|hx
  ·obtain⟨y,_,rfl⟩:=List.mem_map.mp hx
   exact⟨Int.emod_nonneg _ (by omega),Int.emod_lt_of_pos _ (by omega)⟩
  ·rw[(List.mem_replicate.mp hx).2];omega
 have he2:∀i:Nat,i<d->(Mine.rowS p d tables first f).getD i 0%p=dotW am (colW (ws.map (Mine.rowS p d tables first)) i)%p:=fun i hi=>by
  rw[he i hi,ham,hsplit,MF,Li _ _ _ _ (by rw[FZ,List.length_map,List.length_map,List.length_take];omega),Bq (List.replicate _ _),Ff,Int.add_zero]
  refine cg.dot ?_ (cg.refl p _)
  unfold cg
  rw[List.map_map]
  exact (List.map_congr_left fun y _=>by show y%p=(y%p)%p;rw[Int.emod_emod_of_dvd _ (Int.dvd_refl p)])
 have hlen:∀r∈ws.map (Mine.rowS p d tables first),r.length=d:=fun r hr=>by
  obtain⟨v,_,rfl⟩:=List.mem_map.mp hr
  exact (wf.row v).1
 refine⟨⟨am,by rw[List.length_map];exact hal,he2⟩,?_⟩
 rw[BA_ (show 0<p by omega) hlen (h.indep hp) S (wf.row f).1 (by rw[List.length_map];exact hal) hin he2]
 refine⟨hal,hin,he2,fun k v hk hne=>?_⟩
 by_cases hkj:k<j
 ·exact hpl v (List.mem_iff_getElem?.mpr ⟨k,by rw[List.getElem?_take,if_pos hkj];exact hk⟩)
 ·refine absurd ?_ hne
  rw[ham,List.getD_eq_getElem?_getD,List.getElem?_append_right (by rw[List.length_map];omega),List.getElem?_replicate]
  split<;>rfl
def AmD (H:Hp)(pm:Addr)(xs:List V)(am:List (List (List Int))):Prop:=xs.length=am.length/\∀(i:Nat) (a:List (List Int)),am[i]?=some a->∃c ys,c≠pm/\xs[i]?=some (.ref c)/\H c=some (.lst ys)/\ys.length=a.length/\∀(j:Nat) (l:List Int),a[j]?=some l->∃e,e≠pm/\ys[j]?=some (.ref e)/\H e=some (.lst (l.map V.int))
def AmF (p:Int)(L d:Nat)(R:List Int->List Int)(ws:List (List Int))(am:List (List (List Int))):Prop:=am.length=ws.length/\∀(i:Nat) (a:List (List Int)) (v:List Int),am[i]?=some a->ws[i]?=some v->a.length=L/\∀(x:Nat) (l:List Int),a[x]?=some l->LX p L d R ws (v++[(x:Int)]) l
theorem AmD.mono {H H':Hp}{pm:Addr}{xs:List V}{am:List (List (List Int))}(h:AmD H pm xs am)(s:∀(a:Addr) ys,a≠pm->H a=some (.lst ys)->H' a=some (.lst ys)):AmD H' pm xs am:=⟨h.1,fun i a hi=>by
 obtain⟨c,ys,n1,e1,e2,e3,e4⟩:=h.2 i a hi
 refine⟨c,ys,n1,e1,s _ _ n1 e2,e3,fun j l hj=>?_⟩
 obtain⟨e,n2,f1,f2⟩:=e4 j l hj
 exact⟨e,n2,f1,s _ _ n2 f2⟩⟩
theorem AmD.snoc {H:Hp}{pm:Addr}{xs:List V}{am:List (List (List Int))}(h:AmD H pm xs am){c:Addr}{ys:List V}{a:List (List Int)}(n1:c≠pm)(e2:H c=some (.lst ys))(e3:ys.length=a.length)(e4:∀(j:Nat) (l:List Int),a[j]?=some l->∃e,e≠pm/\ys[j]?=some (.ref e)/\H e=some (.lst (l.map V.int))):AmD H pm (xs++[.ref c]) (am++[a]):=by
 refine⟨by rw[List.length_append,List.length_append,h.1];rfl,fun i r hi=>?_⟩
 by_cases hil:i<am.length
 ·rw[List.getElem?_append_left hil]at hi
  rw[List.getElem?_append_left (by rw[h.1];exact hil)]
  exact h.2 i r hi
 ·have:=(List.getElem?_eq_some_iff.mp hi).1
  rw[List.length_append,List.length_singleton]at this
  have ei:i=am.length:=by omega
  subst ei
  rw[List.getElem?_append_right (Nat.le_refl _),Nat.sub_self]at hi
  simp at hi
  subst hi
  exact⟨c,ys,n1,by rw[<-h.1];simp,e2,e3,e4⟩
def T6 (K:PySem.W.Frag):Sp:=fun vs H Q _=>∃(h:Addr) (p:Int) (L d:Nat) (first last:List Int) (tables:List (List (List Int))),vs=[.ref h]/\Pr p/\SumH K H h p L first tables last/\WfSum p L d first tables last/\L<=6/\d<=16/\∀q lw lm zs xs F ws am H',Same H H'->SqT K H' q [.ref lw,.ref lm]->H' lw=some (.lst zs)->Cn K H' zs ws->H' lm=some (.lst xs)->AmD H' lm xs am->AmF p L d (Mine.rowS p d tables first) ws am->BW p L d tables first F F.length ws->ws.length<=d->Q (.ref q) H'
theorem Qy {f:Addr}{fd:FuncData}(F:Fun K "sums_basis" "sums_basis" CY f fd)(T:Txt mg)
  (Z:Exs K mg C_AskError C_BadWord C_NoInverse)
  {AB:Addr} {A7:FuncData} (Bz:FnOk P w K mg base CX0 5 AB A7 ["p","rows","some","size"] (Cv_ K)) (A2:Fun K "factors_of_each" "factors_of_each" A1 AB A7) (BA:Binds K A7 ["p","rows","some","size"] []) (BB:mg "factors_of_each"=some (.ref AB))
  {BG:Addr} {Ce:FuncData} (Ek:FnOk P w K mg base CX0 3 BG Ce ["house","row","letter"] (Jf K)) (Df:Fun K "stepped" "stepped" Ed BG Ce) (El:Binds K Ce ["house","row","letter"] []) (Em:mg "stepped"=some (.ref BG))
  {AJ:Addr} {A8:FuncData} (B2:FnOk P w K mg base CX0 4 AJ A8 ["house"] (MG K)) (Bi:Fun K "basis_rows" "basis_rows" BX AJ A8) (B3:Binds K A8 ["house"] []) (B4:mg "basis_rows"=some (.ref AJ))
  : FnOk P w K mg base CX0 6 f fd ["house"] (T6 K):=by
 refine F.ok DC (fun vs H Q E h=>?_) (fun cdv A outer s H vs Q E hr h=>?_)
 ·obtain⟨h,p,L,d,first,last,tables,rfl,_⟩:=h;rfl
 ·obtain⟨h,p,L,d,first,last,tables,rfl,hp,hh,wf,hL6,hd16,k⟩:=h
  have hl:=Al
  have hp1:=hp.1
  obtain⟨tf,tt,tl,h1,h2,h3,h4⟩:=id hh
  refine⟨_,(Ad (Ai (i:=1) DC.nd rfl (Or.inl rfl) (Ah B2 (hr.mono (by decide)) rfl B4 Bi.kp B3 .nil Az (Aa (pv 0) Ab)))
   (Ad (Ai (i:=2) DC.nd rfl (Or.inl rfl) (Aw (Ma rfl) rfl T.list PyProof.Rows.boot_list (Aa (Y0 (pv 1)) Ab)))
   (Ad (Ai (i:=3) DC.nd rfl (Or.inl rfl) (Fo Ab))
   (Ad (CM PassesOwn.never rfl (Fm (pv 2)) (Ak (i:=4) DC.nd rfl (Or.inr rfl))
   (Ad (PU (i:=5) DC.nd rfl rfl rfl (Ck rfl) (cp:=Jp) ⟨⟨rfl,rfl⟩,⟨⟨rfl,rfl⟩,True.intro⟩⟩ (A0 rfl T.range (Aa (Ax Au (pv 0) Ag (fun _ _=>rfl)) Ab)) (fun _ _ _ _=>(Ak (i:=0) K8 rfl (Or.inl rfl))) (fun _ _ _ _=>BV) (fun _ _ _ _=>(Ah Ek (hr.mono (by decide)) rfl Em Df.kp El .nil Az (Aa (pv 1) (Aa (pv 2) (Aa (pv 0) Ab))))))
   (Af (DO (J5 PySem.F.plainAttrs_list PySem.F.slot_list_append PySem.F.type_list_append BS (pv 3) (Aa (Ah Bz (hr.mono (by decide)) rfl BB A2.kp BA .nil Az (Aa (Ax Au (pv 0) Ag (fun _ _=>rfl)) (Aa (pv 2) (Aa (pv 5) (Aa (As Aj (by rfl) T.len PySem.boot_len (Aa (Ax Au (pv 0) Ag (fun _ _=>rfl)) Ab)) Ab))))) Ab))))))
   (Af (Aq (Cj (Aa (Aw (HE rfl) rfl T.list PyProof.Rows.boot_list (Aa (pv 1) Ab)) (Aa (pv 3) Ab))))))))),?_⟩
  walk_at "rd"
  refine⟨h,p,L,d,first,last,tables,rfl,hp,hh,wf,hL6,hd16,fun q kvs F ws H1 s1 hq hqN rd bw hwd=>?_⟩
  show (fun x H1=>_) (V.ref q) H1
  walk_at "rd"
  refine⟨kvs,.inl hq,fun v hv=>⟨q,Ac,kvs,.inl (Same.new hv _ _ hq),fun l hlN=>⟨by omega,fun pm hpm=>?_⟩⟩⟩
  obtain⟨R,hRd⟩:∃R:List Int->List Int,R=Mine.rowS p d tables first:=⟨_,rfl⟩
  rw[<-hRd]at rd
  have hRl:∀v,(R v).length=d/\∀y∈R v,0<=y/\y<p:=fun v=>by rw[hRd];exact wf.row v
  have hRs:∀v x,R (v++[x])=Jk p d tables (R v) x:=fun v x=>by rw[hRd];unfold Mine.rowS;rw[List.foldl_append];rfl
  have sV:=Same.new hv (o:=N5 v q)
  have s2:=(s1.trans sV).newT hlN (o:=.lst (kvs.map (·.2)))
  have s3:=s2.newT hpm (o:=.lst [])
  have s13:=(sV.newT hlN (o:=.lst (kvs.map (·.2)))).newT hpm (o:=.lst [])
  have hpmN:H pm=none:=s2.gone' hpm
  have u_l:upd (upd (upd H1 v (N5 v q)) l (.lst (kvs.map (·.2)))) pm (.lst []) l=some (.lst (kvs.map (·.2))):=Same.new hpm _ _ Ac
  have u_m:upd (upd (upd H1 v (N5 v q)) l (.lst (kvs.map (·.2)))) pm (.lst []) pm=some (.lst []):=Ac
  generalize upd (upd (upd H1 v (N5 v q)) l (.lst (kvs.map (·.2)))) pm (.lst [])=H3 at s3 s13 u_l u_m ⊢
  have hlm:l≠pm:=fun z=>by rw[z]at hlN hpm;rw[Ac]at hpm;cases hpm
  have hrl:(kvs.map (·.2)).length=ws.length:=by have:=rd.2.1;rw[List.length_map (f:=R)]at this;exact this
  obtain⟨Pv,hPv⟩:∃Pv:Nat->St->Hp->Prop,∀i σ' H',Pv i σ' H'↔(∃(xs:List V) (am:List (List (List Int))) (o4 o5:Option V),Same H H'/\H' q=some (.dT kvs)/\AS K H' (kvs.map (·.2)) (ws.map R)/\H' l=some (.lst (kvs.map (·.2)))/\H' pm=some (.lst xs)/\AmD H' pm xs am/\am.length=i/\(∀(j:Nat) (a:List (List Int)) (v:List Int),am[j]?=some a->ws[j]?=some v->a.length=L/\∀(x:Nat) (g:List Int),a[x]?=some g->LX p L d R ws (v++[(x:Int)]) g)/\σ'=[some (.ref h),some (.ref q),some (.ref l),some (.ref pm),o4,o5]):=⟨_,fun _ _ _=>Iff.rfl⟩
  refine⟨⟨_,SqL.of u_l⟩,?_⟩
  refine forL (xs:=kvs.map (·.2)) Pv ((hPv _ _ _).mpr ⟨[],[],none,none,s3,s13 _ _ hq,rd.2.mono2 fun t ys z=>s13.seqT z,u_l,u_m,⟨rfl,fun i a hi=>by simp at hi⟩,rfl,fun j a v hj=>by simp at hj,rfl⟩) (fun i σ' H' _ h'=>by obtain⟨_,_,_,_,_,_,_,z,_⟩:=(hPv _ _ _).mp h';exact SqL.of z) (fun i x σ' H' hx h'=>?_) (fun σ' H' h'=>?_)
  ·obtain⟨xs,am,o4,o5,g1,g2,g3,g4,g5,g6,g7,g8,rfl⟩:=(hPv _ _ _).mp h'
   have hiw:i<ws.length:=by rw[<-hrl];exact (List.getElem?_eq_some_iff.mp hx).1
   have hwi:ws[i]?=some ws[i]:=by simp
   obtain⟨tr,et,hrow⟩:=g3.2 i (R ws[i]) (by rw[List.getElem?_map,hwi];rfl)
   rw[hx]at et
   cases et
   generalize ws[i]=w0 at hwi hrow
   have hw0:w0∈ws:=List.mem_of_getElem? hwi
   walk_at "rd"
   refine⟨_,g1.seqT h1,V.int L,rfl,(L:Int),rfl,by omega,by omega,L8 (fun j ys σ2 H2=>Same H' H2/\AS K H2 ys ((List.range j).map fun (x:Nat)=>R (w0++[(x:Int)]))/\∃o,σ2=[o,some (.ref h),some (.ref tr)]) ⟨Same.refl _,⟨rfl,fun i r hi=>by simp at hi⟩,none,rfl⟩ (by omega) (fun j ys σ2 H2 hj h2=>by have:=h2.2.1.1;rw[List.length_map,List.length_range]at this;omega) (fun j ys σ2 H2 hj h2=>?_) (fun ys σ2 H2 h2 D hD=>?_)⟩
   ·obtain⟨s2',hy,o,rfl⟩:=h2
    rw[Int.zero_add]
    walk_at "rd"
    refine⟨h,tr,p,L,j,d,first,last,R w0,tables,rfl,(hh.mono g1).mono s2',wf,s2'.seqT hrow,(hRl w0).1,(hRl w0).2,by omega,by omega,fun u H5 s5 hu=>⟨s2'.trans s5,?_,_,rfl⟩⟩
    rw[List.range_succ,List.map_append]
    refine AS.snoc (hy.mono2 fun t ys z=>s5.seqT z) ?_
    show SqT K H5 u ((R (w0++[(j:Int)])).map V.int)
    rw[hRs];exact SqT.of hu
   ·obtain⟨s2',hy,o,rfl⟩:=h2
    rw[show ((L:Int)).toNat=L by omega]at hy
    have sD:=s2'.newT hD (o:=.lst ys)
    have uD:upd H2 D (.lst ys) D=some (.lst ys):=Ac
    have hyD:=hy.mono2 fun t zs z=>(Same.new hD (o:=.lst ys)).seqT z
    generalize upd H2 D (.lst ys)=H4 at sD uD hyD ⊢
    have q4:=sD _ _ g5
    have s14:=g1.trans sD
    refine⟨.inl ⟨rfl,_,SqL.of q4⟩,_,s14.seqT h1,V.int p,rfl,_,s14.seqT h1,V.ref tf,rfl,tf,rfl,_,.inr (s14.seqT h2),?_⟩
    rw[List.length_map,wf.f.1]
    refine⟨p,false,l,D,d,kvs.map (·.2),ys,ws.map R,(List.range L).map fun (x:Nat)=>R (w0++[(x:Int)]),rfl,hp,SqL.of (sD _ _ g4),g3.mono2 fun t zs z=>sD.seqT z,fun r hr=>by obtain⟨v,_,rfl⟩:=List.mem_map.mp hr;exact (hRl v).1,SqL.of uD,hyD,fun r hr=>by obtain⟨v,_,rfl⟩:=List.mem_map.mp hr;exact (hRl _).1,by omega,by rw[List.length_map];omega,by rw[List.length_map,List.length_range];omega,fun c zs bs H5 s5 hcN hc sn tf'=>?_⟩
    have q5:=s5 _ _ q4
    have hcp:c≠pm:=fun z=>by rw[z,q4]at hcN;cases hcN
    have s05:=sD.trans s5
    have hgood:∀x:Nat,x<L->∃g,LX p L d R ws (w0++[(x:Int)]) g/\∃e,e≠pm/\zs[x]?=some (.ref e)/\H5 e=some (.lst (g.map V.int)):=fun x hx'=>by
     have hf:w0++[(x:Int)]∈F:=bw.kids w0 hw0 x (by omega) (by omega)
     rw[hRd]at sn
     obtain⟨gs,gg⟩:=BD_ hp wf bw sn hf
     rw[<-hRd]at gs gg
     rcases tf'.2 x (R (w0++[(x:Int)])) (by rw[List.getElem?_map,List.getElem?_range hx'];rfl) with ⟨_,e,e1,e2⟩|⟨z,_⟩
     ·refine⟨_,gg,e,fun z=>?_,e1,e2⟩
      rw[z,q5]at e2
      have e3:=HO.lst.inj (Option.some.inj e2)
      have hgl:=gg.1
      have hxl:xs.length=ws.length:=by rw[e3,List.length_map,hgl]
      have hal:=g6.1
      omega
     ·exact absurd gs z
    obtain⟨ga,hga⟩:∃ga:List (List Int),ga.length=L/\∀(x:Nat) (g:List Int),ga[x]?=some g->LX p L d R ws (w0++[(x:Int)]) g/\∃e,e≠pm/\zs[x]?=some (.ref e)/\H5 e=some (.lst (g.map V.int)):=by
     have key:∀n:Nat,n<=L->∃ga:List (List Int),ga.length=n/\∀(x:Nat) (g:List Int),ga[x]?=some g->LX p L d R ws (w0++[(x:Int)]) g/\∃e,e≠pm/\zs[x]?=some (.ref e)/\H5 e=some (.lst (g.map V.int)):=fun n=>by
      induction n with
      |zero=>exact fun _=>⟨[],rfl,fun x g hg=>by simp at hg⟩
      |succ n ih=>
       intro hn
       obtain⟨ga,e1,e2⟩:=ih (by omega)
       obtain⟨g,hg⟩:=hgood n (by omega)
       refine⟨ga++[g],by rw[List.length_append,e1];rfl,fun x g' hx'=>?_⟩
       by_cases hxn:x<n
       ·rw[List.getElem?_append_left (by omega)]at hx'
        exact e2 x g' hx'
       ·have:=(List.getElem?_eq_some_iff.mp hx').1
        rw[List.length_append,List.length_singleton]at this
        have ex:x=n:=by omega
        subst ex
        rw[List.getElem?_append_right (by omega),e1,Nat.sub_self]at hx'
        simp at hx'
        subst hx'
        exact hg
     exact key L (Nat.le_refl _)
    have zl:zs.length=ga.length:=by rw[tf'.1,List.length_map,List.length_range,hga.1]
    have hal:=g6.1
    refine⟨xs,q5,by omega,(hPv _ _ _).mpr ⟨_,am++[ga],_,_,(s14.trans s5).over hpmN,?_,(g3.mono2 fun t zs z=>s05.seqT z).mono2 fun t zs z=>AO q5 z,?_,Ac,?_,by rw[List.length_append,g7];rfl,fun j a v hj hv'=>?_,rfl⟩⟩
    ·rw[Av (fun z=>by have:=s05 _ _ g2;rw[z,q5]at this;cases this)];exact s05 _ _ g2
    ·rw[Av hlm];exact s05 _ _ g4
    ·refine (g6.mono fun a ys ha z=>?_).snoc (c:=c) hcp ?_ zl fun j g hj=>?_
     ·rw[Av ha];exact s05 _ _ z
     ·rw[Av hcp];exact hc
     ·obtain⟨_,e,n2,e1,e2⟩:=hga.2 j g hj
      exact⟨e,n2,e1,by rw[Av n2];exact e2⟩
    ·by_cases hji:j<am.length
     ·rw[List.getElem?_append_left hji]at hj
      exact g8 j a v hj hv'
     ·have:=(List.getElem?_eq_some_iff.mp hj).1
      rw[List.length_append,List.length_singleton]at this
      have ej:j=i:=by omega
      subst ej
      rw[List.getElem?_append_right (by omega),g7,Nat.sub_self]at hj
      simp at hj
      subst hj
      rw[hwi]at hv'
      cases hv'
      exact⟨hga.1,fun x g hg=>(hga.2 x g hg).1⟩
  ·obtain⟨xs,am,o4,o5,g1,g2,g3,g4,g5,g6,g7,g8,rfl⟩:=(hPv _ _ _).mp h'
   rw[hrl]at g7
   walk_at "rd"
   refine⟨kvs,.inl g2,fun lw rs hlw hrs hat=>⟨by omega,fun z hz=>?_⟩⟩
   have sZ:=(Same.new hlw (o:=.lst rs)).newT hz (o:=.tup [V.ref lw,V.ref pm])
   rw[hRd]at g8
   refine k z lw pm rs xs F ws am _ (g1.trans sZ) (SqT.of Ac) (Same.new hz _ _ Ac) ⟨?_,fun i v hi=>?_⟩ (sZ _ _ g5) (g6.mono fun a ys _ z=>sZ _ _ z) ⟨g7,g8⟩ bw hwd
   ·rw[hrs];rw[List.length_map]at hrl;exact hrl
   ·have hk:(kvs.map (·.1))[i]?=some (wkey v):=by rw[rd.1,List.getElem?_map,hi];rfl
    rw[List.getElem?_map]at hk
    cases e:kvs[i]? with
    |none=>rw[e]at hk;cases hk
    |some kv=>
     rw[e]at hk
     obtain⟨t,e1,e2⟩:=hat i kv.1 kv.2 e
     refine⟨t,e1,sZ _ _ ?_⟩
     rw[e2,show kv.1=wkey v from Option.some.inj hk,P5]
def cell (ns:List Int)(k:Nat):Int:=ns.getD k 0
def Nn (K:PySem.W.Frag):Sp:=fun vs H Q _=>∃(a:Addr) (ns:List Int) (k:Nat),vs=[.ref a,.int k]/\SqL K H a (ns.map V.int)/\Q (.int (cell ns k)) H
theorem T7 {f:Addr}{fd:FuncData}(F:Fun K "_law_cell" "_law_cell" B7 f fd)(T:Txt mg)
  (Z:Exs K mg C_AskError C_BadWord C_NoInverse)
  : FnOk P w K mg base CX0 1 f fd ["script","k"] (Nn K):=by
 refine F.ok TR (fun vs H Q E h=>?_) (fun cdv A outer s H vs Q E hr h=>?_)
 ·obtain⟨a,ns,k,rfl,_⟩:=h;rfl
 ·obtain⟨a,ns,k,rfl,hs,q⟩:=h
  refine⟨_,(Ad (Et (Bc U3 (pv 1) (As Aj (by rfl) T.len PySem.boot_len (Aa (pv 0) Ab)) (BM _))
   (Af (Aq (Ax E6 (pv 0) (pv 1) (fun _ _=>rfl))))
   Bb)
   (Af (Aq Ag))),?_⟩
  walk_at "rd"
  refine⟨_,.inl hs,?_⟩
  rw[List.length_map]
  refine ite2 (fun hk=>?_) (fun hk=>?_)
  ·have hk':k<ns.length:=by simpa using hk
   refine⟨_,hs,V.int (cell ns k),?_,q⟩
   refine Cq ?_
   rw[List.getElem?_map]
   unfold cell
   rw[List.getD_eq_getElem?_getD]
   simp[hk']
  ·have hk':¬ k<ns.length:=by simpa using hk
   have:cell ns k=0:=by
    unfold cell
    rw[List.getD_eq_getElem?_getD,List.getElem?_eq_none (by omega)];rfl
   rw[<-this]
   exact q
def Np:Sp:=fun vs H Q _=>∃n:Int,vs=[.int n]/\2<=n/\n<=1000/\∀b,(b=true↔GH n.toNat)->Q (.bl b) H
theorem Me {f:Addr}{fd:FuncData}(F:Fun K "_law_is_prime" "_law_is_prime" BC f fd)(T:Txt mg)
  (Z:Exs K mg C_AskError C_BadWord C_NoInverse)
  : FnOk P w K mg base CX0 1 f fd ["number"] (Np):=by
 refine F.ok Hq (fun vs H Q E h=>?_) (fun cdv A outer s H vs Q E hr h=>?_)
 ·obtain⟨n,rfl,_⟩:=h;rfl
 ·obtain⟨n,rfl,hn,hn1,k⟩:=h
  refine⟨_,(Ad (CM PassesOwn.never rfl (XU rfl T.range (Aa Ag (Aa (pv 0) Ab))) (Ak (i:=1) Hq.nd rfl (Or.inl rfl))
   (Ad (Et (Bc Ej_ (An CP (pv 1) (pv 1)) (pv 0) (BM _))
   (Af (Aq Gn))
   Bb)
   (Af (Et (Bc U1 (An BR (pv 0) (pv 1)) Ag (BM _))
   (Af (Aq Gn))
   Bb))))
   (Af (Aq Gn))),?_⟩
  walk_at "rd"
  refine⟨by omega,by omega,by omega,by omega,?_⟩
  refine forR (fun i σ2 H2=>H2=H/\(∀d,2<=d->d<2+i->n.toNat%d≠0)/\∃o,σ2=[some (.int n),o]) ⟨rfl,fun d h1 h2=>by omega,none,rfl⟩ (fun i σ2 H2 hi h2=>?_) (fun σ2 H2 h2=>?_)
  ·obtain⟨rfl,hall,o,rfl⟩:=h2
   walk_at "rd"
   refine⟨.inl ⟨by omega,by omega⟩,ite2 (fun hp=>k true ⟨fun _=>?_,fun _=>rfl⟩) (fun hp=>⟨by omega,ite2 (fun hm=>k false ⟨(fun z=>by cases z),fun z=>?_⟩) (fun hm=>⟨fun d h1 h2=>?_,_,rfl⟩)⟩)⟩
   ·refine GH.small (k:=2+i) (by omega) ?_ fun d h1 h2 _=>hall d h1 h2
    have hp':n<((2+i:Nat):Int)*((2+i:Nat):Int):=by push_cast;omega
    rw[<-Int.natCast_mul]at hp'
    omega
   ·refine absurd ?_ (z (2+i) (by omega) (by omega))
    have:(n.toNat:Int)%((2+i:Nat):Int)=0:=by rw[show (n.toNat:Int)=n from by omega];push_cast;exact hm
    omega
   ·by_cases hd:d<2+i
    ·exact hall d h1 hd
    ·have:d=2+i:=by omega
     subst this
     intro z
     have z2:(n.toNat:Int)%((2+i:Nat):Int)=0:=by omega
     rw[show (n.toNat:Int)=n from by omega]at z2
     push_cast at z2
     exact hm z2
  ·obtain⟨rfl,hall,o,rfl⟩:=h2
   walk_at "rd"
   exact k true ⟨fun _ d h1 h2=>hall d h1 (by omega),fun _=>rfl⟩
def Qz:List Int:=[2,3,5,7,65537,998244353,2147483647,180143985094819841]
def Wt (K:PySem.W.Frag):Sp:=fun vs H Q _=>∃c:Int,vs=[.int c]/\∀p H',Same H H'->Pr p->Q (.int p) H'
theorem QA {f:Addr}{fd:FuncData}(F:Fun K "_law_prime" "_law_prime" C2 f fd)(T:Txt mg)
  (Z:Exs K mg C_AskError C_BadWord C_NoInverse)
  {BH:Addr} {E8:FuncData} (FF:FnOk P w K mg base CX0 1 BH E8 ["number"] (Np)) (Dk:Fun K "_law_is_prime" "_law_is_prime" BC BH E8) (FG:Binds K E8 ["number"] []) (FH:mg "_law_is_prime"=some (.ref BH))
  : FnOk P w K mg base CX0 2 f fd ["cell"] (Wt K):=by
 refine F.ok Fd (fun vs H Q E h=>?_) (fun cdv A outer s H vs Q E hr h=>?_)
 ·obtain⟨c,rfl,_⟩:=h;rfl
 ·obtain⟨c,rfl,k⟩:=h
  have hl:=Al
  refine⟨_,(Ad (Ai (i:=1) Fd.nd rfl (Or.inl rfl) (Fo (Aa Ag (Aa Ag (Aa Ag (Aa Ag (Aa Ag (Aa Ag (Aa Ag (Aa Ag Ab))))))))))
   (Ad (Et (Bc U3 (An BR (pv 0) Ag) Ag (BM _))
   (Af (Aq (Ax E6 (pv 1) (An BR (An Hx (pv 0) Ag) Ag) (fun _ _=>rfl))))
   Bb)
   (Ad (Ai (i:=2) Fd.nd rfl (Or.inl rfl) (An CN Ag (An BR (An Hx (pv 0) Ag) Ag)))
   (Ad (PJ PassesOwn.never (Fl (Eu (Ah FF (hr.mono (by decide)) rfl FH Dk.kp FG .nil Az (Aa (pv 2) Ab))))
   (Af (Ai (i:=2) Fd.nd rfl (Or.inl rfl) (An CN (pv 2) Ag))))
   (Af (Aq (pv 2))))))),?_⟩
  walk_at "rd"
  refine⟨by omega,fun q hq=>⟨by decide,ite2 (fun _=>?_) (fun _=>⟨⟨by decide,by decide⟩,by decide,?_⟩)⟩⟩
  ·have e0:=Int.emod_nonneg (c / 4) (show (8:Int)≠0 by decide)
   have e1:=Int.emod_lt_of_pos (c / 4) (show (0:Int)<8 by decide)
   refine⟨⟨by decide,by decide⟩,by decide,_,SqL.of Ac,?_⟩
   generalize c / 4%8=j at e0 e1
   have hj:j.toNat<Qz.length:=by show j.toNat<8;omega
   have hx:Qz[j.toNat]?=some Qz[j.toNat]:=by simp[hj]
   exact⟨_,(Fq e0 hx:atI (Qz.map V.int) j=_),k _ _ (Same.new hq) (Ci_ _ (List.getElem_mem hj))⟩
  ·have e0:=Int.emod_nonneg (c / 4) (show (200:Int)≠0 by decide)
   have e1:=Int.emod_lt_of_pos (c / 4) (show (0:Int)<200 by decide)
   generalize c / 4%200=j at e0 e1
   have s0:=Same.new (o:=.lst [V.int 2,V.int 3,V.int 5,V.int 7,V.int 65537,V.int 998244353,V.int 2147483647,V.int 180143985094819841]) hq
   generalize upd H q (.lst [V.int 2,V.int 3,V.int 5,V.int 7,V.int 65537,V.int 998244353,V.int 2147483647,V.int 180143985094819841])=H0 at s0 ⊢
   have h211:GH 211:=Gq (n:=4) (by decide) (by decide +kernel) (by decide +kernel)
   obtain⟨Pv,hPv⟩:∃Pv:Nat->St->Hp->Prop,∀m σ2 H2,Pv m σ2 H2↔(H2=H0/\∃nb:Int,m=(211-nb).toNat/\2<=nb/\nb<=211/\σ2=[some (.int c),some (.ref q),some (.int nb)]):=⟨_,fun _ _ _=>Iff.rfl⟩
   refine Yv Pv ⟨_,(hPv _ _ _).mpr ⟨rfl,2+j,rfl,by omega,by omega,rfl⟩⟩ ?_
   intro m σ2 H2 hpv
   obtain⟨rfl,nb,rfl,n0,n1,rfl⟩:=(hPv _ _ _).mp hpv
   walk_at "rd"
   refine⟨nb,rfl,n0,by omega,fun b hb=>⟨b,rfl,?_⟩⟩
   cases b with
   |true=>
    rw[if_neg (by decide)]
    exact k nb _ s0 ⟨n0,by omega,hb.mp rfl⟩
   |false=>
    rw[if_pos (by decide)]
    have hne:nb≠211:=fun z=>by
     have:=hb.mpr (by rw[z];exact h211)
     cases this
    refine⟨fun σ' H'=>∃m',m'<(211-nb).toNat/\Pv m' σ' H',fun _ _ h=>h,_,?_,(hPv _ _ _).mpr ⟨rfl,nb+1,rfl,by omega,by omega,rfl⟩⟩
    omega
def QB:Sp:=fun vs H Q _=>∃n:Int,vs=[.int n]/\Q (.bl true) H
theorem QC {f:Addr}{fd:FuncData}(F:Fun K "_law_whole" "_law_whole" Co f fd)(T:Txt mg)
  (Z:Exs K mg C_AskError C_BadWord C_NoInverse)
  : FnOk P w K mg base CX0 1 f fd ["found"] (QB):=by
 refine F.ok Qe (fun vs H Q E h=>?_) (fun cdv A outer s H vs Q E hr h=>?_)
 ·obtain⟨n,rfl,_⟩:=h;rfl
 ·obtain⟨n,rfl,q⟩:=h
  refine⟨_,(Af (Aq (CP_ (As Cm rfl T.isinstance PyProof.Rows.boot_isinstance (Aa (pv 0) (Aa (Hw (v:=.ty "int") rfl T.int PyProof.Rows.boot_int rfl) Ab))) (CO_ (CQ_ (As Cm rfl T.isinstance PyProof.Rows.boot_isinstance (Aa (pv 0) (Aa (Hw (v:=.ty "bool") rfl T.bool PyProof.Rows.boot_bool rfl) Ab)))))))),?_⟩
  walk_at "rd"
  refine⟨_,_,.int _,LO,_,GD,?_⟩
  rw[if_pos rfl]
  refine⟨_,_,.int _,LO,_,Tu,?_⟩
  exact q
def Sm (p:Int)(tables:List (List (List Int))):Prop:=∀tb∈tables,∀r∈tb,∀x∈r,0<=x/\x<p
def GX (K:PySem.W.Frag):Sp:=fun vs H Q _=>∃(a:Addr) (ns:List Int) (k p:Int),vs=[.ref a,.int k,.int p]/\SqL K H a (ns.map V.int)/\0<=k/\k<=100000/\0<p/\∀x,0<=x->x<p->Q (.int x) H
theorem Ob {f:Addr}{fd:FuncData}(F:Fun K "_law_number" "_law_number" Bp f fd)(T:Txt mg)
  (Z:Exs K mg C_AskError C_BadWord C_NoInverse)
  {AD:Addr} {AK:FuncData} (AL:FnOk P w K mg base CX0 1 AD AK ["script","k"] (Nn K)) (AE:Fun K "_law_cell" "_law_cell" B7 AD AK) (AM:Binds K AK ["script","k"] []) (AN:mg "_law_cell"=some (.ref AD))
  : FnOk P w K mg base CX0 2 f fd ["script","k","p"] (GX K):=by
 refine F.ok Jn (fun vs H Q E h=>?_) (fun cdv A outer s H vs Q E hr h=>?_)
 ·obtain⟨a,ns,k,p,rfl,_⟩:=h;rfl
 ·obtain⟨a,ns,k,p,rfl,hs,k0,k1,hp,q⟩:=h
  refine⟨_,(Ad (Et (Bc U3 (pv 1) (As Aj (by rfl) T.len PySem.boot_len (Aa (pv 0) Ab)) (BM _))
   (Af (Aq (An BR (Ax E6 (pv 0) (pv 1) (fun _ _=>rfl)) (pv 2))))
   Bb)
   (Ad (Ai (i:=3) Jn.nd rfl (Or.inl rfl) (As (X3 rfl) rfl T.max PyProof.Rows.boot_max (Aa Ag (Aa (As Aj (by rfl) T.len PySem.boot_len (Aa (pv 0) Ab)) Ab))))
   (Af (Aq (An BR (An BR (An CN (An CN (An CP (An BR (Ah AL (hr.mono (by decide)) rfl AN AE.kp AM .nil Az (Aa (pv 0) (Aa (An BR (pv 1) (pv 3)) Ab))) Ag) Ag) (An CP (An CP (pv 1) (pv 1)) Ag)) (An CP Ag (pv 1))) Ag) (pv 2)))))),?_⟩
  walk_at "rd"
  refine⟨_,.inl hs,?_⟩
  rw[List.length_map]
  refine ite2 (fun hk=>?_) (fun hk=>?_)
  ·have hk':k.toNat<ns.length:=by omega
   refine⟨_,hs,_,Fq k0 (v:=ns[k.toNat]) (by simp[hk']),?_⟩
   walk_at "rd"
   exact⟨hp,q _ (Int.emod_nonneg _ (by omega)) (Int.emod_lt_of_pos _ hp)⟩
  ·have hm:(0:Int)<if ((ns.map V.int).length:Int) > 1 then ((ns.map V.int).length:Int) else 1:=by split<;>omega
   have r0:=Int.emod_nonneg k (show (if ((ns.map V.int).length:Int) > 1 then ((ns.map V.int).length:Int) else 1)≠0 by omega)
   exact⟨_,.inl hs,hm,a,ns,(k%if ((ns.map V.int).length:Int) > 1 then ((ns.map V.int).length:Int) else 1).toNat,by rw[Int.toNat_of_nonneg r0],hs,_,rfl,by decide,.inr ⟨by decide,by decide⟩,.inl ⟨by omega,by omega⟩,.inr ⟨by decide,by decide⟩,.inl ⟨by decide,by decide⟩,by decide,hp,q _ (Int.emod_nonneg _ (by omega)) (Int.emod_lt_of_pos _ hp)⟩
def QD (K:PySem.W.Frag):Sp:=fun vs H Q _=>∃(a:Addr) (ns:List Int) (c p:Int) (n:Nat),vs=[.ref a,.int c,.int n,.int p]/\SqL K H a (ns.map V.int)/\0<=c/\c<=10000/\n<=16/\0<p/\∀(t:Addr) (row:List Int) (H':Hp),Same H H'->SqT K H' t (row.map V.int)->row.length=n->(∀x∈row,0<=x/\x<p)->Q (.ref t) H'
theorem Vt {f:Addr}{fd:FuncData}(F:Fun K "_law_row" "_law_row" D0 f fd)(T:Txt mg)
  (Z:Exs K mg C_AskError C_BadWord C_NoInverse)
  {AF:Addr} {AU:FuncData} (Br:FnOk P w K mg base CX0 2 AF AU ["script","k","p"] (GX K)) (A9:Fun K "_law_number" "_law_number" Bp AF AU) (Bt:Binds K AU ["script","k","p"] []) (Bu:mg "_law_number"=some (.ref AF))
  : FnOk P w K mg base CX0 3 f fd ["script","at","many","p"] (QD K):=by
 refine F.ok Vj (fun vs H Q E h=>?_) (fun cdv A outer s H vs Q E hr h=>?_)
 ·obtain⟨a,ns,c,p,n,rfl,_⟩:=h;rfl
 ·obtain⟨a,ns,c,p,n,rfl,hs,c0,c1,hn,hp,k⟩:=h
  have hl:=Al
  refine⟨_,(Af (Aq (Aw Ap rfl T.tuple PyProof.Rows.boot_tuple (Aa (BN rfl (Ck rfl) (cp:=LW) ⟨⟨rfl,rfl⟩,⟨⟨rfl,rfl⟩,⟨⟨rfl,rfl⟩,True.intro⟩⟩⟩ (A0 rfl T.range (Aa (pv 2) Ab)) (fun _ _ _ _=>(Ak (i:=0) M7 rfl (Or.inl rfl))) (fun _ _ _ _=>BV) (fun _ _ _ _=>(Ah Br (hr.mono (by decide)) rfl Bu A9.kp Bt .nil Az (Aa (pv 1) (Aa (An CN (pv 3) (pv 0)) (Aa (pv 2) Ab)))))) Ab)))),?_⟩
  walk_at "rd"
  refine⟨by omega,by omega,?_⟩
  rw[Int.toNat_natCast]
  obtain⟨Pc,hPc⟩:∃Pc:Nat->List V->St->Hp->Prop,∀j ys σ4 H4,Pc j ys σ4 H4↔(H4=H/\∃(row:List Int) (o:Option V),ys=row.map V.int/\row.length=j/\(∀x∈row,0<=x/\x<p)/\σ4=[o,some (.ref a),some (.int p),some (.int c)]):=⟨_,fun _ _ _ _=>Iff.rfl⟩
  refine L8 Pc ((hPc _ _ _ _).mpr ⟨rfl,[],none,rfl,rfl,by simp,rfl⟩) (by omega) (fun j ys σ4 H4 _ h4=>?_) (fun j ys σ4 H4 hj h4=>?_) (fun ys σ4 H4 h4 D hD=>?_)
  ·obtain⟨_,row,o,rfl,hrl,_⟩:=(hPc _ _ _ _).mp h4
   rw[List.length_map];omega
  ·obtain⟨rfl,row,o,rfl,hrl,hrr,rfl⟩:=(hPc _ _ _ _).mp h4
   rw[Int.zero_add]
   walk_at "rd"
   refine⟨a,ns,c+j,p,rfl,hs,by omega,by omega,hp,fun x x0 x1=>(hPc _ _ _ _).mpr ⟨rfl,row++[x],_,by simp,by simp[hrl],fun z hz'=>?_,rfl⟩⟩
   rcases List.mem_append.mp hz' with h' | h'
   ·exact hrr z h'
   ·rw[List.mem_singleton.mp h'];exact⟨x0,x1⟩
  ·obtain⟨rfl,row,o,rfl,hrl,hrr,rfl⟩:=(hPc _ _ _ _).mp h4
   exact⟨D,rfl,_,.inl ⟨SqL.of Ac,fun t ht=>k t row _ ((Same.new hD).newT ht) (SqT.of Ac) hrl hrr⟩⟩
def T8 (K:PySem.W.Frag):Sp:=fun vs H Q _=>∃(p:Int) (a b:Addr) (xs:List V) (rows:List (List Int)) (am:List Int) (n:Nat),vs=[.int p,.ref b,.ref a]/\0<p/\p<1000000000000000000/\SqT K H a xs/\AS K H xs rows/\rows.length=n/\(∀r∈rows,r.length=n)/\SqT K H b (am.map V.int)/\am.length=n/\n<=16/\(∀x∈am,0<=x/\x<p)/\∀q H',Same H H'->SqT K H' q ((E7 p rows am n).map V.int)->Q (.ref q) H'
theorem T9 {f:Addr}{fd:FuncData}(F:Fun K "_law_step" "_law_step" DQ f fd)(T:Txt mg)
  (Z:Exs K mg C_AskError C_BadWord C_NoInverse)
  : FnOk P w K mg base CX0 1 f fd ["p","row","table"] (T8 K):=by
 refine F.ok HJ (fun vs H Q E h=>?_) (fun cdv A outer s H vs Q E hr h=>?_)
 ·obtain⟨p,a,b,xs,rows,am,n,rfl,_⟩:=h;rfl
 ·obtain⟨p,a,b,xs,rows,am,n,rfl,hp,hp18,ha,hrw,hrl,hrn,hb,hlen,hn,h64,k⟩:=h
  have hl:=Al
  refine⟨_,(Ad (Ai (i:=3) HJ.nd rfl (Or.inl rfl) (Fo Ab))
   (Ad (CM PassesOwn.never rfl (A0 rfl T.range (Aa (As Aj (by rfl) T.len PySem.boot_len (Aa (pv 1) Ab)) Ab)) (Ak (i:=4) HJ.nd rfl (Or.inr rfl))
   (Af (DO (J5 PySem.F.plainAttrs_list PySem.F.slot_list_append PySem.F.type_list_append BS (pv 3) (Aa (An BR (As (MB rfl) rfl T.sum PyProof.Rows.boot_sum (Aa (BN rfl (Ck rfl) (cp:=Kd) ⟨⟨rfl,rfl⟩,⟨⟨rfl,rfl⟩,⟨⟨rfl,rfl⟩,True.intro⟩⟩⟩ (A0 rfl T.range (Aa (As Aj (by rfl) T.len PySem.boot_len (Aa (pv 1) Ab)) Ab)) (fun _ _ _ _=>(Ak (i:=0) Md rfl (Or.inl rfl))) (fun _ _ _ _=>BV) (fun _ _ _ _=>(An CP (Ax (Ec (K:=K) rfl) (pv 1) (pv 0) (fun _ _=>rfl)) (Ax (Ec (K:=K) rfl) (Ax (Ec (K:=K) rfl) (pv 3) (pv 0) (fun _ _=>rfl)) (pv 2) (fun _ _=>rfl))))) Ab)) (pv 0)) Ab)))))
   (Af (Aq (Aw Ap rfl T.tuple PyProof.Rows.boot_tuple (Aa (pv 3) Ab)))))),?_⟩
  walk_at "rd"
  refine⟨by omega,fun q hq=>⟨_,.inr ((Same.new hq).seqT hb),by rw[List.length_map];omega,by rw[List.length_map];omega,?_⟩⟩
  rw[Int.toNat_natCast,List.length_map,hlen]
  obtain⟨Pv,hPv⟩:∃Pv:Nat->St->Hp->Prop,∀c σ' H',Pv c σ' H'↔(Same H H'/\H' q=some (.lst ((E7 p rows am c).map V.int))/\∃o,σ'=[some (.int p),some (.ref b),some (.ref a),some (.ref q),o]):=⟨_,fun _ _ _=>Iff.rfl⟩
  refine forR Pv ((hPv _ _ _).mpr ⟨Same.new hq,Ac,none,rfl⟩) (fun c σ2 H2 hc h2=>?_) (fun σ2 H2 h2=>?_)
  ·obtain⟨s2,hq2,o,rfl⟩:=(hPv _ _ _).mp h2
   rw[Int.zero_add]
   walk_at "rd"
   refine⟨.inl ⟨rfl,_,SqL.of hq2⟩,_,.inr (s2.seqT hb),by rw[List.length_map];omega,by rw[List.length_map];omega,?_⟩
   rw[Int.toNat_natCast,List.length_map,hlen]
   obtain⟨Pc,hPc⟩:∃Pc:Nat->List V->St->Hp->Prop,∀j ys σ4 H4,Pc j ys σ4 H4↔(H4=H2/\ys=((List.range j).map fun k=>am.getD k 0*(rows.getD k []).getD c 0).map V.int/\∃o,σ4=[o,some (.ref b),some (.int c),some (.ref a)]):=⟨_,fun _ _ _ _=>Iff.rfl⟩
   refine L8 Pc ((hPc _ _ _ _).mpr ⟨rfl,rfl,none,rfl⟩) (by omega) (fun j ys σ4 H4 _ h4=>?_) (fun j ys σ4 H4 hj h4=>?_) (fun ys σ4 H4 h4 D hD=>?_)
   ·obtain⟨_,rfl,_⟩:=(hPc _ _ _ _).mp h4
    rw[List.length_map,List.length_map,List.length_range];exact Nat.le_refl _
   ·obtain⟨rfl,rfl,o',rfl⟩:=(hPc _ _ _ _).mp h4
    rw[Int.zero_add]
    have hja:j<am.length:=by omega
    have hjr:j<rows.length:=by omega
    obtain⟨t,e1,e2⟩:=hrw.2 j rows[j] (by simp[hjr])
    have hcl:c<(rows[j]).length:=by rw[hrn _ (List.getElem_mem hjr)];exact hc
    have er:rows.getD j []=rows[j]:=by rw[List.getD_eq_getElem?_getD,List.getElem?_eq_getElem hjr];rfl
    have ea:am.getD j 0=am[j]:=by rw[List.getD_eq_getElem?_getD,List.getElem?_eq_getElem hja];rfl
    have ec:(rows.getD j []).getD c 0=(rows[j])[c]:=by rw[er,List.getD_eq_getElem?_getD,List.getElem?_eq_getElem hcl];rfl
    have hx:=h64 _ (List.getElem_mem hja)
    walk_at "rd"
    refine⟨_,s2.seqT hb,_,Fq (by omega) (v:=am[j]) (by simp[hja]),_,s2.seqT ha,_,Cq e1,t,rfl,_,s2.seqT e2,_,Fq (by omega) (v:=(rows[j])[c]) (by simp[hcl]),?_⟩
    refine⟨_,rfl,_,rfl,.inl ⟨by omega,by omega⟩,(hPc _ _ _ _).mpr ⟨rfl,?_,_,rfl⟩⟩
    rw[List.range_succ,List.map_append,List.map_append,List.map_singleton,List.map_singleton,ea,ec]
   ·obtain⟨rfl,rfl,o',rfl⟩:=(hPc _ _ _ _).mp h4
    refine⟨D,rfl,_,SqL.of Ac,hp,_,(Same.new hD) _ _ hq2,by unfold E7;rw[List.length_map,List.length_map,List.length_range];omega,(hPv _ _ _).mpr ⟨(s2.newT hD).over hq,?_,_,rfl⟩⟩
    have:=By_ am rows c (by omega)
    rw[hrl]at this
    rw[Ac,this]
    unfold E7
    rw[List.range_succ,List.map_append,List.map_append];rfl
  ·obtain⟨s2,hq2,o,rfl⟩:=(hPv _ _ _).mp h2
   walk_at "rd"
   exact⟨_,.inl ⟨SqL.of hq2,fun t ht=>k t _ (s2.newT ht) (SqT.of Ac)⟩⟩
def Pg (K:PySem.W.Frag):Sp:=fun vs H Q _=>∃(p:Int) (a b:Addr) (xs ys:List Int),vs=[.int p,.ref a,.ref b]/\0<p/\p<1000000000000000000/\SqT K H a (xs.map V.int)/\SqT K H b (ys.map V.int)/\xs.length=ys.length/\xs.length<=16/\(∀x∈xs,0<=x/\x<p)/\∀H',Same H H'->Q (.int (dotW xs ys%p)) H'
theorem QE {f:Addr}{fd:FuncData}(F:Fun K "_law_times" "_law_times" C4 f fd)(T:Txt mg)
  (Z:Exs K mg C_AskError C_BadWord C_NoInverse)
  : FnOk P w K mg base CX0 1 f fd ["p","one","two"] (Pg K):=by
 refine F.ok Qf (fun vs H Q E h=>?_) (fun cdv A outer s H vs Q E hr h=>?_)
 ·obtain⟨p,a,b,xs,ys,rfl,_⟩:=h;rfl
 ·obtain⟨p,a,b,xs,ys,rfl,hp,hp18,ha,hb,hlen,hn,h64,k⟩:=h
  have hl:=Al
  refine⟨_,(Af (Aq (An BR (As (MB rfl) rfl T.sum PyProof.Rows.boot_sum (Aa (BN rfl (Ck rfl) (cp:=Ju) ⟨⟨rfl,rfl⟩,⟨⟨rfl,rfl⟩,True.intro⟩⟩ (A0 rfl T.range (Aa (As Aj (by rfl) T.len PySem.boot_len (Aa (pv 1) Ab)) Ab)) (fun _ _ _ _=>(Ak (i:=0) Ld rfl (Or.inl rfl))) (fun _ _ _ _=>BV) (fun _ _ _ _=>(An CP (Ax (Ec (K:=K) rfl) (pv 1) (pv 0) (fun _ _=>rfl)) (Ax (Ec (K:=K) rfl) (pv 2) (pv 0) (fun _ _=>rfl))))) Ab)) (pv 0)))),?_⟩
  walk_at "rd"
  refine⟨_,.inr ha,by rw[List.length_map];omega,by rw[List.length_map];omega,?_⟩
  rw[Int.toNat_natCast,List.length_map]
  obtain⟨Pe,hPe⟩:∃Pe:Nat->List V->St->Hp->Prop,∀j zs σ4 H',Pe j zs σ4 H'↔(H'=H/\zs=((List.range j).map fun k=>xs.getD k 0*ys.getD k 0).map V.int/\∃o,σ4=[o,some (.ref a),some (.ref b)]):=⟨_,fun _ _ _ _=>Iff.rfl⟩
  refine L8 Pe ((hPe _ _ _ _).mpr ⟨rfl,rfl,none,rfl⟩) (by omega) (fun j zs σ4 H' _ h4=>?_) (fun j zs σ4 H' hj h4=>?_) (fun zs σ4 H' h4 D6 hD6=>?_)
  ·obtain⟨_,rfl,_⟩:=(hPe _ _ _ _).mp h4
   rw[List.length_map,List.length_map,List.length_range];exact Nat.le_refl _
  ·obtain⟨rfl,rfl,o',rfl⟩:=(hPe _ _ _ _).mp h4
   rw[Int.zero_add]
   have hj2:j<ys.length:=by omega
   have ex:xs.getD j 0=xs[j]:=by rw[List.getD_eq_getElem?_getD,List.getElem?_eq_getElem hj];rfl
   have ey:ys.getD j 0=ys[j]:=by rw[List.getD_eq_getElem?_getD,List.getElem?_eq_getElem hj2];rfl
   have hx:=h64 _ (List.getElem_mem hj)
   walk_at "rd"
   refine⟨_,ha,_,Fq (by omega) (v:=xs[j]) (by simp[hj]),_,hb,_,Fq (by omega) (v:=ys[j]) (by simp[hj2]),_,rfl,_,rfl,.inl ⟨by omega,by omega⟩,(hPe _ _ _ _).mpr ⟨rfl,?_,_,rfl⟩⟩
   rw[List.range_succ,List.map_append,List.map_append,List.map_singleton,List.map_singleton,ex,ey]
  ·obtain⟨rfl,rfl,o',rfl⟩:=(hPe _ _ _ _).mp h4
   have hsum:((List.range xs.length).map fun k=>xs.getD k 0*ys.getD k 0).sum=dotW xs ys:=by
    unfold dotW
    congr 1
    refine List.ext_getElem (by simp[hlen]) fun i h1 h2=>?_
    have hi:i<xs.length:=by simpa using h1
    have hi':i<ys.length:=by omega
    simp[List.getD_eq_getElem?_getD,hi,hi']
   refine⟨D6,rfl,_,SqL.of Ac,hp,?_⟩
   rw[hsum]
   exact k _ (Same.new hD6)
def Nq (K:PySem.W.Frag):Sp:=fun vs H Q _=>∃(h a:Addr) (p L:Int) (d:Nat) (first last ws:List Int) (tables:List (List (List Int))),vs=[.ref h,.ref a]/\SumH K H h p L first tables last/\WfSum p L d first tables last/\SqT K H a (ws.map V.int)/\isW L ws=true/\∀(t:Addr) (H':Hp),Same H H'->SqT K H' t ((rowS p d tables first ws).map V.int)->Q (.ref t) H'
theorem Oc {f:Addr}{fd:FuncData}(F:Fun K "_law_behind" "_law_behind" Cr f fd)(T:Txt mg)
  (Z:Exs K mg C_AskError C_BadWord C_NoInverse)
  {DS:Addr} {Ip:FuncData} (JL:FnOk P w K mg base CX0 1 DS Ip ["p","row","table"] (T8 K)) (FJ:Fun K "_law_step" "_law_step" DQ DS Ip) (JN:Binds K Ip ["p","row","table"] []) (JO:mg "_law_step"=some (.ref DS))
  : FnOk P w K mg base CX0 2 f fd ["house","word"] (Nq K):=by
 refine F.ok EK (fun vs H Q E h=>?_) (fun cdv A outer s H vs Q E hr h=>?_)
 ·obtain⟨h,a,p,L,d,first,last,ws,tables,rfl,_⟩:=h;rfl
 ·obtain⟨h,a,p,L,d,first,last,ws,tables,rfl,hh,wf,hw,hv,k⟩:=h
  have h2:=wf.p2
  have h18:=wf.p18
  have hd:=wf.dl
  refine⟨_,(Ad (Ai (i:=2) EK.nd rfl (Or.inl rfl) (Ax Au (pv 0) Ag (fun _ _=>rfl)))
   (Ad (CM PassesOwn.never rfl (Jm (pv 1)) (Ak (i:=3) EK.nd rfl (Or.inl rfl))
   (Af (Ai (i:=2) EK.nd rfl (Or.inl rfl) (Ah JL (hr.mono (by decide)) rfl JO FJ.kp JN .nil Az (Aa (Ax Au (pv 0) Ag (fun _ _=>rfl)) (Aa (pv 2) (Aa (Ax Au (Ax Au (pv 0) Ag (fun _ _=>rfl)) (pv 3) (fun _ _=>rfl)) Ab)))))))
   (Af (Aq (pv 2))))),?_⟩
  obtain⟨tf,tt,tl,e1,e2,e3,e4⟩:=id hh
  walk_at "rd"
  refine⟨_,e1,_,rfl,⟨_,hw⟩,?_⟩
  obtain⟨Pv,hPv⟩:∃Pv:Nat->St->Hp->Prop,∀i σ' H',Pv i σ' H'↔(∃(t:Addr) (o:Option V),Same H H'/\SqT K H' t ((rowS p d tables first (ws.take i)).map V.int)/\σ'=[some (.ref h),some (.ref a),some (.ref t),o]):=⟨_,fun _ _ _=>Iff.rfl⟩
  refine forT (xs:=ws.map V.int) Pv ((hPv _ _ _).mpr ⟨tf,none,Same.refl _,e2,rfl⟩) (fun i σ' H' _ h'=>by obtain⟨_,_,s',_⟩:=(hPv _ _ _).mp h';exact s'.seqT hw) (fun i x σ' H' hx h'=>?_) (fun σ' H' h'=>?_)
  ·obtain⟨t,o,s2,ht,rfl⟩:=(hPv _ _ _).mp h'
   obtain⟨n,hn,rfl⟩:=Ja hx
   have hnr:=Bl.mp hv n (List.mem_of_getElem? hn)
   obtain⟨r1,r2⟩:=wf.row (ws.take i)
   obtain⟨t1,t2,t3⟩:=wf.table hnr.1 hnr.2
   obtain⟨zs,u,xs,z1,z2,z3,z4⟩:=(e4.mono s2).at t1
   rw[Int.toNat_of_nonneg hnr.1]at z2
   walk_at "rd"
   refine⟨_,s2.seqT e1,_,rfl,_,s2.seqT e1,_,rfl,?_⟩
   walk_at "rd"
   exact⟨_,z1,_,z2,p,u,t,xs,_,_,d,rfl,by omega,by omega,z3,z4,t2,t3,ht,r1,by omega,r2,fun q H3 s3 hq=>(hPv _ _ _).mpr ⟨q,_,s2.trans s3,by rw[T3 hn];exact hq,rfl⟩⟩
  ·obtain⟨t,o,s2,ht,rfl⟩:=(hPv _ _ _).mp h'
   rw[List.length_map,List.take_length]at ht
   walk_at "rd"
   exact k t _ s2 ht
def TabL (K:PySem.W.Frag)(H:Hp)(us:List Addr)(tables:List (List (List Int))):Prop:=us.length=tables.length/\∀(i:Nat) (u:Addr) (tb:List (List Int)),us[i]?=some u->tables[i]?=some tb->∃xs,SqT K H u xs/\AS K H xs tb
theorem TabL.mono {K:PySem.W.Frag}{H H':Hp}{us:List Addr}{tables:List (List (List Int))}(h:TabL K H us tables)(s:∀t ys,SqT K H t ys->SqT K H' t ys):TabL K H' us tables:=by
 refine⟨h.1,fun i u tb h1 h2=>?_⟩
 obtain⟨xs,d,e⟩:=h.2 i u tb h1 h2
 refine⟨xs,s _ _ d,e.1,fun j r hj=>?_⟩
 obtain⟨t,a,b⟩:=e.2 j r hj
 exact⟨t,a,s _ _ b⟩
theorem TabL.snoc {K:PySem.W.Frag}{H:Hp}{us:List Addr}{tables:List (List (List Int))}{u:Addr}{xs:List V}{tb:List (List Int)}(h:TabL K H us tables)(h1:SqT K H u xs)(h2:AS K H xs tb):TabL K H (us++[u]) (tables++[tb]):=by
 refine⟨by simp[h.1],fun i v tb' hi ht=>?_⟩
 by_cases hl:i<us.length
 ·rw[List.getElem?_append_left hl]at hi
  rw[List.getElem?_append_left (by rw[<-h.1];exact hl)]at ht
  exact h.2 i v tb' hi ht
 ·have:=(List.getElem?_eq_some_iff.mp hi).1
  rw[List.length_append,List.length_singleton]at this
  have e:i=us.length:=by omega
  subst e
  rw[List.getElem?_append_right (Nat.le_refl _),Nat.sub_self]at hi
  rw[h.1,List.getElem?_append_right (Nat.le_refl _),Nat.sub_self]at ht
  simp at hi ht
  subst hi ht
  exact⟨xs,h1,h2⟩
def Ph (K:PySem.W.Frag):Sp:=fun vs H Q _=>∃(a:Addr) (ns:List Int) (c p:Int) (L n:Nat),vs=[.ref a,.int c,.int p,.int L,.int n]/\SqL K H a (ns.map V.int)/\0<=c/\c<=100/\2<=p/\p<1000000000000000000/\1<=L/\L<=6/\n<=4/\∀(h:Addr) (first last:List Int) (tables:List (List (List Int))) (H':Hp),Same H H'->SumH K H' h p L first tables last->WfSum p L n first tables last->Sm p tables->Q (.ref h) H'
theorem QF {f:Addr}{fd:FuncData}(F:Fun K "_law_house" "_law_house" C3 f fd)(T:Txt mg)
  (Z:Exs K mg C_AskError C_BadWord C_NoInverse)
  {Cf:Addr} {DT:FuncData} (D1:FnOk P w K mg base CX0 3 Cf DT ["script","at","many","p"] (QD K)) (CI:Fun K "_law_row" "_law_row" D0 Cf DT) (D3:Binds K DT ["script","at","many","p"] []) (D4:mg "_law_row"=some (.ref Cf))
  : FnOk P w K mg base CX0 4 f fd ["script","at","p","letters","many"] (Ph K):=by
 refine F.ok Ee (fun vs H Q E h=>?_) (fun cdv A outer s H vs Q E hr h=>?_)
 ·obtain⟨a,ns,c,p,L,n,rfl,_⟩:=h;rfl
 ·obtain⟨a,ns,c,p,L,n,rfl,hs,c0,c1,p2,p18,hL1,hL6,hn,k⟩:=h
  have hl:=Al
  refine⟨_,(Ad (Ai (i:=5) Ee.nd rfl (Or.inl rfl) (Fo Ab))
   (Ad (CM PassesOwn.never rfl (A0 rfl T.range (Aa (pv 3) Ab)) (Ak (i:=6) Ee.nd rfl (Or.inl rfl))
   (Ad (Ai (i:=7) Ee.nd rfl (Or.inr rfl) (An CN (An CN (pv 1) (An CP Ag (pv 4))) (An CP (An CP (pv 6) (pv 4)) (pv 4))))
   (Af (DO (J5 PySem.F.plainAttrs_list PySem.F.slot_list_append PySem.F.type_list_append BS (pv 5) (Aa (Aw Ap rfl T.tuple PyProof.Rows.boot_tuple (Aa (BN rfl (Ck rfl) (cp:=Jt) ⟨⟨rfl,rfl⟩,⟨⟨rfl,rfl⟩,⟨⟨rfl,rfl⟩,⟨⟨rfl,rfl⟩,True.intro⟩⟩⟩⟩ (A0 rfl T.range (Aa (pv 4) Ab)) (fun _ _ _ _=>(Ak (i:=0) Lc rfl (Or.inl rfl))) (fun _ _ _ _=>BV) (fun _ _ _ _=>(Ah D1 (hr.mono (by decide)) rfl D4 CI.kp D3 .nil Az (Aa (pv 1) (Aa (An CN (pv 4) (An CP (pv 2) (pv 0))) (Aa (pv 2) (Aa (pv 3) Ab))))))) Ab)) Ab))))))
   (Ad (Ai (i:=8) Ee.nd rfl (Or.inl rfl) (Ah D1 (hr.mono (by decide)) rfl D4 CI.kp D3 .nil Az (Aa (pv 0) (Aa (pv 1) (Aa (pv 4) (Aa (pv 2) Ab))))))
   (Af (Aq (Cj (Aa (pv 2) (Aa (pv 3) (Aa (pv 8) (Aa (Aw Ap rfl T.tuple PyProof.Rows.boot_tuple (Aa (pv 5) Ab)) (Aa (Ah D1 (hr.mono (by decide)) rfl D4 CI.kp D3 .nil Az (Aa (pv 0) (Aa (An CN (pv 1) (pv 4)) (Aa (pv 4) (Aa (pv 2) Ab))))) Ab))))))))))),?_⟩
  walk_at "rd"
  refine⟨by omega,fun q hq=>⟨by omega,by omega,?_⟩⟩
  rw[Int.toNat_natCast]
  obtain⟨Pv,hPv⟩:∃Pv:Nat->St->Hp->Prop,∀i σ' H',Pv i σ' H'↔(∃(us:List Addr) (tables:List (List (List Int))) (o1 o2:Option V),Same H H'/\H' q=some (.lst (us.map V.ref))/\TabL K H' us tables/\tables.length=i/\(∀tb∈tables,(tb.length=n/\∀r∈tb,r.length=n)/\∀r∈tb,∀x∈r,0<=x/\x<p)/\σ'=[some (.ref a),some (.int c),some (.int p),some (.int L),some (.int n),some (.ref q),o1,o2,none]):=⟨_,fun _ _ _=>Iff.rfl⟩
  refine forR Pv ((hPv _ _ _).mpr ⟨[],[],none,none,Same.new hq,Ac,⟨rfl,fun i u tb h=>by simp at h⟩,rfl,by simp,rfl⟩) (fun i σ2 H2 hi h2=>?_) (fun σ2 H2 h2=>?_)
  ·obtain⟨us,tables,o1,o2,s2,hq2,hT,htl,htt,rfl⟩:=(hPv _ _ _).mp h2
   rw[Int.zero_add]
   walk_at "rd"
   have b1:0<=(i:Int)*(n:Int)/\(i:Int)*(n:Int)<=24:=by
    have h1:i*n<=6*4:=Nat.mul_le_mul (by omega) (by omega)
    have h2:(i:Int)*(n:Int)=((i*n:Nat):Int):=by rw[Int.natCast_mul]
    omega
   have b2:0<=(i:Int)*(n:Int)*(n:Int)/\(i:Int)*(n:Int)*(n:Int)<=96:=by
    have h1:i*n*n<=24*4:=Nat.mul_le_mul (Nat.mul_le_mul (show i<=6 by omega) (show n<=4 by omega)) (by omega)
    have h2:(i:Int)*(n:Int)*(n:Int)=((i*n*n:Nat):Int):=by rw[Int.natCast_mul,Int.natCast_mul]
    omega
   refine⟨.inl ⟨by decide,by decide⟩,.inr ⟨by omega,by omega⟩,.inr ⟨by omega,by omega⟩,.inl ⟨rfl,_,SqL.of hq2⟩,by omega,by omega,?_⟩
   have hbs:0<=c+2*(n:Int)+(i:Int)*(n:Int)*(n:Int)/\c+2*(n:Int)+(i:Int)*(n:Int)*(n:Int)<=300:=by omega
   generalize c+2*(n:Int)+(i:Int)*(n:Int)*(n:Int)=bs at hbs ⊢
   rw[Int.toNat_natCast]
   obtain⟨Pc,hPc⟩:∃Pc:Nat->List V->St->Hp->Prop,∀j ys σ4 H4,Pc j ys σ4 H4↔(Same H2 H4/\∃(rows:List (List Int)) (o:Option V),AS K H4 ys rows/\rows.length=j/\(∀r∈rows,r.length=n/\∀x∈r,0<=x/\x<p)/\σ4=[o,some (.ref a),some (.int n),some (.int p),some (.int bs)]):=⟨_,fun _ _ _ _=>Iff.rfl⟩
   refine L8 Pc ((hPc _ _ _ _).mpr ⟨Same.refl _,[],none,AS.nil,rfl,by simp,rfl⟩) (by omega) (fun j ys σ4 H4 _ h4=>?_) (fun j ys σ4 H4 hj h4=>?_) (fun ys σ4 H4 h4 D hD=>?_)
   ·obtain⟨_,rows,o,hR,hrl,_⟩:=(hPc _ _ _ _).mp h4
    rw[hR.1];omega
   ·obtain⟨s4,rows,o,hR,hrl,hrn,rfl⟩:=(hPc _ _ _ _).mp h4
    rw[Int.zero_add]
    have b3:0<=(n:Int)*(j:Int)/\(n:Int)*(j:Int)<=16:=by
     have h1:n*j<=4*4:=Nat.mul_le_mul (by omega) (by omega)
     have h2:(n:Int)*(j:Int)=((n*j:Nat):Int):=by rw[Int.natCast_mul]
     omega
    walk_at "rd"
    refine⟨.inl ⟨by omega,by omega⟩,a,ns,bs+n*j,p,n,rfl,(s2.trans s4).seq hs,by omega,by omega,by omega,by omega,fun t row H5 s5 ht hrl' hrr=>(hPc _ _ _ _).mpr ⟨s4.trans s5,rows++[row],_,(hR.mono s5).snoc ht,by simp[hrl],fun r hr'=>?_,rfl⟩⟩
    rcases List.mem_append.mp hr' with h' | h'
    ·exact hrn r h'
    ·rw[List.mem_singleton.mp h'];exact⟨hrl',hrr⟩
   ·obtain⟨s4,rows,o,hR,hrl,hrn,rfl⟩:=(hPc _ _ _ _).mp h4
    refine⟨D,rfl,_,.inl ⟨SqL.of Ac,fun t ht=>?_⟩⟩
    have sDt:=(Same.new hD (o:=.lst ys)).newT ht (o:=.tup ys)
    have hq4:=(s4.trans sDt) _ _ hq2
    have hxl:=hT.1
    refine⟨_,hq4,by rw[List.length_map];omega,(hPv _ _ _).mpr ⟨us++[t],tables++[rows],_,_,((s2.trans s4).trans sDt).over hq,by rw[Ac];simp,?_,by simp[htl],fun tb htb=>?_,rfl⟩⟩
    ·exact ((hT.mono fun t' ys' e'=>(s4.trans sDt).seqT e').snoc (SqT.of Ac) (hR.mono sDt)).mono fun t' ys' e'=>AO hq4 e'
    ·rcases List.mem_append.mp htb with h' | h'
     ·exact htt tb h'
     ·rw[List.mem_singleton.mp h'];exact⟨⟨hrl,fun r z=>(hrn r z).1⟩,fun r z=>(hrn r z).2⟩
  ·obtain⟨us,tables,o1,o2,s2,hq2,hT,htl,htt,rfl⟩:=(hPv _ _ _).mp h2
   walk_at "rd"
   refine⟨a,ns,c,p,n,rfl,s2.seq hs,c0,by omega,by omega,by omega,fun tf first H3 s3 htf hfl hfr=>⟨_,.inl ⟨SqL.of (s3 _ _ hq2),fun tt htt'=>?_⟩⟩⟩
   have stt:=Same.new htt' (o:=.tup (us.map V.ref))
   refine⟨a,ns,c+n,p,n,rfl,((s2.trans s3).trans stt).seq hs,by omega,by omega,by omega,by omega,fun tl last H4 s4 htl' hll hlr=>⟨by omega,fun hh hhh=>?_⟩⟩
   have sh:=Same.new hhh (o:=.tup [V.int p,V.int L,V.ref tf,V.ref tt,V.ref tl])
   have s24:=(s3.trans stt).trans s4
   refine k hh first last tables _ ((s2.trans s24).trans sh) ⟨tf,tt,tl,SqT.of Ac,((stt.trans s4).trans sh).seqT htf,sh.seqT htl',us,(s4.trans sh).seqT (SqT.of Ac),hT.1,?_⟩ ⟨p2,p18,by omega,⟨hfl,hfr⟩,⟨hll,hlr⟩,by omega,fun tb z=>(htt tb z).1⟩ (fun tb z=>(htt tb z).2)
   exact (hT.mono fun t' ys' e'=>(s24.trans sh).seqT e').2
def Ua (K:PySem.W.Frag):Sp:=fun vs H Q _=>∃(h a:Addr) (p L:Int) (d:Nat) (f l ws:List Int) (t:List (List (List Int))),vs=[.ref h,.ref a]/\SumH K H h p L f t l/\WfSum p L d f t l/\SqT K H a (ws.map V.int)/\isW L ws=true/\∀H',Same H H'->Q (.int (dotW (rowS p d t f ws) l%p)) H'
theorem QG {f:Addr}{fd:FuncData}(F:Fun K "_law_worth" "_law_worth" C7 f fd)(T:Txt mg)
  (Z:Exs K mg C_AskError C_BadWord C_NoInverse)
  {Dm:Addr} {GY:FuncData} (Iq:FnOk P w K mg base CX0 1 Dm GY ["p","one","two"] (Pg K)) (EX:Fun K "_law_times" "_law_times" C4 Dm GY) (Ir:Binds K GY ["p","one","two"] []) (Iu:mg "_law_times"=some (.ref Dm))
  {Cv:Addr} {Gd:FuncData} (GZ:FnOk P w K mg base CX0 2 Cv Gd ["house","word"] (Nq K)) (Eo:Fun K "_law_behind" "_law_behind" Cr Cv Gd) (G0:Binds K Gd ["house","word"] []) (G3:mg "_law_behind"=some (.ref Cv))
  : FnOk P w K mg base CX0 3 f fd ["house","word"] (Ua K):=by
 refine F.ok Qg (fun vs H Q E h=>?_) (fun cdv A outer s H vs Q E hr h=>?_)
 ·obtain⟨h,a,p,L,d,f,l,ws,t,rfl,_⟩:=h;rfl
 ·obtain⟨h,a,p,L,d,f,l,ws,t,rfl,hh,wf,ha,hw,k⟩:=h
  obtain⟨a1,a2,a3,x1,x2,x3,xA⟩:=id hh
  have hp2:=wf.p2
  have hp18:=wf.p18
  have hd:=wf.dl
  refine⟨_,(Af (Aq (Ah Iq (hr.mono (by decide)) rfl Iu EX.kp Ir .nil Az (Aa (Ax Au (pv 0) Ag (fun _ _=>rfl)) (Aa (Ah GZ (hr.mono (by decide)) rfl G3 Eo.kp G0 .nil Az (Aa (pv 0) (Aa (pv 1) Ab))) (Aa (Ax Au (pv 0) Ag (fun _ _=>rfl)) Ab)))))),?_⟩
  walk_at "rd"
  obtain⟨r1,r2⟩:=wf.row ws
  exact⟨_,x1,_,rfl,h,a,p,L,d,f,l,ws,t,rfl,hh,wf,ha,hw,fun q H1 s1 hq=>⟨_,s1.seqT x1,_,rfl,p,q,a3,_,l,rfl,by omega,hp18,hq,s1.seqT x3,by rw[r1,wf.l.1],by omega,r2,fun H2 s2=>k _ (s1.trans s2)⟩⟩
theorem Cw_ (xs:List V)(m:Nat):cutV xs (some (m:Int)) none=xs.drop m:=by
 unfold cutV
 rw[HT.sIx_nat,HT.sIx_none]
 by_cases h:m<=xs.length
 ·rw[Nat.min_eq_left h,List.take_of_length_le (by rw[List.length_drop];omega)]
 ·rw[Nat.min_eq_right (by omega),List.drop_of_length_le (by omega),List.drop_of_length_le (by omega)];simp
theorem Cx_ (xs:List V)(n:Nat):cutV xs none (some (n:Int))=xs.take n:=by
 unfold cutV
 rw[HT.sIx_nat,HT.sIx_none]
 by_cases h:n<=xs.length
 ·rw[Nat.min_eq_left h];simp
 ·rw[Nat.min_eq_right (by omega),List.take_of_length_le (show xs.length<=n by omega)];simp
def BE_ (K:PySem.W.Frag):Sp:=fun vs H Q _=>∃(p tm:Int) (r:Addr) (i j n:Nat) (row:List Int),vs=[.int p,.ref r,.int i,.int j,.int tm]/\2<=p/\p<1000000000000000000 /\ -p<tm/\tm<p/\SqT K H r (row.map V.int)/\row.length=n/\n<=16/\(∀x∈row,0<=x/\x<p)/\i<n/\j<n/\∀(q:Addr) (row':List Int) (H':Hp),Same H H'->SqT K H' q (row'.map V.int)->row'.length=n->(∀x∈row',0<=x/\x<p)->Q (.ref q) H'
theorem Lp {f:Addr}{fd:FuncData}(F:Fun K "_law_column_on" "_law_column_on" Bm f fd)(T:Txt mg)
  (Z:Exs K mg C_AskError C_BadWord C_NoInverse)
  : FnOk P w K mg base CX0 1 f fd ["p","row","i","j","times"] (BE_ K):=by
 refine F.ok Gu (fun vs H Q E h=>?_) (fun cdv A outer s H vs Q E hr h=>?_)
 ·obtain⟨p,tm,r,i,j,n,row,rfl,_⟩:=h;rfl
 ·obtain⟨p,tm,r,i,j,n,row,rfl,p2,p18,tm0,tm1,hr,hn,hn16,hin,hi,hj,k⟩:=h
  have hl:=Al
  refine⟨_,(Ad (Ai (i:=5) Gu.nd rfl (Or.inl rfl) (An BR (An CN (Ax Au (pv 1) (pv 3) (fun _ _=>rfl)) (An CP (pv 4) (Ax Au (pv 1) (pv 2) (fun _ _=>rfl)))) (pv 0)))
   (Af (Aq (An DM (An DM (J3 MV (pv 1) ML (MM (pv 3))) (Cj (Aa (pv 5) Ab))) (J3 MV (pv 1) (MM (An CN (pv 3) Ag)) ML))))),?_⟩
  walk_at "rd"
  have hgj:row[j]?=some row[j]:=by simp
  have hgi:row[i]?=some row[i]:=by simp
  generalize row[j]=xj at hgj
  generalize row[i]=xi at hgi
  refine⟨_,hr,V.int xj,Cq (by rw[List.getElem?_map,hgj];rfl),_,hr,V.int xi,Cq (by rw[List.getElem?_map,hgi];rfl),xi,rfl,.inl ⟨by omega,by omega⟩,xj,rfl,by omega,_,hr,fun t1 H1 s1 ht1=>⟨by omega,fun t2 ht2=>?_⟩⟩
  have e1:cutV (row.map V.int) none (some (j:Int))=(row.take j).map V.int:=by
   rw[List.map_take]
   exact Cx_ (row.map V.int) j
  have e2:cutV (row.map V.int) (some ((j:Int)+1)) none=(row.drop (j+1)).map V.int:=by
   rw[List.map_drop];exact Cw_ (row.map V.int) (j+1)
  rw[e1]at ht1
  have m0:=Int.emod_nonneg (xj+tm*xi) (show p≠0 by omega)
  have m1:=Int.emod_lt_of_pos (xj+tm*xi) (show 0<p by omega)
  refine DH.of ((Same.new ht2).seqT ht1) (SqT.of Ac) (by simp;omega) fun t3 H3 s3 ht3=>⟨_,((s1.newT ht2).trans s3).seqT hr,fun t4 H4 s4 ht4=>?_⟩
  rw[e2]at ht4
  refine DH.of (s4.seqT ht3) ht4 (by simp;omega) fun t5 H5 s5 ht5=>k t5 (row.take j++[(xj+tm*xi)%p]++row.drop (j+1)) H5 ((((s1.newT ht2).trans s3).trans s4).trans s5) ?_ (by simp;omega) fun x hx=>?_
  ·rw[List.map_append,List.map_append];exact ht5
  ·rcases List.mem_append.mp hx with hx|hx
   ·rcases List.mem_append.mp hx with hx|hx
    ·exact hin x (List.mem_of_mem_take hx)
    ·rw[List.mem_singleton.mp hx];exact⟨m0,m1⟩
   ·exact hin x (List.mem_of_mem_drop hx)
def Wu (K:PySem.W.Frag):Sp:=fun vs H Q _=>∃(p tm:Int) (r o:Addr) (n:Nat) (row other:List Int),vs=[.int p,.ref r,.int tm,.ref o]/\2<=p/\p<1000000000000000000 /\ -p<tm/\tm<p/\SqT K H r (row.map V.int)/\row.length=n/\SqT K H o (other.map V.int)/\other.length=n/\n<=16/\(∀x∈other,0<=x/\x<p)/\∀(q:Addr) (row':List Int) (H':Hp),Same H H'->SqT K H' q (row'.map V.int)->row'.length=n->(∀x∈row',0<=x/\x<p)->Q (.ref q) H'
theorem Mf {f:Addr}{fd:FuncData}(F:Fun K "_law_row_less" "_law_row_less" BD f fd)(T:Txt mg)
  (Z:Exs K mg C_AskError C_BadWord C_NoInverse)
  : FnOk P w K mg base CX0 1 f fd ["p","row","times","other"] (Wu K):=by
 refine F.ok Mb (fun vs H Q E h=>?_) (fun cdv A outer s H vs Q E hr h=>?_)
 ·obtain⟨p,tm,r,o,n,row,other,rfl,_⟩:=h;rfl
 ·obtain⟨p,tm,r,o,n,row,other,rfl,p2,p18,tm0,tm1,hr,hn,ho,hno,hn16,hin,k⟩:=h
  have hl:=Al
  refine⟨_,(Af (Aq (Aw Ap rfl T.tuple PyProof.Rows.boot_tuple (Aa (BN rfl (Ck rfl) (cp:=Gv) ⟨⟨rfl,rfl⟩,⟨⟨rfl,rfl⟩,⟨⟨rfl,rfl⟩,⟨⟨rfl,rfl⟩,True.intro⟩⟩⟩⟩ (A0 rfl T.range (Aa (As Aj (by rfl) T.len PySem.boot_len (Aa (pv 1) Ab)) Ab)) (fun _ _ _ _=>(Ak (i:=0) Jj rfl (Or.inl rfl))) (fun _ _ _ _=>BV) (fun _ _ _ _=>(An BR (An O1 (Ax (Ec (K:=K) rfl) (pv 2) (pv 0) (fun _ _=>rfl)) (An CP (pv 3) (Ax (Ec (K:=K) rfl) (pv 4) (pv 0) (fun _ _=>rfl)))) (pv 1)))) Ab)))),?_⟩
  walk_at "rd"
  refine⟨_,.inr hr,by rw[List.length_map];omega,by rw[List.length_map];omega,?_⟩
  rw[Int.toNat_natCast,List.length_map,hn]
  refine L8 (fun j ys σ2 H2=>H2=H/\(∃row':List Int,ys=row'.map V.int/\row'.length=j/\∀x∈row',0<=x/\x<p)/\∃u,σ2=[u,some (.int p),some (.ref r),some (.int tm),some (.ref o)]) ⟨rfl,⟨[],rfl,rfl,by simp⟩,none,rfl⟩ (by omega) (fun j ys σ2 H2 hj h2=>by obtain⟨_,⟨row',rfl,h1,_⟩,_⟩:=h2;rw[List.length_map];omega) (fun j ys σ2 H2 hj h2=>?_) (fun ys σ2 H2 h2 D hD=>?_)
  ·obtain⟨rfl,⟨row',rfl,hl',hin'⟩,u,rfl⟩:=h2
   rw[Int.zero_add]
   have hgj:row[j]?=some row[j]:=by simp
   have hoj:other[j]?=some other[j]:=by simp
   generalize row[j]=xj at hgj
   generalize other[j]=xo at hoj
   walk_at "rd"
   refine⟨_,hr,V.int xj,Cq (by rw[List.getElem?_map,hgj];rfl),_,ho,V.int xo,Cq (by rw[List.getElem?_map,hoj];rfl),xo,rfl,.inl ⟨by omega,by omega⟩,xj,rfl,by omega,?_⟩
   have fin:∃row2:List Int,row'.map V.int++[V.int ((xj-tm*xo)%p)]=row2.map V.int/\row2.length=j+1/\∀x∈row2,0<=x/\x<p:=⟨row'++[(xj-tm*xo)%p],by simp,by simp[hl'],fun x hx=>by
    rcases List.mem_append.mp hx with hx|hx
    ·exact hin' x hx
    ·rw[List.mem_singleton.mp hx];exact⟨Int.emod_nonneg _ (by omega),Int.emod_lt_of_pos _ (by omega)⟩⟩
   first
    | exact⟨rfl,fin,_,rfl⟩
    | exact⟨fin,_,rfl⟩
  ·obtain⟨rfl,⟨row',rfl,hl',hin'⟩,u,rfl⟩:=h2
   exact⟨D,rfl,_,.inl ⟨SqL.of Ac,fun t ht=>k t row' _ ((Same.new hD).newT ht) (SqT.of Ac) hl' hin'⟩⟩
theorem Zd {n j:Nat}(h:j<n):ixN n (j:Int)=some j:=by
 rw[DG_ (by omega) (by omega)];simp
def Shp (p:Int)(n:Nat)(tb:List (List Int)):Prop:=tb.length=n/\∀r∈tb,r.length=n/\∀x∈r,0<=x/\x<p
def Nr (K:PySem.W.Frag):Sp:=fun vs H Q _=>∃(h:Addr) (p tm:Int) (L n i j:Nat) (first last:List Int) (tables:List (List (List Int))),vs=[.ref h,.int i,.int j,.int tm]/\SumH K H h p L first tables last/\WfSum p L n first tables last/\Sm p tables /\ -p<tm/\tm<p/\L<=6/\n<=16/\i<n/\j<n/\∀(g:Addr) (first' last':List Int) (tables':List (List (List Int))) (H':Hp),Same H H'->SumH K H' g p L first' tables' last'->WfSum p L n first' tables' last'->Sm p tables'->Q (.ref g) H'
theorem Od {f:Addr}{fd:FuncData}(F:Fun K "_law_turned" "_law_turned" Cs f fd)(T:Txt mg)
  (Z:Exs K mg C_AskError C_BadWord C_NoInverse)
  {Bn:Addr} {ED:FuncData} (CF:FnOk P w K mg base CX0 1 Bn ED ["p","row","i","j","times"] (BE_ K)) (Bo:Fun K "_law_column_on" "_law_column_on" Bm Bn ED) (CG:Binds K ED ["p","row","i","j","times"] []) (CH:mg "_law_column_on"=some (.ref Bn))
  {BI:Addr} {E9:FuncData} (FK:FnOk P w K mg base CX0 1 BI E9 ["p","row","times","other"] (Wu K)) (Dn:Fun K "_law_row_less" "_law_row_less" BD BI E9) (FL:Binds K E9 ["p","row","times","other"] []) (FN:mg "_law_row_less"=some (.ref BI))
  : FnOk P w K mg base CX0 2 f fd ["house","i","j","times"] (Nr K):=by
 refine F.ok Bw (fun vs H Q E h=>?_) (fun cdv A outer s H vs Q E hr h=>?_)
 ·obtain⟨h,p,tm,L,n,i,j,first,last,tables,rfl,_⟩:=h;rfl
 ·obtain⟨h,p,tm,L,n,i,j,first,last,tables,rfl,hh,wf,sm,tm0,tm1,hL6,hn16,hi,hj,k⟩:=h
  have hl:=Al
  have p2:=wf.p2
  have p18:=wf.p18
  obtain⟨tf,tt,tl,h1,h2,h3,us,h4,h5,h6⟩:=id hh
  refine⟨_,(Ad (Ai (i:=4) Bw.nd rfl (Or.inl rfl) (Ax Au (pv 0) Ag (fun _ _=>rfl)))
   (Ad (Et (Bc U1 (pv 1) (pv 2) (BM _))
   (Af (Aq (pv 0)))
   Bb)
   (Ad (Ai (i:=5) Bw.nd rfl (Or.inl rfl) (Fo Ab))
   (Ad (CM PassesOwn.never rfl (Jm (Ax Au (pv 0) Ag (fun _ _=>rfl))) (Ak (i:=6) Bw.nd rfl (Or.inl rfl))
   (Ad (Ai (i:=7) Bw.nd rfl (Or.inl rfl) (Fo Ab))
   (Ad (CM PassesOwn.never rfl (Jm (pv 6)) (Ak (i:=8) Bw.nd rfl (Or.inl rfl))
   (Af (DO (J5 PySem.F.plainAttrs_list PySem.F.slot_list_append PySem.F.type_list_append BS (pv 7) (Aa (Ah CF (hr.mono (by decide)) rfl CH Bo.kp CG .nil Az (Aa (pv 4) (Aa (pv 8) (Aa (pv 1) (Aa (pv 2) (Aa (pv 3) Ab)))))) Ab)))))
   (Ad (CV_ (Ah FK (hr.mono (by decide)) rfl FN Dn.kp FL .nil Az (Aa (pv 4) (Aa (Ax E6 (pv 7) (pv 1) (fun _ _=>rfl)) (Aa (pv 3) (Aa (Ax E6 (pv 7) (pv 2) (fun _ _=>rfl)) Ab))))) (CU_ (pv 7) (pv 1) set_list))
   (Af (DO (J5 PySem.F.plainAttrs_list PySem.F.slot_list_append PySem.F.type_list_append BS (pv 5) (Aa (Aw Ap rfl T.tuple PyProof.Rows.boot_tuple (Aa (pv 7) Ab)) Ab))))))))
   (Ad (Ai (i:=9) Bw.nd rfl (Or.inl rfl) (Ah CF (hr.mono (by decide)) rfl CH Bo.kp CG .nil Az (Aa (pv 4) (Aa (Ax Au (pv 0) Ag (fun _ _=>rfl)) (Aa (pv 2) (Aa (pv 1) (Aa (XY Ti (pv 3)) Ab)))))))
   (Ad (Ai (i:=10) Bw.nd rfl (Or.inl rfl) (Ah CF (hr.mono (by decide)) rfl CH Bo.kp CG .nil Az (Aa (pv 4) (Aa (Ax Au (pv 0) Ag (fun _ _=>rfl)) (Aa (pv 1) (Aa (pv 2) (Aa (pv 3) Ab)))))))
   (Af (Aq (Cj (Aa (pv 4) (Aa (Ax Au (pv 0) Ag (fun _ _=>rfl)) (Aa (pv 10) (Aa (Aw Ap rfl T.tuple PyProof.Rows.boot_tuple (Aa (pv 5) Ab)) (Aa (pv 9) Ab)))))))))))))),?_⟩
  walk_at "rd"
  refine⟨_,h1,V.int p,rfl,?_⟩
  refine ite2 (fun _=>k h first last tables H (Same.refl _) hh wf sm) (fun _=>⟨by omega,fun pt hpt=>?_⟩)
  have s0:=Same.new hpt (o:=.lst [])
  have u0:upd H pt (.lst []) pt=some (.lst []):=Ac
  generalize upd H pt (.lst [])=H0 at s0 u0 ⊢
  refine⟨_,s0.seqT h1,V.ref tt,rfl,tt,rfl,⟨_,s0.seqT h4⟩,?_⟩
  obtain⟨Pv,hPv⟩:∃Pv:Nat->St->Hp->Prop,∀m σ' H',Pv m σ' H'↔(∃(vs:List Addr) (done:List (List (List Int))) (o6 o7 o8:Option V),Same H H'/\H' pt=some (.lst (vs.map V.ref))/\TabL K H' vs done/\done.length=m/\(∀tb∈done,Shp p n tb)/\σ'=[some (.ref h),some (.int i),some (.int j),some (.int tm),some (.int p),some (.ref pt),o6,o7,o8,none,none]):=⟨_,fun _ _ _=>Iff.rfl⟩
  refine forT (xs:=us.map V.ref) Pv ((hPv _ _ _).mpr ⟨[],[],none,none,none,s0,u0,⟨rfl,fun i u tb hi=>by simp at hi⟩,rfl,by simp,rfl⟩) (fun m σ' H' _ h'=>by obtain⟨_,_,_,_,_,s',_⟩:=(hPv _ _ _).mp h';exact s'.seqT h4) (fun m x σ' H' hx h'=>?_) (fun σ' H' h'=>?_)
  ·obtain⟨vs,done,o6,o7,o8,s1,c1,c2,c3,c4,rfl⟩:=(hPv _ _ _).mp h'
   rw[List.getElem?_map]at hx
   cases hu:us[m]? with
   |none=>rw[hu]at hx;cases hx
   |some u=>
    rw[hu]at hx
    cases hx
    have hm:m<tables.length:=by rw[<-h5];exact (List.getElem?_eq_some_iff.mp hu).1
    have htm:tables[m]?=some tables[m]:=by simp
    obtain⟨xs,t1,t2⟩:=h6 m u _ hu htm
    have htt:=wf.tt _ (List.getElem_mem hm)
    have htr:=sm _ (List.getElem_mem hm)
    generalize tables[m]=tb at htm t2 htt htr
    walk_at "rd"
    refine⟨by omega,fun pr hpr=>?_⟩
    have sr:=Same.new hpr (o:=.lst [])
    have ur:upd H' pr (.lst []) pr=some (.lst []):=Ac
    have hprN:H pr=none:=s1.gone' hpr
    have hpp:pr≠pt:=fun z=>by rw[z,c1]at hpr;cases hpr
    generalize upd H' pr (.lst [])=H1 at sr ur ⊢
    have s11:=s1.trans sr
    refine⟨⟨_,s11.seqT t1⟩,?_⟩
    obtain⟨Pw,hPw⟩:∃Pw:Nat->St->Hp->Prop,∀r σ' H2,Pw r σ' H2↔(∃(ys:List V) (rows:List (List Int)) (o8:Option V),Same H H2/\H2 pt=some (.lst (vs.map V.ref))/\TabL K H2 vs done/\H2 pr=some (.lst ys)/\AS K H2 ys rows/\rows.length=r/\(∀q∈rows,q.length=n/\∀x∈q,0<=x/\x<p)/\σ'=[some (.ref h),some (.int i),some (.int j),some (.int tm),some (.int p),some (.ref pt),some (.ref u),some (.ref pr),o8,none,none]):=⟨_,fun _ _ _=>Iff.rfl⟩
    refine forT (xs:=xs) Pw ((hPw _ _ _).mpr ⟨[],[],_,s11,sr _ _ c1,c2.mono fun t ys z=>sr.seqT z,ur,⟨rfl,fun i r hi=>by simp at hi⟩,rfl,by simp,rfl⟩) (fun r σ' H2 _ h2'=>by obtain⟨_,_,_,s',_⟩:=(hPw _ _ _).mp h2';exact s'.seqT t1) (fun r x σ' H2 hx h2'=>?_) (fun σ' H2 h2'=>?_)
    ·obtain⟨ys,rows,o,d1,d2,d3,d4,d5,d6,d7,rfl⟩:=(hPw _ _ _).mp h2'
     have hr:r<tb.length:=by rw[<-t2.1];exact (List.getElem?_eq_some_iff.mp hx).1
     obtain⟨tr,e1,e2⟩:=t2.2 r tb[r] (by simp)
     rw[hx]at e1
     cases e1
     have hrl:=htt.2 _ (List.getElem_mem hr)
     have hrr:=htr _ (List.getElem_mem hr)
     generalize tb[r]=row at e2 hrl hrr
     walk_at "rd"
     refine⟨.inl ⟨rfl,_,SqL.of d4⟩,p,tm,tr,i,j,n,row,rfl,p2,p18,tm0,tm1,d1.seqT e2,hrl,hn16,hrr,hi,hj,fun q row' H3 s3 q1 q2 q3=>?_⟩
     have p3:=s3 _ _ d4
     have hyl:=d5.1
     refine⟨ys,p3,by omega,(hPw _ _ _).mpr ⟨_,rows++[row'],_,(d1.trans s3).over hprN,?_,(d3.mono fun t ys z=>s3.seqT z).mono fun t ys z=>AO p3 z,Ac,AS.snoc ((d5.mono2 fun t ys z=>s3.seqT z).mono2 fun t ys z=>AO p3 z) (AO p3 q1),by simp[d6],fun v hv=>?_,rfl⟩⟩
     ·rw[Av (Ne.symm hpp)];exact s3 _ _ d2
     ·rcases List.mem_append.mp hv with hv|hv
      ·exact d7 v hv
      ·rw[List.mem_singleton.mp hv];exact⟨q2,q3⟩
    ·obtain⟨ys,rows,o,d1,d2,d3,d4,d5,d6,d7,rfl⟩:=(hPw _ _ _).mp h2'
     rw[t2.1,htt.1]at d6
     have hyl:=d5.1
     obtain⟨rwi,hwi⟩:∃r,rows[i]?=some r:=⟨rows[i],by simp⟩
     obtain⟨rwj,hwj⟩:∃r,rows[j]?=some r:=⟨rows[j],by simp⟩
     obtain⟨ti,e1,e2⟩:=d5.2 i rwi hwi
     obtain⟨tj,f1,f2⟩:=d5.2 j rwj hwj
     have hri:=d7 _ (List.mem_of_getElem? hwi)
     have hrj:=d7 _ (List.mem_of_getElem? hwj)
     walk_at "rd"
     refine⟨_,SqL.of d4,V.ref ti,Cq e1,_,SqL.of d4,V.ref tj,Cq f1,p,tm,ti,tj,n,rwi,rwj,rfl,p2,p18,tm0,tm1,e2,hri.1,f2,hrj.1,hn16,hrj.2,fun q row' H3 s3 q1 q2 q3=>?_⟩
     have p3:=s3 _ _ d4
     refine⟨ys,p3,i,Zd (by omega),?_⟩
     have rowsN:AS K (upd H3 pr (.lst (ys.set i (.ref q)))) (ys.set i (.ref q)) (rows.set i row'):=by
      refine⟨by rw[List.length_set,List.length_set,hyl],fun b r hb=>?_⟩
      rw[List.getElem?_set]at hb ⊢
      by_cases hbi:i=b
      ·subst hbi
       rw[if_pos rfl,if_pos (by omega)]at hb ⊢
       cases hb
       exact⟨q,rfl,AO p3 q1⟩
      ·rw[if_neg hbi]at hb ⊢
       obtain⟨t,a1,a2⟩:=d5.2 b r hb
       exact⟨t,a1,AO p3 (s3.seqT a2)⟩
     have sw:=(d1.trans s3).over hprN (o:=.lst (ys.set i (.ref q)))
     have w1:upd H3 pr (.lst (ys.set i (.ref q))) pt=some (.lst (vs.map V.ref)):=by rw[Av (Ne.symm hpp)];exact s3 _ _ d2
     have w2:TabL K (upd H3 pr (.lst (ys.set i (.ref q)))) vs done:=(d3.mono fun t ys z=>s3.seqT z).mono fun t ys z=>AO p3 z
     have w3:upd H3 pr (.lst (ys.set i (.ref q))) pr=some (.lst (ys.set i (.ref q))):=Ac
     generalize upd H3 pr (.lst (ys.set i (.ref q)))=H4 at rowsN sw w1 w2 w3 ⊢
     have hvl:=c2.1
     refine⟨.inl ⟨rfl,_,SqL.of w1⟩,_,.inl ⟨SqL.of w3,fun t ht=>?_⟩⟩
     have st:=Same.new ht (o:=.tup (ys.set i (.ref q)))
     refine⟨_,st _ _ w1,by rw[List.length_map];have:=h5;have:=wf.t;omega,(hPv _ _ _).mpr ⟨vs++[t],done++[rows.set i row'],_,_,_,(sw.trans st).over hpt,by rw[Ac];simp,?_,by simp[c3],fun v hv=>?_,rfl⟩⟩
     ·exact TabL.snoc ((w2.mono fun t ys z=>st.seqT z).mono fun t ys z=>AO (st _ _ w1) z) (AO (st _ _ w1) (SqT.of Ac)) ((rowsN.mono2 fun t ys z=>st.seqT z).mono2 fun t ys z=>AO (st _ _ w1) z)
     ·rcases List.mem_append.mp hv with hv|hv
      ·exact c4 v hv
      ·rw[List.mem_singleton.mp hv]
       refine⟨by rw[List.length_set,d6],fun r hr=>?_⟩
       rcases List.mem_or_eq_of_mem_set hr with hr|hr
       ·exact d7 r hr
       ·rw[hr];exact⟨q2,q3⟩
  ·obtain⟨vs,done,o6,o7,o8,s1,c1,c2,c3,c4,rfl⟩:=(hPv _ _ _).mp h'
   rw[List.length_map,h5]at c3
   walk_at "rd"
   refine⟨_,s1.seqT h1,V.ref tl,rfl,p,-tm,tl,j,i,n,last,rfl,p2,p18,by omega,by omega,s1.seqT h3,wf.l.1,hn16,wf.l.2,hj,hi,fun ql last' H2 s2 q1 q2 q3=>?_⟩
   have s12:=s1.trans s2
   refine⟨_,s12.seqT h1,V.ref tf,rfl,p,tm,tf,i,j,n,first,rfl,p2,p18,tm0,tm1,s12.seqT h2,wf.f.1,hn16,wf.f.2,hi,hj,fun qf first' H3 s3 g1 g2 g3=>?_⟩
   have s13:=s12.trans s3
   have s23:=s2.trans s3
   refine⟨_,s13.seqT h1,V.int L,rfl,_,.inl ⟨SqL.of (s23 _ _ c1),fun t ht=>⟨by omega,fun z hz=>?_⟩⟩⟩
   have sZ:=(Same.new ht (o:=.tup (vs.map V.ref))).newT hz (o:=.tup [V.int p,V.int L,V.ref qf,V.ref t,V.ref ql])
   refine k z first' last' done _ (s13.trans sZ) ⟨qf,t,ql,SqT.of Ac,sZ.seqT g1,sZ.seqT (s3.seqT q1),vs,SqT.of (Same.new hz _ _ Ac),c2.1,fun b u tb hb hv=>?_⟩ ⟨p2,p18,hn16,⟨g2,g3⟩,⟨q2,q3⟩,by rw[c3];exact wf.t,fun tb htb=>⟨(c4 tb htb).1,fun r hr=>((c4 tb htb).2 r hr).1⟩⟩ fun tb htb r hr=>((c4 tb htb).2 r hr).2
   obtain⟨xs,a1,a2⟩:=c2.2 b u tb hb hv
   exact⟨xs,sZ.seqT (s23.seqT a1),(a2.mono2 fun t ys z=>s23.seqT z).mono2 fun t ys z=>sZ.seqT z⟩
theorem Ea_:∀n:Nat,(List.replicate n [V.int 0]).flatten=(List.replicate n (0:Int)).map V.int
 |0=>rfl
 |n+1=>by rw[List.replicate_succ,List.flatten_cons,Ea_ n,List.replicate_succ];rfl
def Pj (K:PySem.W.Frag):Sp:=fun vs H Q _=>∃(h a:Addr) (p:Int) (at_ L n:Nat) (ns first last:List Int) (tables:List (List (List Int))),vs=[.ref h,.ref a,.int at_]/\SqL K H a (ns.map V.int)/\SumH K H h p L first tables last/\WfSum p L n first tables last/\Sm p tables/\1<=L/\L<=6/\n<=4/\at_<=1000/\∀(g:Addr) (first' last':List Int) (tables':List (List (List Int))) (H':Hp),Same H H'->SumH K H' g p L first' tables' last'->WfSum p L (n+1) first' tables' last'->Sm p tables'->Q (.ref g) H'
theorem QH {f:Addr}{fd:FuncData}(F:Fun K "_law_grown" "_law_grown" C5 f fd)(T:Txt mg)
  (Z:Exs K mg C_AskError C_BadWord C_NoInverse)
  {AD:Addr} {AK:FuncData} (AL:FnOk P w K mg base CX0 1 AD AK ["script","k"] (Nn K)) (AE:Fun K "_law_cell" "_law_cell" B7 AD AK) (AM:Binds K AK ["script","k"] []) (AN:mg "_law_cell"=some (.ref AD))
  {AF:Addr} {AU:FuncData} (Br:FnOk P w K mg base CX0 2 AF AU ["script","k","p"] (GX K)) (A9:Fun K "_law_number" "_law_number" Bp AF AU) (Bt:Binds K AU ["script","k","p"] []) (Bu:mg "_law_number"=some (.ref AF))
  {Cf:Addr} {DT:FuncData} (D1:FnOk P w K mg base CX0 3 Cf DT ["script","at","many","p"] (QD K)) (CI:Fun K "_law_row" "_law_row" D0 Cf DT) (D3:Binds K DT ["script","at","many","p"] []) (D4:mg "_law_row"=some (.ref Cf))
  : FnOk P w K mg base CX0 4 f fd ["house","script","at"] (Pj K):=by
 refine F.ok Bg (fun vs H Q E h=>?_) (fun cdv A outer s H vs Q E hr h=>?_)
 ·obtain⟨h,a,p,at_,L,n,ns,first,last,tables,rfl,_⟩:=h;rfl
 ·obtain⟨h,a,p,at_,L,n,ns,first,last,tables,rfl,hs,hh,wf,sm,hL1,hL6,hn4,hat,k⟩:=h
  have hl:=Al
  have p2:=wf.p2
  have p18:=wf.p18
  obtain⟨tf,tt,tl,h1,h2,h3,us,h4,h5,h6⟩:=id hh
  refine⟨_,(Ad (Ai (i:=3) Bg.nd rfl (Or.inl rfl) (Ax Au (pv 0) Ag (fun _ _=>rfl)))
   (Ad (Ai (i:=4) Bg.nd rfl (Or.inl rfl) (As Aj (by rfl) T.len PySem.boot_len (Aa (Ax Au (pv 0) Ag (fun _ _=>rfl)) Ab)))
   (Ad (Ai (i:=5) Bg.nd rfl (Or.inl rfl) (U4 U1 (An BR (Ah AL (hr.mono (by decide)) rfl AN AE.kp AM .nil Az (Aa (pv 1) (Aa (pv 2) Ab))) Ag) Ag (BM _)))
   (Ad (Ai (i:=6) Bg.nd rfl (Or.inl rfl) (Fo Ab))
   (Ad (CM PassesOwn.never rfl (A0 rfl T.range (Aa (Ax Au (pv 0) Ag (fun _ _=>rfl)) Ab)) (Ak (i:=7) Bg.nd rfl (Or.inr rfl))
   (Ad (Ai (i:=8) Bg.nd rfl (Or.inr rfl) (Ah D1 (hr.mono (by decide)) rfl D4 CI.kp D3 .nil Az (Aa (pv 1) (Aa (An CN (An CN (pv 2) Ag) (An CP (pv 7) (An CN (pv 4) Ag))) (Aa (An CN (pv 4) Ag) (Aa (pv 3) Ab))))))
   (Va (Et (Eu (pv 5))
   (Af (Ai (i:=9) Bg.nd rfl (Or.inl rfl) (An Dl_ (BN rfl (Ck rfl) (cp:=Jv) True.intro (Jm (Ax Au (Ax Au (pv 0) Ag (fun _ _=>rfl)) (pv 7) (fun _ _=>rfl))) (fun _ _ _ _=>(Ak (i:=0) Le rfl (Or.inl rfl))) (fun _ _ _ _=>BV) (fun _ _ _ _=>(An (HH (K:=K) rfl) (pv 0) (Cj (Aa Ag Ab))))) (Fo (Aa (pv 8) Ab)))))
   (Ad (PU (i:=9) Bg.nd rfl rfl rfl (Ck rfl) (cp:=Jw) ⟨⟨rfl,rfl⟩,⟨⟨rfl,rfl⟩,⟨⟨rfl,rfl⟩,True.intro⟩⟩⟩ (A0 rfl T.range (Aa (pv 4) Ab)) (fun _ _ _ _=>(Ak (i:=0) Lf rfl (Or.inl rfl))) (fun _ _ _ _=>BV) (fun _ _ _ _=>(An (HH (K:=K) rfl) (Ax (Ec (K:=K) rfl) (Ax (Ec (K:=K) rfl) (Ax (Ec (K:=K) rfl) (pv 3) Ag (fun _ _=>rfl)) (pv 1) (fun _ _=>rfl)) (pv 0) (fun _ _=>rfl)) (Cj (Aa (Ax (Ec (K:=K) rfl) (pv 2) (pv 0) (fun _ _=>rfl)) Ab)))))
   (Af (DO (J5 PySem.F.plainAttrs_list PySem.F.slot_list_append PySem.F.type_list_append BS (pv 9) (Aa (An DM (An PZ (Cj (Aa Ag Ab)) (pv 4)) (Cj (Aa (Ax Au (pv 8) (pv 4) (fun _ _=>rfl)) Ab))) Ab))))))
   (Af (DO (J5 PySem.F.plainAttrs_list PySem.F.slot_list_append PySem.F.type_list_append BS (pv 6) (Aa (Aw Ap rfl T.tuple PyProof.Rows.boot_tuple (Aa (pv 9) Ab)) Ab)))))))
   (Ad (Ai (i:=10) Bg.nd rfl (Or.inl rfl) (Ah Br (hr.mono (by decide)) rfl Bu A9.kp Bt .nil Az (Aa (pv 1) (Aa (An CN (pv 2) Ag) (Aa (pv 3) Ab)))))
   (Ad (Et (Eu (pv 5))
   (Af (Aq (Cj (Aa (pv 3) (Aa (Ax Au (pv 0) Ag (fun _ _=>rfl)) (Aa (An DM (Ax Au (pv 0) Ag (fun _ _=>rfl)) (Cj (Aa Ag Ab))) (Aa (Aw Ap rfl T.tuple PyProof.Rows.boot_tuple (Aa (pv 6) Ab)) (Aa (An DM (Ax Au (pv 0) Ag (fun _ _=>rfl)) (Cj (Aa (pv 10) Ab))) Ab))))))))
   Bb)
   (Af (Aq (Cj (Aa (pv 3) (Aa (Ax Au (pv 0) Ag (fun _ _=>rfl)) (Aa (An DM (Ax Au (pv 0) Ag (fun _ _=>rfl)) (Cj (Aa (pv 10) Ab))) (Aa (Aw Ap rfl T.tuple PyProof.Rows.boot_tuple (Aa (pv 6) Ab)) (Aa (An DM (Ax Au (pv 0) Ag (fun _ _=>rfl)) (Cj (Aa Ag Ab))) Ab))))))))))))))),?_⟩
  walk_at "rd"
  refine⟨_,h1,V.int p,rfl,_,h1,V.ref tf,rfl,tf,rfl,_,.inr h2,a,ns,at_,rfl,hs,_,rfl,by decide,by omega,fun pt hpt=>?_⟩
  rw[List.length_map,wf.f.1]
  obtain⟨aw,haw⟩:∃b:Bool,b=decide (cell ns at_%2=0):=⟨_,rfl⟩
  have s0:=Same.new hpt (o:=.lst [])
  have u0:upd H pt (.lst []) pt=some (.lst []):=Ac
  generalize upd H pt (.lst [])=H0 at s0 u0 ⊢
  refine⟨_,s0.seqT h1,V.int L,rfl,(L:Int),rfl,by omega,by omega,?_⟩
  obtain⟨bv,hbv⟩:∃v:V,v=V.bl (decide (cell ns at_%2=0)):=⟨_,rfl⟩
  obtain⟨Pv,hPv⟩:∃Pv:Nat->St->Hp->Prop,∀m σ' H',Pv m σ' H'↔(∃(vs:List Addr) (done:List (List (List Int))) (o7 o8 o9:Option V),Same H H'/\H' pt=some (.lst (vs.map V.ref))/\TabL K H' vs done/\done.length=m/\(∀tb∈done,Shp p (n+1) tb)/\σ'=[some (.ref h),some (.ref a),some (.int at_),some (.int p),some (.int n),some (.bl (decide (cell ns at_%2=0))),some (.ref pt),o7,o8,o9,none]):=⟨_,fun _ _ _=>Iff.rfl⟩
  refine forR Pv ((hPv _ _ _).mpr ⟨[],[],none,none,none,s0,u0,⟨rfl,fun i u tb hi=>by simp at hi⟩,rfl,by simp,rfl⟩) (fun m σ' H' hm h'=>?_) (fun σ' H' h'=>?_)
  ·obtain⟨vs,done,o7,o8,o9,s1,c1,c2,c3,c4,rfl⟩:=(hPv _ _ _).mp h'
   have hm':m<tables.length:=by have:=wf.t;omega
   obtain⟨u,hu⟩:∃u,us[m]?=some u:=⟨us[m]'(by omega),by simp⟩
   obtain⟨tb,htb⟩:∃tb,tables[m]?=some tb:=⟨tables[m],by simp⟩
   obtain⟨xs,t1,t2⟩:=h6 m u tb hu htb
   have htt:=wf.tt _ (List.mem_of_getElem? htb)
   have htr:=sm _ (List.mem_of_getElem? htb)
   rw[Int.zero_add]
   walk_at "rd"
   have hm5:(m:Int)*((n:Int)+1)<=30:=by
    have:m*(n+1)<=6*5:=Nat.mul_le_mul (by omega) (by omega)
    have e:((m*(n+1):Nat):Int)=(m:Int)*((n:Int)+1):=by push_cast;rfl
    omega
   have hm0:0<=(m:Int)*((n:Int)+1):=Int.mul_nonneg (by omega) (by omega)
   refine⟨.inl ⟨by omega,by omega⟩,a,ns,_,p,n+1,by rw[show ((n+1:Nat):Int)=(n:Int)+1 by omega],s1.seq hs,by omega,by omega,by omega,by omega,fun bt beside H1 sb hb1 hb2 hb3=>?_⟩
   have s11:=s1.trans sb
   obtain⟨Rr,hRr⟩:∃Rr:St->Hp->Prop,∀σ' H',Rr σ' H'↔(∃(ptab:Addr) (ys:List V) (tb:List (List Int)) (o7 o8:Option V),Same H H'/\H' pt=some (.lst (vs.map V.ref))/\TabL K H' vs done/\H' ptab=some (.lst ys)/\AS K H' ys tb/\Shp p (n+1) tb/\ptab≠pt/\σ'=[some (.ref h),some (.ref a),some (.int at_),some (.int p),some (.int n),some (.bl (decide (cell ns at_%2=0))),some (.ref pt),o7,o8,some (.ref ptab),none]):=⟨_,fun _ _=>Iff.rfl⟩
   refine⟨Rr,?_,fun σ2 H2 h2'=>?_⟩
   ·walk_at "rd"
    refine ite2 (fun _=>?_) (fun _=>?_)
    ·refine⟨_,s11.seqT h1,V.ref tt,rfl,tt,rfl,_,s11.seqT h4,V.ref u,Cq (by rw[List.getElem?_map,hu];rfl),u,rfl,⟨_,s11.seqT t1⟩,?_⟩
     refine Yq (xs:=xs) (fun j ys σ4 H4=>Same H1 H4/\AS K H4 ys ((tb.take j).map (· ++ [0]))/\∃o,σ4=[o]) ⟨Same.refl _,⟨rfl,fun i r hi=>by simp at hi⟩,none,rfl⟩ (by rw[t2.1];omega) (fun j ys σ4 H4 hj h4'=>⟨h4'.1.seqT (s11.seqT t1),by have:=h4'.2.1.1;rw[List.length_map,List.length_take]at this;omega⟩) (fun j x ys σ4 H4 hx h4'=>?_) (fun ys σ4 H4 h4' D hD=>?_)
     ·obtain⟨s4,hy,o,rfl⟩:=h4'
      have hj:j<tb.length:=by rw[<-t2.1];exact (List.getElem?_eq_some_iff.mp hx).1
      have hgj:tb[j]?=some tb[j]:=by simp
      obtain⟨tr,e1,e2⟩:=t2.2 j _ hgj
      rw[hx]at e1
      cases e1
      have hrl:=htt.2 _ (List.mem_of_getElem? hgj)
      have etk:tb.take (j+1)=tb.take j++[tb[j]]:=by rw[List.take_add_one,hgj];rfl
      generalize tb[j]=row at e2 hrl etk
      walk_at "rd"
      refine⟨by omega,fun z hz=>DH.of ((Same.new hz).seqT (s4.seqT (s11.seqT e2))) (SqT.of Ac) (by simp;omega) fun q H5 s5 hq=>⟨(s4.newT hz).trans s5,?_,_,rfl⟩⟩
      rw[etk,List.map_append]
      refine AS.snoc (hy.mono2 fun t ys z=>s5.seqT ((Same.new hz).seqT z)) ?_
      show SqT K H5 q ((row++[0]).map V.int)
      rw[List.map_append];exact hq
     ·obtain⟨s4,hy,o,rfl⟩:=h4'
      rw[t2.1,List.take_length]at hy
      have sD:=Same.new hD (o:=.lst ys)
      have hyl:=hy.1
      rw[List.length_map]at hyl
      refine⟨by omega,fun z hz=>⟨D,rfl,ys,Same.new hz _ _ Ac,_,Ac,by simp;omega,fun w hw=>?_⟩⟩
      have sW:=((sD.newT hz (o:=.lst [V.ref bt])).newT hw (o:=.lst (ys++[V.ref bt])))
      have s1w:=s11.trans (s4.trans sW)
      have sbw:=s4.trans sW
      refine (hRr _ _).mpr ⟨w,_,tb.map (· ++ [0])++[beside],_,_,s1w,sbw _ _ (sb _ _ c1),(c2.mono fun t ys z=>sb.seqT z).mono fun t ys z=>sbw.seqT z,Ac,AS.snoc (hy.mono2 fun t ys z=>sW.seqT z) (sbw.seqT hb1),⟨by simp[htt.1],fun r hr=>?_⟩,fun e=>?_,rfl⟩
      ·rcases List.mem_append.mp hr with hr|hr
       ·obtain⟨v,hv,rfl⟩:=List.mem_map.mp hr
        refine⟨by rw[List.length_append,htt.2 v hv];rfl,fun x hx=>?_⟩
        rcases List.mem_append.mp hx with hx|hx
        ·exact htr v hv x hx
        ·rw[List.mem_singleton.mp hx];omega
       ·rw[List.mem_singleton.mp hr];exact⟨hb2,hb3⟩
      ·have:=(s4.trans (sD.newT hz (o:=.lst [V.ref bt]))) _ _ (sb _ _ c1)
       rw[<-e,hw]at this;cases this
    ·refine⟨by omega,by omega,?_⟩
     rw[show ((n:Int)).toNat=n by omega]
     refine L8 (fun j ys σ4 H4=>Same H1 H4/\(∃rows:List (List Int),AS K H4 ys rows/\rows.length=j/\∀r∈rows,r.length=n+1/\∀x∈r,0<=x/\x<p)/\∃o,σ4=[o,some (.int m),some (.ref bt),some (.ref h)]) ⟨Same.refl _,⟨[],⟨rfl,fun i r hi=>by simp at hi⟩,rfl,by simp⟩,none,rfl⟩ (by omega) (fun j ys σ4 H4 hj h4'=>by obtain⟨_,⟨rows,a1,a2,_⟩,_⟩:=h4';have:=a1.1;omega) (fun j ys σ4 H4 hj h4'=>?_) (fun ys σ4 H4 h4' D hD=>?_)
     ·obtain⟨s4,⟨rows,r1,r2,r3⟩,o,rfl⟩:=h4'
      rw[Int.zero_add]
      have hgj:tb[j]?=some (tb[j]'(by omega)):=by simp
      obtain⟨tr,e1,e2⟩:=t2.2 j _ hgj
      have hrl:=htt.2 _ (List.mem_of_getElem? hgj)
      have hrr:=htr _ (List.mem_of_getElem? hgj)
      generalize tb[j]'(by omega)=row at e2 hrl hrr
      obtain⟨bj,hbj⟩:∃b,beside[j]?=some b:=⟨beside[j]'(by omega),by simp⟩
      have hbr:=hb3 _ (List.mem_of_getElem? hbj)
      have s14:=s11.trans s4
      walk_at "rd"
      refine⟨_,s14.seqT h1,V.ref tt,rfl,tt,rfl,_,s14.seqT h4,V.ref u,Cq (by rw[List.getElem?_map,hu];rfl),u,rfl,_,s14.seqT t1,V.ref tr,Cq e1,_,s4.seqT hb1,V.int bj,Cq (by rw[List.getElem?_map,hbj];rfl),by omega,fun z hz=>DH.of ((Same.new hz).seqT (s14.seqT e2)) (SqT.of Ac) (by simp;omega) fun q H5 s5 hq=>⟨(s4.newT hz).trans s5,⟨rows++[row++[bj]],AS.snoc (r1.mono2 fun t ys z=>s5.seqT ((Same.new hz).seqT z)) (by rw[List.map_append];exact hq),by simp[r2],fun r hr=>?_⟩,_,rfl⟩⟩
      rcases List.mem_append.mp hr with hr|hr
      ·exact r3 r hr
      ·rw[List.mem_singleton.mp hr]
       refine⟨by simp[hrl],fun x hx=>?_⟩
       rcases List.mem_append.mp hx with hx|hx
       ·exact hrr x hx
       ·rw[List.mem_singleton.mp hx];exact hbr
     ·obtain⟨s4,⟨rows,r1,r2,r3⟩,o,rfl⟩:=h4'
      have sD:=Same.new hD (o:=.lst ys)
      have uD:upd H4 D (.lst ys) D=some (.lst ys):=Ac
      have rD:=r1.mono2 fun t ys z=>sD.seqT z
      have s4D:=s4.trans sD
      have hDp:D≠pt:=fun e=>by have:=s4 _ _ (sb _ _ c1);rw[<-e,hD]at this;cases this
      have hDN:H D=none:=(s11.trans s4).gone' hD
      generalize upd H4 D (.lst ys)=H5 at sD uD rD s4D ⊢
      obtain⟨bn,hbn⟩:∃b,beside[n]?=some b:=⟨beside[n]'(by omega),by simp⟩
      have hbr:=hb3 _ (List.mem_of_getElem? hbn)
      have hyl:=rD.1
      refine⟨.inl ⟨rfl,_,SqL.of uD⟩,by omega,fun z hz=>PY.of (SqT.of Ac) (by simp) (by omega) (by omega) (by simp;omega) fun q H6 s6 hq=>?_⟩
      have s56:=(Same.new hz (o:=.tup [V.int 0])).trans s6
      refine⟨_,(s4D.trans s56).seqT hb1,V.int bn,Cq (by rw[List.getElem?_map,hbn];rfl),by omega,fun w hw=>DH.of ((Same.new hw).seqT hq) (SqT.of Ac) (by simp;omega) fun q2 H7 s7 hq2=>?_⟩
      have s57:=s56.trans ((Same.new hw (o:=.tup [V.int bn])).trans s7)
      have uD7:=s57 _ _ uD
      have s17:=s4D.trans s57
      have erep:(List.replicate ((n:Int)).toNat [V.int 0]).flatten=(List.replicate n (0:Int)).map V.int:=by
       rw[show ((n:Int)).toNat=n by omega];exact Ea_ n
      rw[erep]at hq2
      refine⟨D,rfl,ys,uD7,by omega,(hRr _ _).mpr ⟨D,_,rows++[List.replicate n 0++[bn]],_,_,(s11.trans s17).over hDN,?_,((c2.mono fun t ys z=>sb.seqT z).mono fun t ys z=>s17.seqT z).mono fun t ys z=>AO uD7 z,Ac,AS.snoc ((rD.mono2 fun t ys z=>s57.seqT z).mono2 fun t ys z=>AO uD7 z) (AO uD7 (by rw[List.map_append];exact hq2)),⟨by simp[r2],fun r hr=>?_⟩,hDp,rfl⟩⟩
      ·rw[Av (Ne.symm hDp)];exact s17 _ _ (sb _ _ c1)
      ·rcases List.mem_append.mp hr with hr|hr
       ·exact r3 r hr
       ·rw[List.mem_singleton.mp hr]
        refine⟨by simp,fun x hx=>?_⟩
        rcases List.mem_append.mp hx with hx|hx
        ·rw[(List.mem_replicate.mp hx).2];omega
        ·rw[List.mem_singleton.mp hx];exact hbr
   ·obtain⟨ptab,ys,tb',o7,o8,d1,d2,d3,d4,d5,d6,d7,rfl⟩:=(hRr _ _).mp h2'
    walk_at "rd"
    refine⟨.inl ⟨rfl,_,SqL.of d2⟩,_,.inl ⟨SqL.of d4,fun t ht=>?_⟩⟩
    have st:=Same.new ht (o:=.tup ys)
    have hvl:=c2.1
    refine⟨_,st _ _ d2,by rw[List.length_map];omega,(hPv _ _ _).mpr ⟨vs++[t],done++[tb'],_,_,_,(d1.trans st).over hpt,by rw[Ac];simp,?_,by simp[c3],fun v hv=>?_,rfl⟩⟩
    ·exact TabL.snoc ((d3.mono fun t ys z=>st.seqT z).mono fun t ys z=>AO (st _ _ d2) z) (AO (st _ _ d2) (SqT.of Ac)) ((d5.mono2 fun t ys z=>st.seqT z).mono2 fun t ys z=>AO (st _ _ d2) z)
    ·rcases List.mem_append.mp hv with hv|hv
     ·exact c4 v hv
     ·rw[List.mem_singleton.mp hv];exact d6
  ·obtain⟨vs,done,o7,o8,o9,s1,c1,c2,c3,c4,rfl⟩:=(hPv _ _ _).mp h'
   walk_at "rd"
   rw[show ((L:Int)).toNat=L by omega]at c3
   refine⟨a,ns,(at_:Int)+7,p,rfl,s1.seq hs,by omega,by omega,by omega,fun x x0 x1=>?_⟩
   have fin:∀(f0 l0:Int),0<=f0->f0<p->0<=l0->l0<p->∃x_1,SqT K H' h x_1/\∃x_2,atI x_1 1=some x_2/\∃x_3,SqT K H' h x_3/\∃x_4,atI x_3 2=some x_4/\1<=sizeLine/\∀(p_1:Addr),H' p_1=none->DH K x_4 (V.ref p_1) (upd H' p_1 (HO.tup [V.int f0])) fun x_5 H1=>∃x_6,(SqL K H1 pt x_6/\∀(l:Addr),H1 l=none->∃x_7,SqT K (upd H1 l (HO.tup x_6)) h x_7/\∃x_8,atI x_7 4=some x_8/\1<=sizeLine/\∀(p_2:Addr),upd H1 l (HO.tup x_6) p_2=none->DH K x_8 (V.ref p_2) (upd (upd H1 l (HO.tup x_6)) p_2 (HO.tup [V.int l0])) fun x H1=>5<=sizeLine/\∀(p_3:Addr),H1 p_3=none->Q (V.ref p_3) (upd H1 p_3 (HO.tup [V.int p,x_2,x_5,V.ref l,x])))\/False:=fun f0 l0 f1 f2 l1 l2=>by
    have hfl:=wf.f.1
    have hll:=wf.l.1
    refine⟨_,s1.seqT h1,V.int L,rfl,_,s1.seqT h1,V.ref tf,rfl,by omega,fun z hz=>DH.of ((Same.new hz).seqT (s1.seqT h2)) (SqT.of Ac) (by simp;omega) fun qf H2 s2 hqf=>?_⟩
    have s12:=s1.trans ((Same.new hz (o:=.tup [V.int f0])).trans s2)
    have s02:=(Same.new hz (o:=.tup [V.int f0])).trans s2
    refine⟨_,.inl ⟨SqL.of (s02 _ _ c1),fun t ht=>⟨_,(s12.newT ht).seqT h1,V.ref tl,rfl,by omega,fun z2 hz2=>DH.of ((Same.new hz2).seqT ((s12.newT ht).seqT h3)) (SqT.of Ac) (by simp;omega) fun ql H3 s3 hql=>⟨by omega,fun g hg=>?_⟩⟩⟩⟩
    have s23:=((Same.new ht (o:=.tup (vs.map V.ref))).newT hz2 (o:=.tup [V.int l0])).trans s3
    have sg:=Same.new hg (o:=.tup [V.int p,V.int L,V.ref qf,V.ref t,V.ref ql])
    have s2g:=s23.trans sg
    have ht3:=sg _ _ (s3 _ _ (Same.new hz2 (o:=.tup [V.int l0]) _ _ (Ac (H:=H2) (a:=t) (o:=.tup (vs.map V.ref)))))
    refine k g (first++[f0]) (last++[l0]) done _ ((s12.trans s23).trans sg) ⟨qf,t,ql,SqT.of Ac,by rw[List.map_append];exact s2g.seqT hqf,by rw[List.map_append];exact sg.seqT hql,vs,SqT.of ht3,c2.1,fun b u tb hb hv=>?_⟩ ⟨p2,p18,by omega,⟨by rw[List.length_append,hfl];rfl,fun x hx=>?_⟩,⟨by rw[List.length_append,hll];rfl,fun x hx=>?_⟩,by rw[c3],fun tb htb=>⟨(c4 tb htb).1,fun r hr=>((c4 tb htb).2 r hr).1⟩⟩ fun tb htb r hr=>((c4 tb htb).2 r hr).2
    ·obtain⟨xs,a1,a2⟩:=c2.2 b u tb hb hv
     exact⟨xs,s2g.seqT (s02.seqT a1),(a2.mono2 fun t ys z=>s02.seqT z).mono2 fun t ys z=>s2g.seqT z⟩
    ·rcases List.mem_append.mp hx with hx|hx
     ·exact wf.f.2 x hx
     ·rw[List.mem_singleton.mp hx];exact⟨f1,f2⟩
    ·rcases List.mem_append.mp hx with hx|hx
     ·exact wf.l.2 x hx
     ·rw[List.mem_singleton.mp hx];exact⟨l1,l2⟩
   exact ite2 (fun _=>fin 0 x (by omega) (by omega) x0 x1) (fun _=>fin x 0 x0 x1 (by omega) (by omega))
def LY (K:PySem.W.Frag):Sp:=fun vs H Q _=>∃(h a:Addr) (p:Int) (at_ L n:Nat) (ns first last:List Int) (tables:List (List (List Int))),vs=[.ref h,.ref a,.int at_]/\SqL K H a (ns.map V.int)/\SumH K H h p L first tables last/\WfSum p L n first tables last/\Sm p tables/\1<=L/\L<=6/\n<=4/\at_<=1000/\∀(g:Addr) (first' last':List Int) (tables':List (List (List Int))) (H':Hp),Same H H'->SumH K H' g p L first' tables' last'->WfSum p L (n+1) first' tables' last'->Sm p tables'->Q (.ref g) H'
theorem Nt {f:Addr}{fd:FuncData}(F:Fun K "_law_another" "_law_another" B8 f fd)(T:Txt mg)
  (Z:Exs K mg C_AskError C_BadWord C_NoInverse)
  {AD:Addr} {AK:FuncData} (AL:FnOk P w K mg base CX0 1 AD AK ["script","k"] (Nn K)) (AE:Fun K "_law_cell" "_law_cell" B7 AD AK) (AM:Binds K AK ["script","k"] []) (AN:mg "_law_cell"=some (.ref AD))
  {AF:Addr} {AU:FuncData} (Br:FnOk P w K mg base CX0 2 AF AU ["script","k","p"] (GX K)) (A9:Fun K "_law_number" "_law_number" Bp AF AU) (Bt:Binds K AU ["script","k","p"] []) (Bu:mg "_law_number"=some (.ref AF))
  {Dp:Addr} {G4:FuncData} (Iv:FnOk P w K mg base CX0 4 Dp G4 ["house","script","at"] (Pj K)) (EY:Fun K "_law_grown" "_law_grown" C5 Dp G4) (Iw:Binds K G4 ["house","script","at"] []) (Iy:mg "_law_grown"=some (.ref Dp))
  {Cw:Addr} {Ge:FuncData} (G8:FnOk P w K mg base CX0 2 Cw Ge ["house","i","j","times"] (Nr K)) (Ep:Fun K "_law_turned" "_law_turned" Cs Cw Ge) (G9:Binds K Ge ["house","i","j","times"] []) (Ha:mg "_law_turned"=some (.ref Cw))
  : FnOk P w K mg base CX0 5 f fd ["house","script","at"] (LY K):=by
 refine F.ok BE (fun vs H Q E h=>?_) (fun cdv A outer s H vs Q E hr h=>?_)
 ·obtain⟨h,a,p,at_,L,n,ns,first,last,tables,rfl,_⟩:=h;rfl
 ·obtain⟨h,a,p,at_,L,n,ns,first,last,tables,rfl,hs,hh,wf,sm,hL1,hL6,hn4,hat,k⟩:=h
  have hl:=Al
  have p2:=wf.p2
  refine⟨_,(Ad (Ai (i:=0) BE.nd rfl (Or.inl rfl) (Ah Iv (hr.mono (by decide)) rfl Iy EY.kp Iw .nil Az (Aa (pv 0) (Aa (pv 1) (Aa (pv 2) Ab)))))
   (Ad (Ai (i:=3) BE.nd rfl (Or.inl rfl) (As Aj (by rfl) T.len PySem.boot_len (Aa (Ax Au (pv 0) Ag (fun _ _=>rfl)) Ab)))
   (Ad (CM PassesOwn.never rfl (A0 rfl T.range (Aa Ag Ab)) (Ak (i:=4) BE.nd rfl (Or.inl rfl))
   (Ad (Ai (i:=5) BE.nd rfl (Or.inl rfl) (An Hx (Ah AL (hr.mono (by decide)) rfl AN AE.kp AM .nil Az (Aa (pv 1) (Aa (An CN (pv 2) (pv 4)) Ab))) Ag))
   (Ad (Ai (i:=6) BE.nd rfl (Or.inl rfl) (Ah Br (hr.mono (by decide)) rfl Bu A9.kp Bt .nil Az (Aa (pv 1) (Aa (An CN (An CN (pv 2) (pv 4)) Ag) (Aa (Ax Au (pv 0) Ag (fun _ _=>rfl)) Ab)))))
   (Af (Ai (i:=0) BE.nd rfl (Or.inl rfl) (Ah G8 (hr.mono (by decide)) rfl Ha Ep.kp G9 .nil Az (Aa (pv 0) (Aa (An BR (pv 5) (pv 3)) (Aa (An BR (An Hx (pv 5) Ag) (pv 3)) (Aa (pv 6) Ab))))))))))
   (Af (Aq (pv 0)))))),?_⟩
  walk_at "rd"
  refine⟨h,a,p,at_,L,n,ns,first,last,tables,rfl,hs,hh,wf,sm,hL1,hL6,hn4,hat,fun g f1 l1 t1 H1 s1 hg wg smg=>?_⟩
  obtain⟨tf,tt,tl,q1,q2,q3,q4⟩:=id hg
  walk_at "rd"
  refine⟨_,q1,V.ref tf,rfl,tf,rfl,_,.inr q2,?_⟩
  rw[List.length_map,wg.f.1]
  obtain⟨Pv,hPv⟩:∃Pv:Nat->St->Hp->Prop,∀m σ' H',Pv m σ' H'↔(∃(g:Addr) (f1 l1:List Int) (t1:List (List (List Int))) (o4 o5 o6:Option V),Same H H'/\SumH K H' g p L f1 t1 l1/\WfSum p L (n+1) f1 t1 l1/\Sm p t1/\σ'=[some (.ref g),some (.ref a),some (.int at_),some (.int ((n+1:Nat):Int)),o4,o5,o6]):=⟨_,fun _ _ _=>Iff.rfl⟩
  refine⟨by decide,by decide,?_⟩
  refine forR Pv ((hPv _ _ _).mpr ⟨g,f1,l1,t1,none,none,none,s1,hg,wg,smg,rfl⟩) (fun m σ' H' hm h'=>?_) (fun σ' H' h'=>?_)
  ·obtain⟨g,f1,l1,t1,o4,o5,o6,c1,c2,c3,c4,rfl⟩:=(hPv _ _ _).mp h'
   obtain⟨tf,tt,tl,q1,q2,q3,q4⟩:=id c2
   have hm3:m<3:=hm
   rw[Int.zero_add]
   walk_at "rd"
   refine⟨a,ns,at_+m,by rw[show ((at_+m:Nat):Int)=(at_:Int)+m by omega],c1.seq hs,_,rfl,⟨by decide,by decide⟩,_,q1,V.int p,rfl,a,ns,(at_:Int)+m+1,p,rfl,c1.seq hs,by omega,by omega,by omega,fun tm t0 t1'=>?_⟩
   generalize cell ns (at_+m) / 2=cc
   have a0:=Int.emod_nonneg cc (show ((n+1:Nat):Int)≠0 by omega)
   have a1:=Int.emod_lt_of_pos cc (show (0:Int)<((n+1:Nat):Int) by omega)
   have b0:=Int.emod_nonneg (cc / 5) (show ((n+1:Nat):Int)≠0 by omega)
   have b1:=Int.emod_lt_of_pos (cc / 5) (show (0:Int)<((n+1:Nat):Int) by omega)
   obtain⟨i,hi⟩:∃i:Nat,cc%((n+1:Nat):Int)=i:=⟨_,(Int.toNat_of_nonneg a0).symm⟩
   obtain⟨j,hj⟩:∃j:Nat,cc / 5%((n+1:Nat):Int)=j:=⟨_,(Int.toNat_of_nonneg b0).symm⟩
   rw[hi]at a1 ⊢
   rw[hj]at b1 ⊢
   refine⟨by omega,⟨by decide,by decide⟩,by omega,g,p,tm,L,n+1,i,j,f1,l1,t1,rfl,c2,c3,c4,by omega,by omega,hL6,by omega,by omega,by omega,fun g2 f2 l2 t2 H2 s2 d1 d2 d3=>(hPv _ _ _).mpr ⟨g2,f2,l2,t2,_,_,_,c1.trans s2,d1,d2,d3,rfl⟩⟩
  ·obtain⟨g,f1,l1,t1,o4,o5,o6,c1,c2,c3,c4,rfl⟩:=(hPv _ _ _).mp h'
   walk_at "rd"
   exact k g f1 l1 t1 _ c1 c2 c3 c4
def Nu (K:PySem.W.Frag):Sp:=fun vs H Q _=>∃(p:Int) (a:Addr) (xs:List Int),vs=[.int p,.ref a,.int xs.length]/\SqL K H a (xs.map V.int)/\(∀x∈xs,0<=x/\x<p)/\Q (.bl true) H
theorem Nv {f:Addr}{fd:FuncData}(F:Fun K "_law_list_by" "_law_list_by" B9 f fd)(T:Txt mg)
  (Z:Exs K mg C_AskError C_BadWord C_NoInverse)
  {Bj:Addr} {Cy:FuncData} (D5:FnOk P w K mg base CX0 1 Bj Cy ["found"] (QB)) (Cp:Fun K "_law_whole" "_law_whole" Co Bj Cy) (D7:Binds K Cy ["found"] []) (D8:mg "_law_whole"=some (.ref Bj))
  : FnOk P w K mg base CX0 2 f fd ["p","found","many"] (Nu K):=by
 refine F.ok HK (fun vs H Q E h=>?_) (fun cdv A outer s H vs Q E hr h=>?_)
 ·obtain⟨p,a,xs,rfl,_⟩:=h;rfl
 ·obtain⟨p,a,xs,rfl,ha,hin,k⟩:=h
  have hl:=Al
  refine⟨_,(Ad (Et (PW.pt (L7 (Fl (Eu (As Cm rfl T.isinstance PyProof.Rows.boot_isinstance (Aa (pv 1) (Aa (Hw (v:=.ty "list") rfl T.list PyProof.Rows.boot_list rfl) Ab))))) (J1 (Bc U2 (As Aj (by rfl) T.len PySem.boot_len (Aa (pv 1) Ab)) (pv 2) (BM _)))))
   (Af (Aq Gn))
   Bb)
   (Ad (CM PassesOwn.never rfl (Fm (pv 1)) (Ak (i:=3) HK.nd rfl (Or.inl rfl))
   (Af (Et (PW.pt (L7 (Fl (Eu (Ah D5 (hr.mono (by decide)) rfl D8 Cp.kp D7 .nil Az (Aa (pv 3) Ab)))) (L7 (Bc U3 (pv 3) Ag (BM _)) (J1 (Bc BQ_ (pv 3) (pv 0) (BM _))))))
   (Af (Aq Gn))
   Bb)))
   (Af (Aq Gn)))),?_⟩
  walk_at "rd"
  refine⟨_,_,.lst ha,LO,_,GD,?_⟩
  rw[if_neg (by decide)]
  refine⟨_,.inl ha,?_⟩
  rw[if_neg (by simp)]
  refine⟨⟨_,ha⟩,?_⟩
  obtain⟨Pv,hPv⟩:∃Pv:Nat->St->Hp->Prop,∀m σ' H',Pv m σ' H'↔(H'=H/\∃o,σ'=[some (.int p),some (.ref a),some (.int xs.length),o]):=⟨_,fun _ _ _=>Iff.rfl⟩
  refine forL (xs:=xs.map V.int) Pv ((hPv _ _ _).mpr ⟨rfl,none,rfl⟩) (fun i σ' H' _ h'=>by obtain⟨rfl,_⟩:=(hPv _ _ _).mp h';exact ha) (fun i x σ' H' hx h'=>?_) (fun σ' H' h'=>?_)
  ·obtain⟨rfl,o,rfl⟩:=(hPv _ _ _).mp h'
   obtain⟨g,hg,rfl⟩:=Ja hx
   have hb:=hin g (List.mem_of_getElem? hg)
   walk_at "rd"
   refine⟨g,rfl,_,rfl,?_⟩
   rw[if_neg (by decide),if_neg (by omega),if_neg (by omega)]
   exact (hPv _ _ _).mpr ⟨rfl,_,rfl⟩
  ·obtain⟨rfl,o,rfl⟩:=(hPv _ _ _).mp h'
   walk_at "rd"
   exact k
def Ew_ (K:PySem.W.Frag)(H:Hp)(xs:List V)(rows:List (List Int)):Prop:=xs.length=rows.length/\∀(i:Nat) (r:List Int),rows[i]?=some r->∃(b:Bool) (t:Addr),xs[i]?=some (.ref t)/\SqB K H b t (r.map V.int)
def Pk (K:PySem.W.Frag):Sp:=fun vs H Q _=>∃(p:Int) (b:Bool) (a c:Addr) (m:Nat) (xs:List V) (rows:List (List Int)) (am:List Int),vs=[.int p,.ref a,.ref c,.int m]/\2<=p/\p<1000000000000000000/\SqL K H a xs/\Ew_ K H xs rows/\SqB K H b c (am.map V.int)/\am.length=rows.length/\(∀x∈am,0<=x/\x<p)/\(∀r∈rows,r.length=m)/\m<=16/\rows.length<=16/\∀q H',Same H H'->SqT K H' q ((E7 p rows am m).map V.int)->Q (.ref q) H'
theorem QI {f:Addr}{fd:FuncData}(F:Fun K "_law_mixed" "_law_mixed" C6 f fd)(T:Txt mg)
  (Z:Exs K mg C_AskError C_BadWord C_NoInverse)
  : FnOk P w K mg base CX0 1 f fd ["p","rows","amounts","size"] (Pk K):=by
 refine F.ok GK (fun vs H Q E h=>?_) (fun cdv A outer s H vs Q E hr h=>?_)
 ·obtain⟨p,b,a,c,m,xs,rows,am,rfl,_⟩:=h;rfl
 ·obtain⟨p,b,a,c,m,xs,rows,am,rfl,p2,p18,ha,hr,hc,hal,hin,hrm,hm,hr16,k⟩:=h
  have hl:=Al
  refine⟨_,(Ad (Ai (i:=4) GK.nd rfl (Or.inl rfl) (Fo Ab))
   (Ad (CM PassesOwn.never rfl (A0 rfl T.range (Aa (pv 3) Ab)) (Ak (i:=5) GK.nd rfl (Or.inr rfl))
   (Af (DO (J5 PySem.F.plainAttrs_list PySem.F.slot_list_append PySem.F.type_list_append BS (pv 4) (Aa (An BR (As (MB rfl) rfl T.sum PyProof.Rows.boot_sum (Aa (BN rfl (Ck rfl) (cp:=Jx) ⟨⟨rfl,rfl⟩,⟨⟨rfl,rfl⟩,⟨⟨rfl,rfl⟩,True.intro⟩⟩⟩ (A0 rfl T.range (Aa (As Aj (by rfl) T.len PySem.boot_len (Aa (pv 1) Ab)) Ab)) (fun _ _ _ _=>(Ak (i:=0) Lg rfl (Or.inl rfl))) (fun _ _ _ _=>BV) (fun _ _ _ _=>(An CP (Ax (YU (K:=K) rfl) (pv 1) (pv 0) (fun _ _=>rfl)) (Ax (YU (K:=K) rfl) (Ax (P0 (K:=K) rfl) (pv 3) (pv 0) (fun _ _=>rfl)) (pv 2) (fun _ _=>rfl))))) Ab)) (pv 0)) Ab)))))
   (Af (Aq (Aw Ap rfl T.tuple PyProof.Rows.boot_tuple (Aa (pv 4) Ab)))))),?_⟩
  walk_at "rd"
  refine⟨by omega,fun q hq=>⟨by omega,by omega,?_⟩⟩
  rw[Int.toNat_natCast]
  obtain⟨Pv,hPv⟩:∃Pv:Nat->St->Hp->Prop,∀c' σ' H',Pv c' σ' H'↔(Same H H'/\H' q=some (.lst ((E7 p rows am c').map V.int))/\∃o,σ'=[some (.int p),some (.ref a),some (.ref c),some (.int m),some (.ref q),o]):=⟨_,fun _ _ _=>Iff.rfl⟩
  refine forR Pv ((hPv _ _ _).mpr ⟨Same.new hq,Ac,none,rfl⟩) (fun c' σ2 H2 hc' h2=>?_) (fun σ2 H2 h2=>?_)
  ·obtain⟨s2,hq2,o,rfl⟩:=(hPv _ _ _).mp h2
   rw[Int.zero_add]
   walk_at "rd"
   have hxl:=hr.1
   refine⟨.inl ⟨rfl,_,SqL.of hq2⟩,_,.inl (s2.seq ha),by omega,by omega,?_⟩
   rw[Int.toNat_natCast,hxl]
   obtain⟨Pc,hPc⟩:∃Pc:Nat->List V->St->Hp->Prop,∀j ys σ4 H4,Pc j ys σ4 H4↔(H4=H2/\ys=((List.range j).map fun k=>am.getD k 0*(rows.getD k []).getD c' 0).map V.int/\∃o,σ4=[o,some (.ref c),some (.int c'),some (.ref a)]):=⟨_,fun _ _ _ _=>Iff.rfl⟩
   refine L8 Pc ((hPc _ _ _ _).mpr ⟨rfl,rfl,none,rfl⟩) (by omega) (fun j ys σ4 H4 _ h4=>?_) (fun j ys σ4 H4 hj h4=>?_) (fun ys σ4 H4 h4 D hD=>?_)
   ·obtain⟨_,rfl,_⟩:=(hPc _ _ _ _).mp h4
    rw[List.length_map,List.length_map,List.length_range];exact Nat.le_refl _
   ·obtain⟨rfl,rfl,o4,rfl⟩:=(hPc _ _ _ _).mp h4
    rw[Int.zero_add]
    have hja:j<am.length:=by omega
    have hjr:j<rows.length:=by omega
    obtain⟨b2,t,e1,e2⟩:=hr.2 j rows[j] (by simp[hjr])
    have hcl:c'<(rows[j]).length:=by rw[hrm _ (List.getElem_mem hjr)];exact hc'
    have er:rows.getD j []=rows[j]:=by rw[List.getD_eq_getElem?_getD,List.getElem?_eq_getElem hjr];rfl
    have ea:am.getD j 0=am[j]:=by rw[List.getD_eq_getElem?_getD,List.getElem?_eq_getElem hja];rfl
    have ec:(rows.getD j []).getD c' 0=(rows[j])[c']:=by rw[er,List.getD_eq_getElem?_getD,List.getElem?_eq_getElem hcl];rfl
    have hx:=hin _ (List.getElem_mem hja)
    have fin:Pc (j+1) (List.map V.int (List.map (fun k=>am.getD k 0*(rows.getD k []).getD c' 0) (List.range j))++[V.int (am[j]*(rows[j])[c'])]) [some (V.int j),some (V.ref c),some (V.int c'),some (V.ref a)] H4:=(hPc _ _ _ _).mpr ⟨rfl,by rw[List.range_succ,List.map_append,List.map_append,List.map_singleton,List.map_singleton,ea,ec],_,rfl⟩
    have inner:∃x,SqL K H4 a x/\∃x_2,atI x (j:Int)=some x_2/\((∃p,x_2=V.ref p/\∃x,SqL K H4 p x/\∃x_3,atI x (c':Int)=some x_3/\∃i,V.int am[j]=V.int i/\∃x,x_3=V.int x/\CMul i x/\Pc (j+1) (List.map V.int (List.map (fun k=>am.getD k 0*(rows.getD k []).getD c' 0) (List.range j))++[V.int (i*x)]) [some (V.int j),some (V.ref c),some (V.int c'),some (V.ref a)] H4) \/ ∃p,x_2=V.ref p/\∃x,SqT K H4 p x/\∃x_3,atI x (c':Int)=some x_3/\∃i,V.int am[j]=V.int i/\∃x,x_3=V.int x/\CMul i x/\Pc (j+1) (List.map V.int (List.map (fun k=>am.getD k 0*(rows.getD k []).getD c' 0) (List.range j))++[V.int (i*x)]) [some (V.int j),some (V.ref c),some (V.int c'),some (V.ref a)] H4):=by
     refine⟨_,s2.seq ha,V.ref t,Cq e1,?_⟩
     cases b2 with
     |false=>exact .inl ⟨t,rfl,_,s2.seq e2,_,Fq (by omega) (v:=(rows[j])[c']) (by simp[hcl]),_,rfl,_,rfl,.inl ⟨by omega,by omega⟩,fin⟩
     |true=>exact .inr ⟨t,rfl,_,s2.seqT e2,_,Fq (by omega) (v:=(rows[j])[c']) (by simp[hcl]),_,rfl,_,rfl,.inl ⟨by omega,by omega⟩,fin⟩
    walk_at "rd"
    cases b with
    |false=>exact .inl ⟨_,s2.seq hc,_,Fq (by omega) (v:=am[j]) (by simp[hja]),inner⟩
    |true=>exact .inr ⟨_,s2.seqT hc,_,Fq (by omega) (v:=am[j]) (by simp[hja]),inner⟩
   ·obtain⟨rfl,rfl,o4,rfl⟩:=(hPc _ _ _ _).mp h4
    refine⟨D,rfl,_,SqL.of Ac,by omega,_,(Same.new hD) _ _ hq2,by unfold E7;rw[List.length_map,List.length_map,List.length_range];omega,(hPv _ _ _).mpr ⟨(s2.newT hD).over hq,?_,_,rfl⟩⟩
    have:=By_ am rows c' (by omega)
    rw[Ac,this]
    unfold E7
    rw[List.range_succ,List.map_append,List.map_append];rfl
  ·obtain⟨s2,hq2,o,rfl⟩:=(hPv _ _ _).mp h2
   walk_at "rd"
   exact⟨_,.inl ⟨SqL.of hq2,fun t ht=>k t _ (s2.newT ht) (SqT.of Ac)⟩⟩
def JQ (K:PySem.W.Frag):Sp:=fun vs H Q _=>∃(a:Addr) (L:Int) (ws:List Int),vs=[.ref a,.int L]/\SqT K H a (ws.map V.int)/\isW L ws=true/\Q (.bl true) H
theorem Nw {f:Addr}{fd:FuncData}(F:Fun K "_law_is_word" "_law_is_word" Bx f fd)(T:Txt mg)
  (Z:Exs K mg C_AskError C_BadWord C_NoInverse)
  {Bj:Addr} {Cy:FuncData} (D5:FnOk P w K mg base CX0 1 Bj Cy ["found"] (QB)) (Cp:Fun K "_law_whole" "_law_whole" Co Bj Cy) (D7:Binds K Cy ["found"] []) (D8:mg "_law_whole"=some (.ref Bj))
  : FnOk P w K mg base CX0 2 f fd ["found","letters"] (JQ K):=by
 refine F.ok HN (fun vs H Q E h=>?_) (fun cdv A outer s H vs Q E hr h=>?_)
 ·obtain⟨a,L,ws,rfl,_⟩:=h;rfl
 ·obtain⟨a,L,ws,rfl,ha,hw,k⟩:=h
  have hl:=Al
  refine⟨_,(Ad (Et (Fl (Eu (As Cm rfl T.isinstance PyProof.Rows.boot_isinstance (Aa (pv 0) (Aa (Hw (v:=.ty "tuple") rfl T.tuple PyProof.Rows.boot_tuple rfl) Ab)))))
   (Af (Aq Gn))
   Bb)
   (Ad (CM PassesOwn.never rfl (Jm (pv 0)) (Ak (i:=2) HN.nd rfl (Or.inl rfl))
   (Af (Et (PW.pt (L7 (Fl (Eu (Ah D5 (hr.mono (by decide)) rfl D8 Cp.kp D7 .nil Az (Aa (pv 2) Ab)))) (L7 (Bc U3 (pv 2) Ag (BM _)) (J1 (Bc BQ_ (pv 2) (pv 1) (BM _))))))
   (Af (Aq Gn))
   Bb)))
   (Af (Aq Gn)))),?_⟩
  walk_at "rd"
  refine⟨_,_,.tup ha,LO,_,GD,?_⟩
  rw[if_neg (by decide)]
  refine⟨⟨_,ha⟩,?_⟩
  obtain⟨Pv,hPv⟩:∃Pv:Nat->St->Hp->Prop,∀m σ' H',Pv m σ' H'↔(H'=H/\∃o,σ'=[some (.ref a),some (.int L),o]):=⟨_,fun _ _ _=>Iff.rfl⟩
  refine forT (xs:=ws.map V.int) Pv ((hPv _ _ _).mpr ⟨rfl,none,rfl⟩) (fun i σ' H' _ h'=>by obtain⟨rfl,_⟩:=(hPv _ _ _).mp h';exact ha) (fun i x σ' H' hx h'=>?_) (fun σ' H' h'=>?_)
  ·obtain⟨rfl,o,rfl⟩:=(hPv _ _ _).mp h'
   obtain⟨g,hg,rfl⟩:=Ja hx
   have hb:=Bl.mp hw g (List.mem_of_getElem? hg)
   walk_at "rd"
   refine⟨g,rfl,_,rfl,?_⟩
   rw[if_neg (by decide),if_neg (by omega),if_neg (by omega)]
   exact (hPv _ _ _).mpr ⟨rfl,_,rfl⟩
  ·obtain⟨rfl,o,rfl⟩:=(hPv _ _ _).mp h'
   walk_at "rd"
   exact k
theorem Nx {p:Int}{rows:List (List Int)}{am:List Int}{n i:Nat}(hi:i<n):(E7 p rows am n).getD i 0=dotW am (colW rows i)%p:=by
 unfold E7
 rw[List.getD_eq_getElem?_getD,List.getElem?_map,List.getElem?_range hi];rfl
theorem Ze (p:Int)(rows:List (List Int))(am:List Int)(n:Nat):cg p (E7 p rows am n) ((List.range n).map fun c=>dotW am (colW rows c)):=by
 unfold E7
 exact cg.map fun c _=>Int.emod_emod_of_dvd _ (Int.dvd_refl p)
theorem Vu {p:Int}{d:Nat}{r:List Int}(hl:r.length=d){f:Nat->Int}(h:∀i:Nat,i<d->r.getD i 0%p=f i%p):cg p r ((List.range d).map f):=by
 have e:r=(List.range d).map fun i=>r.getD i 0:=by
  refine List.ext_getElem? fun i=>?_
  by_cases hi:i<d
  ·rw[List.getElem?_map,List.getElem?_range hi,List.getElem?_eq_getElem (show i<r.length by omega)]
   show some _=some (r.getD i 0)
   rw[List.getD_eq_getElem?_getD,List.getElem?_eq_getElem (show i<r.length by omega)];rfl
  ·rw[List.getElem?_eq_none (by omega),List.getElem?_eq_none (by simp;omega)]
 rw[e]
 exact cg.map fun i hi=>h i (List.mem_range.mp hi)
theorem Eb_ {p:Int}{L d x:Nat}{tables:List (List (List Int))}{first last:List Int}{ws:List (List Int)}(wf:WfSum p L d first tables last){W:List (List Int)}{tv r:List Int}(hx:x<L)
  (hW:W.length=ws.length) (hg:∀(i:Nat) (g v:List Int),W[i]?=some g->ws[i]?=some v->LX p L d (Mine.rowS p d tables first) ws (v++[(x:Int)]) g) (htl:tv.length=ws.length) (hr:r.length=d)
  (he:∀i:Nat,i<d->r.getD i 0%p=dotW tv (colW (ws.map (Mine.rowS p d tables first)) i)%p):
  ∀c:Nat,c<d->(Jk p d tables r x).getD c 0%p=dotW (E7 p W tv ws.length) (colW (ws.map (Mine.rowS p d tables first)) c)%p:=fun c hc=>by
 have p2:=wf.p2
 have hcl:(colW (ws.map (Mine.rowS p d tables first)) c).length=ws.length:=by rw[FZ,List.length_map]
 have hWl:∀g∈W,g.length=ws.length:=fun g hg'=>by
  obtain⟨i,hi⟩:=List.mem_iff_getElem?.mp hg'
  have hil:i<ws.length:=by rw[<-hW];exact (List.getElem?_eq_some_iff.mp hi).1
  exact (hg i g ws[i] hi (by simp)).1
 have hT:(tables.getD ((x:Int)).toNat []).length=d/\∀q∈tables.getD ((x:Int)).toNat [],q.length=d:=by
  have hxt:x<tables.length:=by have:=wf.t;omega
  rw[show ((x:Int)).toNat=x by omega,List.getD_eq_getElem?_getD,List.getElem?_eq_getElem hxt]
  exact wf.tt _ (List.getElem_mem hxt)
 -- the right side
 rw[cg.dot (Ze p W tv ws.length) (cg.refl p (colW (ws.map (Mine.rowS p d tables first)) c)),GN hcl W tv hWl (by rw[htl,hW])]
 have hR:cg p (W.map fun g=>dotW (colW (ws.map (Mine.rowS p d tables first)) c) g) (ws.map fun v=>(Mine.rowS p d tables first (v++[(x:Int)])).getD c 0):=by
  unfold cg
  rw[List.map_map,List.map_map]
  refine List.ext_getElem? fun i=>?_
  rw[List.getElem?_map,List.getElem?_map]
  by_cases hi:i<ws.length
  ·rw[List.getElem?_eq_getElem (show i<W.length by omega),List.getElem?_eq_getElem hi]
   have:=(hg i W[i] ws[i] (by simp) (by simp)).2.2.1 c hc
   rw[Bq]at this
   exact congrArg some this.symm
  ·rw[List.getElem?_eq_none (by omega),List.getElem?_eq_none (by omega)];rfl
 rw[cg.dot (cg.refl p tv) hR]
 -- the left side
 unfold Jk
 rw[Nx hc,Int.emod_emod_of_dvd _ (Int.dvd_refl p)]
 rw[cg.dot (Vu hr he) (cg.refl p (colW (tables.getD ((x:Int)).toNat []) c)),GN (by rw[FZ];exact hT.1) (ws.map (Mine.rowS p d tables first)) tv (fun q hq=>by obtain⟨v,_,rfl⟩:=List.mem_map.mp hq;exact (wf.row v).1) (by rw[List.length_map,htl]),List.map_map]
 refine cg.dot (cg.refl p tv) (cg.map fun v _=>?_)
 show dotW _ (Mine.rowS p d tables first v)%p=_
 rw[Bq]
 have e:Mine.rowS p d tables first (v++[(x:Int)])=Jk p d tables (Mine.rowS p d tables first v) x:=by unfold Mine.rowS;rw[List.foldl_append];rfl
 rw[e]
 unfold Jk
 rw[Nx hc,Int.emod_emod_of_dvd _ (Int.dvd_refl p)]
structure Hs where
 d:Nat
 f:List Int
 t:List (List (List Int))
 l:List Int
def Hs.R (h:Hs)(p:Int)(v:List Int):List Int:=Mine.rowS p h.d h.t h.f v
def Hs.W (h:Hs)(p:Int)(v:List Int):Int:=dotW h.l (h.R p v)%p
def Hs.ok (h:Hs)(p:Int)(L:Nat):Prop:=WfSum p L h.d h.f h.t h.l
def Hs.back (h:Hs):Hs:=⟨h.d,h.l,h.t.map (EV h.d),h.f⟩
theorem Hs.ok.dim {h:Hs}{p:Int}{L:Nat}(k:h.ok p L){i:Nat}(hi:i<L):Dim h.d (h.t.getD i []):=by
 have hit:i<h.t.length:=by have:=k.t;omega
 rw[List.getD_eq_getElem?_getD,List.getElem?_eq_getElem hit]
 have:=k.tt _ (List.getElem_mem hit)
 exact⟨this.1,this.2⟩
theorem Hs.ok.back {h:Hs}{p:Int}{L:Nat}(k:h.ok p L):h.back.ok p L where
 p2:=k.p2
 p18:=k.p18
 dl:=k.dl
 f:=k.l
 l:=k.f
 t:=by show (((h.t.map (EV h.d)).length:Nat):Int)=L;rw[List.length_map];exact k.t
 tt:=fun tb htb=>by
  obtain⟨a,ha,rfl⟩:=List.mem_map.mp htb
  have:=k.tt a ha
  have:=Zc (d:=h.d) (tb:=a) ⟨this.1,this.2⟩
  exact⟨this.n,this.r⟩
theorem Hs.row_app (h:Hs)(p:Int)(a e:List Int):h.R p (a++e)=Mine.rowS p h.d h.t (h.R p a) e:=by
 unfold Hs.R Mine.rowS
 rw[List.foldl_append]
theorem Hs.split {h:Hs}{p:Int}{L:Nat}(k:h.ok p L){a e:List Int}(he:isW L e=true):h.W p (a++e)=dotW (h.back.R p e.reverse) (h.R p a)%p:=by
 unfold Hs.W
 rw[Hs.row_app,Bq]
 have c1:cg p (Mine.rowS p h.d h.t (h.R p a) e) (rowI h.d h.t (h.R p a) e):=Vr (fun i=>cgT.refl p _) e (cg.refl p _)
 have c2:cg p (h.back.R p e.reverse) (rowI h.d (h.t.map (EV h.d)) h.l e.reverse):=Vr (fun i=>cgT.refl p _) e.reverse (cg.refl p _)
 rw[cg.dot c1 (cg.refl p h.l),cg.dot c2 (cg.refl p (h.R p a))]
 have hT:∀i:Nat,i<L->(h.t.map (EV h.d)).getD i []=EV h.d (h.t.getD i []):=fun i hi=>by
  have hit:i<h.t.length:=by have:=k.t;omega
  rw[List.getD_eq_getElem?_getD,List.getElem?_map,List.getElem?_eq_getElem hit,List.getD_eq_getElem?_getD,List.getElem?_eq_getElem hit];rfl
 have key:dotW (rowI h.d h.t (h.R p a) e) h.l=dotW (h.R p a) (rowI h.d (h.t.map (EV h.d)) h.l e.reverse):=Wr (L:=L) hT (fun i hi=>k.dim hi) e (fun x hx=>Bl.mp he x hx) (show (h.R p a).length=h.d from (k.row a).1) k.l.1
 rw[key,Bq]
theorem Hs.back_W {h:Hs}{p:Int}{L:Nat}(k:h.ok p L){v:List Int}(hv:isW L v=true):h.back.W p v.reverse=h.W p v:=by
 have:=Hs.split k (a:=[]) hv
 rw[List.nil_append]at this
 rw[this]
 show dotW h.f (h.back.R p v.reverse)%p=_
 rw[Bq];rfl
theorem Iz {L:Int}{v:List Int}(h:isW L v=true):isW L v.reverse=true:=Bl.mpr fun x hx=>Bl.mp h x (List.mem_reverse.mp hx)
def onB (h:Hs)(p:Int)(L:Nat)(ws:List (List Int))(am:List (List (List Int))):Hs:=⟨ws.length,BO ws.length 0,(List.range L).map fun x=>am.map fun a=>a.getD x [],ws.map (h.W p)⟩
structure OnB (h:Hs)(p:Int)(L:Nat)(F ws:List (List Int))(am:List (List (List Int))):Prop where
 ok:h.ok p L
 pr:Pr p
 bw:BW p L h.d h.t h.f F F.length ws
 am:AmF p L h.d (h.R p) ws am
 sz:ws.length<=h.d
section
variable {h:Hs} {p:Int} {L:Nat} {F ws:List (List Int)} {am:List (List (List Int))}
theorem OnB.tab (o:OnB h p L F ws am){x:Nat}(hx:x<L):((List.range L).map fun x=>am.map fun a=>a.getD x []).getD x []=am.map fun a=>a.getD x []:=by
 rw[List.getD_eq_getElem?_getD,List.getElem?_map,List.getElem?_range hx];rfl
theorem OnB.good (o:OnB h p L F ws am){x:Nat}(hx:x<L)(i:Nat)(g v:List Int)(hg:(am.map fun a=>a.getD x [])[i]?=some g)(hv:ws[i]?=some v):LX p L h.d (h.R p) ws (v++[(x:Int)]) g:=by
 rw[List.getElem?_map]at hg
 cases ha:am[i]? with
 |none=>rw[ha]at hg;cases hg
 |some a=>
  rw[ha]at hg
  cases hg
  obtain⟨b1,b2⟩:=o.am.2 i a v ha hv
  refine b2 x _ ?_
  show a[x]?=some (a.getD x [])
  rw[List.getD_eq_getElem?_getD,List.getElem?_eq_getElem (show x<a.length by omega)];rfl
theorem OnB.okN (o:OnB h p L F ws am):(onB h p L ws am).ok p L where
 p2:=o.ok.p2
 p18:=o.ok.p18
 dl:=Nat.le_trans o.sz o.ok.dl
 f:=⟨by show (BO ws.length 0).length=ws.length;unfold BO;simp,fun x hx=>by
  obtain⟨i,_,rfl⟩:=List.mem_map.mp hx
  have:=o.ok.p2
  split<;>omega⟩
 l:=⟨by show (ws.map (h.W p)).length=ws.length;rw[List.length_map],fun x hx=>by
  obtain⟨v,_,rfl⟩:=List.mem_map.mp hx
  have:=o.ok.p2
  exact⟨Int.emod_nonneg _ (by omega),Int.emod_lt_of_pos _ (by omega)⟩⟩
 t:=by show ((((List.range L).map fun x=>am.map fun a=>a.getD x []).length:Nat):Int)=L;simp
 tt:=fun tb htb=>by
  obtain⟨x,hx,rfl⟩:=List.mem_map.mp htb
  have hx:=List.mem_range.mp hx
  refine⟨by rw[List.length_map];exact o.am.1,fun r hr=>?_⟩
  obtain⟨i,hi⟩:=List.mem_iff_getElem?.mp hr
  have hil:i<ws.length:=by rw[<-o.am.1];have:=(List.getElem?_eq_some_iff.mp hi).1;rwa [List.length_map]at this
  exact (o.good hx i r ws[i] hi (by simp)).1
theorem Zf {n k i:Nat}(hi:i<n):(BO n k).getD i 0=if i=k then 1 else 0:=by
 unfold BO
 rw[List.getD_eq_getElem?_getD,List.getElem?_map,List.getElem?_range hi];rfl
theorem Ub {n k:Nat}{cs:List Int}(h:cs.length=n):dotW (BO n k) cs=cs.getD k 0:=by
 rw[Bq];exact ME cs h
theorem OnB.rep (o:OnB h p L F ws am):∀(v:List Int),isW L v=true->∀c:Nat,c<h.d->(h.R p v).getD c 0%p=dotW ((onB h p L ws am).R p v) (colW (ws.map (h.R p)) c)%p:=by
 have key:∀(n:Nat) (v:List Int),v.length=n->isW L v=true->∀c:Nat,c<h.d->(h.R p v).getD c 0%p=dotW ((onB h p L ws am).R p v) (colW (ws.map (h.R p)) c)%p:=fun n=>by
  induction n with
  |zero=>
   intro v hv _ c hc
   have:v=[]:=List.length_eq_zero_iff.mp hv
   subst this
   show h.f.getD c 0%p=dotW (BO ws.length 0) (colW (ws.map (h.R p)) c)%p
   rw[Ub (by rw[FZ,List.length_map])]
   have hF0:0<F.length:=(List.getElem?_eq_some_iff.mp o.bw.f0).1
   by_cases hz:∀i:Nat,i<h.d->h.f.getD i 0%p=0
   ·have:=o.bw.nil0 hF0 hz
    rw[this,hz c hc];simp[colW]
   ·have:=o.bw.nil1 hF0 hz
    cases ws with
    |nil=>cases this
    |cons a t=>cases this;rfl
  |succ n ih=>
   intro v hv hw c hc
   obtain⟨u,x,rfl⟩:∃u x,v=u++[x]:=⟨v.dropLast,v.getLast (by intro e;subst e;simp at hv),(List.dropLast_concat_getLast _).symm⟩
   have hwu:isW L u=true:=Bl.mpr fun y hy=>Bl.mp hw y (List.mem_append_left _ hy)
   have hxb:=Bl.mp hw x (by simp)
   obtain⟨x,rfl⟩:=Int.eq_ofNat_of_zero_le hxb.1
   have hx:x<L:=by omega
   have iu:=ih u (by simp at hv;omega) hwu
   have e1:h.R p (u++[(x:Int)])=Jk p h.d h.t (h.R p u) x:=by unfold Hs.R Mine.rowS;rw[List.foldl_append];rfl
   have e2:(onB h p L ws am).R p (u++[(x:Int)])=E7 p (am.map fun a=>a.getD x []) ((onB h p L ws am).R p u) ws.length:=by
    have:(onB h p L ws am).R p (u++[(x:Int)])=Jk p ws.length ((List.range L).map fun x=>am.map fun a=>a.getD x []) ((onB h p L ws am).R p u) x:=by unfold Hs.R Mine.rowS;rw[List.foldl_append];rfl
    rw[this]
    unfold Jk
    rw[show ((x:Int)).toNat=x by omega,o.tab hx]
   rw[e1,e2]
   exact Eb_ (x:=x) o.ok hx (by rw[List.length_map];exact o.am.1) (o.good hx) (o.okN.row u).1 (o.ok.row u).1 iu c hc
 exact fun v=>key v.length v rfl
theorem OnB.rowsL (o:OnB h p L F ws am):∀r∈ws.map (h.R p),r.length=h.d:=fun r hr=>by
 obtain⟨v,_,rfl⟩:=List.mem_map.mp hr
 exact (o.ok.row v).1
theorem OnB.worth (o:OnB h p L F ws am){v:List Int}(hv:isW L v=true):(onB h p L ws am).W p v=h.W p v:=by
 have hlen:((onB h p L ws am).R p v).length=ws.length:=(o.okN.row v).1
 have c1:=Vu (o.ok.row v).1 (o.rep v hv)
 show dotW (ws.map (h.W p)) ((onB h p L ws am).R p v)%p=dotW h.l (h.R p v)%p
 rw[Bq h.l,cg.dot (show cg p (h.R p v) _ from c1) (cg.refl p h.l),GN o.ok.l.1 (ws.map (h.R p)) _ o.rowsL (by rw[List.length_map,hlen]),Bq,List.map_map]
 refine cg.dot (cg.refl p _) (cg.map fun u _=>?_)
 show h.W p u%p=dotW h.l (h.R p u)%p
 unfold Hs.W
 rw[Int.emod_emod_of_dvd _ (Int.dvd_refl p)]
theorem OnB.unit (o:OnB h p L F ws am){i:Nat}{v:List Int}(hv:ws[i]?=some v):(onB h p L ws am).R p v=BO ws.length i:=by
 have hp2:=o.ok.p2
 have hil:i<ws.length:=(List.getElem?_eq_some_iff.mp hv).1
 have hvF:v∈F:=by have:=o.bw.kF v (List.mem_of_getElem? hv);rwa [List.take_length]at this
 have hu:=(o.bw.indep o.pr).uniq (cs:=(onB h p L ws am).R p v) (ds:=BO ws.length i) (by rw[List.length_map];exact (o.okN.row v).1) (by rw[List.length_map];unfold BO;simp) fun c hc=>by
  have h1:=o.rep v (o.bw.valid v hvF) c hc
  rw[Ub (by rw[FZ,List.length_map])]
  refine h1.symm.trans ?_
  have:(colW (ws.map (h.R p)) c).getD i 0=(h.R p v).getD c 0:=by
   unfold colW
   rw[List.map_map,List.getD_eq_getElem?_getD,List.getElem?_map,hv];rfl
  exact congrArg (· % p) this.symm
 unfold cg at hu
 have e1:((onB h p L ws am).R p v).map (· % p)=(onB h p L ws am).R p v:=by
  conv=>rhs;rw[<-List.map_id ((onB h p L ws am).R p v)]
  exact List.map_congr_left fun x hx=>Int.emod_eq_of_lt ((o.okN.row v).2 x hx).1 ((o.okN.row v).2 x hx).2
 have e2:(BO ws.length i).map (· % p)=BO ws.length i:=by
  unfold BO
  rw[List.map_map]
  refine List.map_congr_left fun j _=>?_
  show (if j=i then (1:Int) else 0)%p=_
  split
  ·exact Int.emod_eq_of_lt (by omega) (by omega)
  ·simp
 rw[e1,e2]at hu
 exact hu
end
theorem BW.uniq {p L:Int}{d:Nat}{tb:List (List (List Int))}{f0:List Int}{F G K J:List (List Int)}(hL:0<L)(a:BW p L d tb f0 F F.length K)(b:BW p L d tb f0 G G.length J):K=J:=by
 have fresh:∀{F G K J:List (List Int)},BW p L d tb f0 F F.length K->BW p L d tb f0 G G.length J->∀(i:Nat) (u:List Int),K[i]?=some u->K.take i=J.take i->(∀v,J[i]?=some v->place L u<place L v)->False:=fun {F G K J} a b i u hu ht hlt=>by
  have hil:=(List.getElem?_eq_some_iff.mp hu).1
  have huK:=List.mem_of_getElem? hu
  have huF:u∈F:=by have:=a.kF u huK;rwa [List.take_length]at this
  have huG:u∈G:=by
   rcases a.kPre u huK with h|h
   ·rw[h];exact List.mem_of_getElem? b.f0
   ·have hne:u ≠ []\/u=[]:=by by_cases e:u=[]<;>simp[e]
    rcases hne with hne|he
    ·have hx:=Bl.mp (a.valid u huF) (u.getLast hne) (List.getLast_mem hne)
     have e:u=u.dropLast++[u.getLast hne]:=(List.dropLast_concat_getLast hne).symm
     have hd:u.dropLast∈K.take i:=by
      obtain⟨j,hj⟩:=List.mem_iff_getElem?.mp h
      have hjl:=(List.getElem?_eq_some_iff.mp hj).1
      have hW:isW L u.dropLast=true:=Bl.mpr fun y hy=>Bl.mp (a.valid u huF) y (List.dropLast_subset u hy)
      have hpl:place L u.dropLast<place L u:=by
       rw[show place L u=place L (u.dropLast++[u.getLast hne]) by rw[<-e],Gp]
       have h0:=YI hL hW
       have:place L u.dropLast*1<=place L u.dropLast*L:=Int.mul_le_mul_of_nonneg_left (by omega) h0
       omega
      have hji:j<i:=by
       refine Nat.lt_of_not_le fun hge=>?_
       rcases Nat.lt_or_eq_of_le hge with hlt' | heq
       ·have:=List.pairwise_iff_getElem.mp a.kSort i j hil hjl hlt'
        rw[(List.getElem?_eq_some_iff.mp hu).2,(List.getElem?_eq_some_iff.mp hj).2]at this
        omega
       ·subst heq
        have e2:u=u.dropLast:=Option.some.inj (hu.symm.trans hj)
        rw[<-e2]at hpl;omega
      refine List.mem_iff_getElem?.mpr ⟨j,?_⟩
      rw[List.getElem?_take,if_pos hji];exact hj
     rw[ht]at hd
     rw[e]
     exact b.kids _ (List.mem_of_mem_take hd) _ hx.1 hx.2
    ·rw[he];exact List.mem_of_getElem? b.f0
  obtain⟨j,hj,hs,hb⟩:=b.span u (by rwa [List.take_length])
  have hji:j<=i:=by
   refine Nat.le_of_not_lt fun hgt=>?_
   have hiJ:i<J.length:=by omega
   have hv:=hlt _ (List.getElem?_eq_getElem hiJ)
   have:=hb J[i] (List.mem_iff_getElem?.mpr ⟨i,by rw[List.getElem?_take,if_pos hgt];exact List.getElem?_eq_getElem hiJ⟩)
   omega
  refine a.free i hil ?_
  rw[ht,List.getD_eq_getElem?_getD,hu]
  have e:J.take i=J.take j++(J.take i).drop j:=by
   conv=>lhs;rw[<-List.take_append_drop j (J.take i)]
   rw[List.take_take,Nat.min_eq_left hji]
  rw[e,List.map_append]
  exact hs.app _
 have all:∀i:Nat,K.take i=J.take i:=fun i=>by
  induction i with
  |zero=>rfl
  |succ i ih=>
   rw[List.take_succ,List.take_succ,ih]
   congr 1
   cases hK:K[i]? with
   |none=>
    cases hJ:J[i]? with
    |none=>rfl
    |some v=>exact (fresh b a i v hJ ih.symm fun u hu=>by rw[hK]at hu;cases hu).elim
   |some u=>
    cases hJ:J[i]? with
    |none=>exact (fresh a b i u hK ih fun v hv=>by rw[hJ]at hv;cases hv).elim
    |some v=>
     have hu':=a.valid u (by have:=a.kF u (List.mem_of_getElem? hK);rwa [List.take_length]at this)
     have hv':=b.valid v (by have:=b.kF v (List.mem_of_getElem? hJ);rwa [List.take_length]at this)
     rcases Int.lt_trichotomy (place L u) (place L v) with h|h|h
     ·exact (fresh a b i u hK ih fun x hx=>by rw[hJ]at hx;cases hx;exact h).elim
     ·rw[YA hL hu' hv' h]
     ·exact (fresh b a i v hJ ih.symm fun x hx=>by rw[hK]at hx;cases hx;exact h).elim
 have:=all (max K.length J.length)
 rwa [List.take_of_length_le (Nat.le_max_left ..),List.take_of_length_le (Nat.le_max_right ..)]at this
theorem Ex_ {p:Int}{a b:List Int}(h:cg p a b)(ha:∀x∈a,0<=x/\x<p)(hb:∀x∈b,0<=x/\x<p):a=b:=by
 have key:∀{a:List Int},(∀x∈a,0<=x/\x<p)->a.map (· % p)=a:=fun {a} ha=>by
  conv=>rhs;rw[<-List.map_id a]
  exact List.map_congr_left fun x hx=>Int.emod_eq_of_lt (ha x hx).1 (ha x hx).2
 unfold cg at h
 rwa [key ha,key hb]at h
theorem OnB.uniq {h:Hs}{p:Int}{L:Nat}{F G ws vs:List (List Int)}{am bm:List (List (List Int))}(hL:0<L)(a:OnB h p L F ws am)(b:OnB h p L G vs bm):ws=vs/\am=bm:=by
 have e:=BW.uniq (by omega) a.bw b.bw
 subst e
 refine⟨rfl,?_⟩
 refine List.ext_getElem? fun i=>?_
 by_cases hi:i<ws.length
 ·have h1:i<am.length:=by rw[a.am.1];exact hi
  have h2:i<bm.length:=by rw[b.am.1];exact hi
  rw[List.getElem?_eq_getElem h1,List.getElem?_eq_getElem h2]
  congr 1
  obtain⟨l1,g1⟩:=a.am.2 i _ _ (List.getElem?_eq_getElem h1) (List.getElem?_eq_getElem hi)
  obtain⟨l2,g2⟩:=b.am.2 i _ _ (List.getElem?_eq_getElem h2) (List.getElem?_eq_getElem hi)
  refine List.ext_getElem (by rw[l1,l2]) fun x hx1 hx2=>?_
  have q1:=g1 x _ (List.getElem?_eq_getElem hx1)
  have q2:=g2 x _ (List.getElem?_eq_getElem hx2)
  exact Ex_ ((a.bw.indep a.pr).uniq (by rw[List.length_map];exact q1.1) (by rw[List.length_map];exact q2.1) fun c hc=>(q1.2.2.1 c hc).symm.trans (q2.2.2.1 c hc)) q1.2.1 q2.2.1
 ·rw[List.getElem?_eq_none (by rw[a.am.1];omega),List.getElem?_eq_none (by rw[b.am.1];omega)]
theorem Zg {p:Int}(hp:Pr p):∀a:Int,0<a->a<p->∃inv:Int,inv*a%p=1:=fun a a0 a1=>BB_ hp.1 a0 (hp.gcd a0 a1)
theorem Indep.size {p:Int}(hp:Pr p){n:Nat}{rows:List (List Int)}(h:Indep p n rows)(hl:∀r∈rows,r.length=n):rows.length<=n:=by
 have h1:=Y8 hp.1 (Zg hp) hl
 rw[h.chosen hp.1,List.length_range]at h1
 exact h1
theorem Indep.all {p:Int}(hp:Pr p){n:Nat}{rows:List (List Int)}(h:Indep p n rows)(hl:∀r∈rows,r.length=n)(hn:rows.length=n){v:List Int}(hv:v.length=n):Span p n rows fun i=>v.getD i 0:=by
 refine Classical.byContradiction fun hno=>?_
 have hi:Indep p n (rows++[v]):=Indep.of hp.1 (Zg hp) _ _ rfl fun i hi=>by
  simp only[List.length_append,List.length_singleton]at hi
  by_cases he:i=rows.length
  ·subst he
   rw[List.take_left' rfl,List.getD_eq_getElem?_getD,List.getElem?_append_right (Nat.le_refl _),Nat.sub_self]
   exact hno
  ·have hlt:i<rows.length:=by omega
   rw[List.take_append_of_le_length (by omega),List.getD_eq_getElem?_getD,List.getElem?_append_left hlt,List.getElem?_eq_getElem hlt]
   have h2:Indep p n (rows.take i++[rows[i]]):=by
    rw[List.take_append_getElem]
    rw[<-List.take_append_drop (i+1) rows]at h
    exact h.left
   exact h2.not hp.1
 have:=hi.size hp fun r hr=>by
  rcases List.mem_append.mp hr with h|h
  ·exact hl r h
  ·rw[List.mem_singleton.mp h];exact hv
 simp at this;omega
def tabW (h:Hs)(p:Int)(ws es:List (List Int)):List (List Int):=ws.map fun a=>es.map fun e=>h.W p (a++e)
theorem BF_ {h:Hs}{p:Int}{ws es:List (List Int)}{j:Nat}{e:List Int}(he:es[j]?=some e):colW (tabW h p ws es) j=ws.map fun a=>h.W p (a++e):=by
 unfold colW tabW
 rw[List.map_map]
 refine List.map_congr_left fun a _=>?_
 show (es.map fun e=>h.W p (a++e)).getD j 0=_
 rw[List.getD_eq_getElem?_getD,List.getElem?_map,he];rfl
theorem Zh {h:Hs}{p:Int}{L:Nat}(k:h.ok p L){ws es:List (List Int)}{e:List Int}(he:isW L e=true){cs:List Int}(hc:cs.length=ws.length):dotW cs (ws.map fun a=>h.W p (a++e))%p=dotW ((List.range h.d).map fun c=>dotW cs (colW (ws.map (h.R p)) c)) (h.back.R p e.reverse)%p:=by
 have key:dotW ((List.range h.d).map fun c=>dotW cs (colW (ws.map (h.R p)) c)) (h.back.R p e.reverse)=dotW cs ((ws.map (h.R p)).map fun r=>dotW (h.back.R p e.reverse) r):=GN (show (h.back.R p e.reverse).length=h.d from (k.back.row e.reverse).1) (ws.map (h.R p)) cs (fun r hr=>by
  obtain⟨v,_,rfl⟩:=List.mem_map.mp hr
  exact (k.row v).1) (by rw[List.length_map,hc])
 rw[key,List.map_map]
 refine cg.dot (cg.refl p _) (cg.map fun a _=>?_)
 rw[Hs.split k he]
 exact Int.emod_emod_of_dvd _ (Int.dvd_refl p)
theorem Ai_ {p:Int}{d:Nat}{f:Nat->Int}{v:List Int}(h:∀c:Nat,c<d->f c%p=0):dotW ((List.range d).map f) v%p=0:=by
 rw[Bq]
 refine Wj _ _ fun z hz=>?_
 obtain⟨c,hc,rfl⟩:=List.mem_map.mp hz
 exact h c (List.mem_range.mp hc)
theorem Zi {h:Hs}{p:Int}{L:Nat}(hp:Pr p)(k:h.ok p L){ws es:List (List Int)}(he:∀e∈es,isW L e=true)(hd:h.d<ws.length):¬ Indep p es.length (tabW h p ws es):=fun hi=>by
 have hno:¬ Indep p h.d (ws.map (h.R p)):=fun hi=>by
  have:=hi.size hp fun r hr=>by
   obtain⟨v,_,rfl⟩:=List.mem_map.mp hr
   exact (k.row v).1
  rw[List.length_map]at this;omega
 refine hno fun cs hc h0=>hi cs (by unfold tabW;rw[List.length_map];rwa [List.length_map]at hc) fun j hj=>?_
 rw[BF_ (List.getElem?_eq_getElem hj),Zh k (he _ (List.getElem_mem hj)) (es:=es) (by rwa [List.length_map]at hc)]
 exact Ai_ h0
theorem OnB.ex {h:Hs}{p:Int}{L:Nat}{F ws:List (List Int)}(ok:h.ok p L)(pr:Pr p)(bw:BW p L h.d h.t h.f F F.length ws)(sz:ws.length<=h.d):∃am,OnB h p L F ws am:=by
 obtain⟨bs,S,_⟩:=Y6 pr.1 (Zg pr) (Nat.le_add_right h.d (ws.map (h.R p)).length) (Bh (ws.map (h.R p))) (O9 fun r hr=>by
  obtain⟨v,_,rfl⟩:=List.mem_map.mp hr
  exact (ok.row v).1)
 refine⟨ws.map fun v=>(List.range L).map fun x:Nat=>(((Ay p bs (h.R p (v++[(x:Int)])++List.replicate (ws.map (h.R p)).length 0)).drop h.d).map fun y => -y%p),ok,pr,bw,⟨by rw[List.length_map],fun i a v ha hv=>?_⟩,sz⟩
 rw[List.getElem?_map,hv]at ha
 cases ha
 refine⟨by rw[List.length_map,List.length_range],fun x l hl=>?_⟩
 rw[List.getElem?_map]at hl
 cases hx:(List.range L)[x]? with
 |none=>rw[hx]at hl;cases hl
 |some y=>
  rw[hx]at hl
  cases hl
  have hxl:x<L:=by have:=(List.getElem?_eq_some_iff.mp hx).1;rwa [List.length_range]at this
  rw[List.getElem?_range hxl]at hx
  cases hx
  exact (BD_ pr ok bw S (bw.kids v (List.mem_of_getElem? hv) x (by omega) (by omega))).2
theorem Hs.back_back {h:Hs}{p:Int}{L:Nat}(k:h.ok p L):h.back.back=h:=by
 have:(h.t.map (EV h.d)).map (EV h.d)=h.t:=by
  rw[List.map_map]
  conv=>rhs;rw[<-List.map_id h.t]
  refine List.map_congr_left fun a ha=>?_
  have:=k.tt a ha
  exact WY ⟨this.1,this.2⟩
 show (⟨h.d,h.f,(h.t.map (EV h.d)).map (EV h.d),h.l⟩:Hs)=h
 rw[this]
section
variable {h B:Hs} {p:Int} {L:Nat} {F1 F2 F3 ws1 ws2 ws3:List (List Int)} {am1 am2:List (List (List Int))}
theorem MT {L:Int}{a b:List Int}(ha:isW L a=true)(hb:isW L b=true):isW L (a++b)=true:=Bl.mpr fun x hx=>by
 rcases List.mem_append.mp hx with h|h
 ·exact Bl.mp ha x h
 ·exact Bl.mp hb x h
theorem OnB.wsW (o:OnB h p L F1 ws1 am1){v:List Int}(hv:v∈ws1):isW L v=true:=o.bw.valid v (by have:=o.bw.kF v hv;rwa [List.take_length]at this)
theorem OnB.behind (o:OnB B p L F2 ws2 am2){e:List Int}(he:isW L e=true):(ws2.map fun a=>B.W p (a++e))=(onB B p L ws2 am2).back.R p e.reverse:=by
 have hp2:=o.ok.p2
 have hr:WfSum p L ws2.length _ _ _:=o.okN.back
 have hrow:=hr.row (e.reverse)
 refine List.ext_getElem (by rw[List.length_map];exact hrow.1.symm) fun i h1 h2=>?_
 rw[List.length_map]at h1
 rw[List.getElem_map]
 have hW:isW L (ws2[i]++e)=true:=MT (o.wsW (List.getElem_mem h1)) he
 rw[<-o.worth hW,Hs.split o.okN he,o.unit (List.getElem?_eq_getElem h1)]
 have e1:dotW ((onB B p L ws2 am2).back.R p e.reverse) (BO ws2.length i)=((onB B p L ws2 am2).back.R p e.reverse).getD i 0:=ME _ hrow.1
 have e2:=hrow.2 _ (List.getElem_mem h2)
 have e3:((onB B p L ws2 am2).back.R p e.reverse).getD i 0=((onB B p L ws2 am2).back.R p e.reverse)[i]:=by rw[List.getD_eq_getElem?_getD,List.getElem?_eq_getElem h2];rfl
 rw[e1,e3]
 exact Int.emod_eq_of_lt e2.1 e2.2
theorem Aj_ (pr:Pr p)(o1:OnB h.back p L F1 ws1 am1)(hB:B=(onB h.back p L ws1 am1).back)(o2:OnB B p L F2 ws2 am2)(b3:BW p L ws2.length (onB B p L ws2 am2).back.t (onB B p L ws2 am2).back.f F3 F3.length ws3)(s3:ws3.length<=ws2.length):Indep p ws3.length (tabW B p ws2 (ws3.map List.reverse)):=by
 obtain⟨am3,o3⟩:=OnB.ex (h:=(onB B p L ws2 am2).back) o2.okN.back pr b3 s3
 intro cs hc h0
 have hcl:cs.length=ws2.length:=by unfold tabW at hc;rwa [List.length_map]at hc
 have all:∀e:List Int,isW L e=true->dotW cs (ws2.map fun a=>B.W p (a++e))%p=0:=fun e he=>by
  have c1:cg p ((onB B p L ws2 am2).back.R p e.reverse) _:=Vu (d:=ws2.length) (o3.ok.row e.reverse).1 (o3.rep e.reverse (Iz he))
  have k3:((onB (onB B p L ws2 am2).back p L ws3 am3).R p e.reverse).length=ws3.length:=(o3.okN.row e.reverse).1
  rw[o2.behind he,Bq,cg.dot c1 (cg.refl p cs),GN hcl (ws3.map ((onB B p L ws2 am2).back.R p)) _ o3.rowsL (by rw[List.length_map];exact k3),List.map_map]
  refine Wj _ _ fun z hz=>?_
  obtain⟨v,hv,rfl⟩:=List.mem_map.mp hz
  obtain⟨j,hj⟩:=List.mem_iff_getElem?.mp hv
  have hjl:=(List.getElem?_eq_some_iff.mp hj).1
  have h1:=h0 j hjl
  rw[BF_ (e:=v.reverse) (by rw[List.getElem?_map,hj];rfl),o2.behind (Iz (o3.wsW hv)),List.reverse_reverse]at h1
  exact h1
 refine (o2.bw.indep pr) cs (by rw[List.length_map,hcl]) fun i hi=>?_
 have hil:i<ws1.length:=by rw[hB]at hi;exact hi
 have hw1:=o1.wsW (List.getElem_mem hil)
 have h1:=all ws1[i].reverse (Iz hw1)
 rw[Zh (es:=[]) o2.ok (Iz hw1) hcl,List.reverse_reverse]at h1
 have e1:B.back.R p ws1[i]=BO ws1.length i:=by
  rw[hB,Hs.back_back o1.okN]
  exact o1.unit (List.getElem?_eq_getElem hil)
 have hBd:B.d=ws1.length:=by rw[hB];rfl
 have e2:dotW ((List.range B.d).map fun c=>dotW cs (colW (ws2.map (B.R p)) c)) (BO ws1.length i)=_:=ME _ (by rw[List.length_map,List.length_range,hBd])
 rw[e1,e2,List.getD_eq_getElem?_getD,List.getElem?_map,List.getElem?_range hi]at h1
 exact h1
end
theorem byW {h:Hs}{p:Int}{L:Nat}{F1 ws1:List (List Int)}{am1:List (List (List Int))}(ok:h.ok p L)(o1:OnB h.back p L F1 ws1 am1){v:List Int}(hv:isW L v=true):(onB h.back p L ws1 am1).back.W p v=h.W p v:=by
 have h1:=Hs.back_W o1.okN (Iz hv)
 rw[List.reverse_reverse]at h1
 rw[h1,o1.worth (Iz hv),Hs.back_W ok hv]
theorem Zj {h B:Hs}{p:Int}{L:Nat}{F1 F2 F3 ws1 ws2 ws3:List (List Int)}{am1 am2:List (List (List Int))}(ok:h.ok p L)(pr:Pr p)(o1:OnB h.back p L F1 ws1 am1)(hB:B=(onB h.back p L ws1 am1).back)(o2:OnB B p L F2 ws2 am2)(b3:BW p L ws2.length (onB B p L ws2 am2).back.t (onB B p L ws2 am2).back.f F3 F3.length ws3)(s3:ws3.length<=ws2.length):ws3.length=ws2.length/\Indep p ws2.length (tabW h p ws2 (ws3.map List.reverse)):=by
 have h1:=Aj_ pr o1 hB o2 b3 s3
 have hv:∀v∈ws3,isW L v=true:=fun v hv=>b3.valid v (by have:=b3.kF v hv;rwa [List.take_length]at this)
 have e:tabW B p ws2 (ws3.map List.reverse)=tabW h p ws2 (ws3.map List.reverse):=by
  unfold tabW
  refine List.map_congr_left fun a ha=>List.map_congr_left fun e he=>?_
  obtain⟨v,hv',rfl⟩:=List.mem_map.mp he
  rw[hB]
  exact byW ok o1 (MT (o2.wsW ha) (Iz (hv v hv')))
 rw[e]at h1
 have h2:=h1.size pr fun r hr=>by
  obtain⟨a,_,rfl⟩:=List.mem_map.mp hr
  rw[List.length_map,List.length_map]
 have h3:ws3.length=ws2.length:=by unfold tabW at h2;rw[List.length_map]at h2;omega
 rw[h3]at h1
 exact⟨h3,h1⟩
theorem AS.off66 {K:PySem.W.Frag}{H:Hp}{q:Addr}{xs ys zs:List V}{rows:List (List Int)}(hq:H q=some (.lst zs))(h:AS K H xs rows):AS K (upd H q (.lst ys)) xs rows:=⟨h.1,fun i r hi=>by
 obtain⟨t,a,b⟩:=h.2 i r hi
 exact⟨t,a,AO hq b⟩⟩
theorem Hv.off66 {K:PySem.W.Frag}{H:Hp}{q:Addr}{zs ys xs:List V}{tabs:List (List (List Int))}(hq:H q=some (.lst xs))(h:Hv K H zs tabs):Hv K (upd H q (.lst ys)) zs tabs:=⟨h.1,fun i tb hi=>by
 obtain⟨u,us,a,b,c⟩:=h.2 i tb hi
 exact⟨u,us,a,AO hq b,c.off66 hq⟩⟩
def Km (K:PySem.W.Frag)(H:Hp)(h:Addr)(p:Int)(L:Nat)(hs:Hs):Prop:=SumH K H h p L hs.f hs.t hs.l
def Zk (K:PySem.W.Frag):Sp:=fun vs H Q _=>∃(h:Addr) (p:Int) (L:Nat) (hs:Hs),vs=[.ref h]/\Pr p/\Km K H h p L hs/\hs.ok p L/\L<=6/\hs.d<=16/\∀q F ws am H',Same H H'->OnB hs p L F ws am->Km K H' q p L (onB hs p L ws am)->Q (.ref q) H'
theorem Vv {f:Addr}{fd:FuncData}(F:Fun K "on_basis" "on_basis" DZ f fd)(T:Txt mg)
  (Z:Exs K mg C_AskError C_BadWord C_NoInverse)
  {FA:Addr} {FC:FuncData} (Kh:FnOk P w K mg base CX0 1 FA FC ["size","place"] (Qq K)) (HX:Fun K "unit" "unit" J9 FA FC) (Ki:Binds K FC ["size","place"] []) (Kj:mg "unit"=some (.ref FA))
  {FO:Addr} {Hb:FuncData} (Lq:FnOk P w K mg base (CXe P w) 6 FO Hb ["house","word"] (Qu K C_BadWord)) (IA:Fun K "worth" "worth" HI FO Hb) (Lr:Binds K Hb ["house","word"] []) (Ls:mg "worth"=some (.ref FO))
  {Dq:Addr} {Hc:FuncData} (IB:FnOk P w K mg base CX0 6 Dq Hc ["house"] (T6 K)) (EZ:Fun K "sums_basis" "sums_basis" CY Dq Hc) (IC:Binds K Hc ["house"] []) (ID:mg "sums_basis"=some (.ref Dq))
  : FnOk P w K mg base CX0 7 f fd ["house"] (Zk K):=by
 refine F.ok Ey (fun vs H Q E h=>?_) (fun cdv A outer s H vs Q E hr h=>?_)
 ·obtain⟨h,p,L,hs,rfl,_⟩:=h;rfl
 ·obtain⟨h,p,L,hs,rfl,hp,hh,ok,hL6,hd16,k⟩:=h
  have hl:=Al
  obtain⟨tf,tt,tl,h1,h2,h3,h4⟩:=id hh
  refine⟨_,(Ad (Ai (i:=1) Ey.nd rfl (Or.inl rfl) (Ah IB (hr.mono (by decide)) rfl ID EZ.kp IC .nil Az (Aa (pv 0) Ab)))
   (Ad (Ai (i:=2) Ey.nd rfl (Or.inl rfl) (As Aj (by rfl) T.len PySem.boot_len (Aa (Ax Au (pv 1) Ag (fun _ _=>rfl)) Ab)))
   (Ad (Ai (i:=3) Ey.nd rfl (Or.inl rfl) (Fo Ab))
   (Ad (CM PassesOwn.never rfl (A0 rfl T.range (Aa (Ax Au (pv 0) Ag (fun _ _=>rfl)) Ab)) (Ak (i:=4) Ey.nd rfl (Or.inr rfl))
   (Af (DO (J5 PySem.F.plainAttrs_list PySem.F.slot_list_append PySem.F.type_list_append BS (pv 3) (Aa (Aw Ap rfl T.tuple PyProof.Rows.boot_tuple (Aa (BN rfl (Ck rfl) (cp:=LU) ⟨⟨rfl,rfl⟩,True.intro⟩ (Fm (Ax Au (pv 1) Ag (fun _ _=>rfl))) (fun _ _ _ _=>(Ak (i:=0) M5 rfl (Or.inl rfl))) (fun _ _ _ _=>BV) (fun _ _ _ _=>(Aw (GI (K:=K) rfl) rfl T.tuple PyProof.Rows.boot_tuple (Aa (Ax (P0 (K:=K) rfl) (pv 0) (pv 1) (fun _ _=>rfl)) Ab)))) Ab)) Ab)))))
   (Ad (Ai (i:=5) Ey.nd rfl (Or.inl rfl) (Aw Ap rfl T.tuple PyProof.Rows.boot_tuple (Aa (BN rfl (Ck rfl) (cp:=LV) ⟨⟨rfl,rfl⟩,True.intro⟩ (Fm (Ax Au (pv 1) Ag (fun _ _=>rfl))) (fun _ _ _ _=>(Ak (i:=0) M6 rfl (Or.inl rfl))) (fun _ _ _ _=>BV) (fun _ _ _ _=>(Ah Lq (hr.mono (by decide)) rfl Ls IA.kp Lr .nil (Vb (P:=P) (w:=w)) (Aa (pv 1) (Aa (pv 0) Ab))))) Ab)))
   (Af (Aq (Cj (Aa (Ax Au (pv 0) Ag (fun _ _=>rfl)) (Aa (Ax Au (pv 0) Ag (fun _ _=>rfl)) (Aa (Ah Kh (hr.mono (by decide)) rfl Kj HX.kp Ki .nil Az (Aa (pv 2) (Aa Ag Ab))) (Aa (Aw Ap rfl T.tuple PyProof.Rows.boot_tuple (Aa (pv 3) Ab)) (Aa (pv 5) Ab))))))))))))),?_⟩
  walk_at "rd"
  refine⟨h,p,L,hs.d,hs.f,hs.l,hs.t,rfl,hp,hh,ok,hL6,hd16,fun b lw lm zs xs F ws am H1 s1 hb hlw hW hlm hAD hAF bw hwd=>?_⟩
  have o1:OnB hs p L F ws am:=⟨ok,hp,bw,hAF,hwd⟩
  show (fun x H1=>_) (V.ref b) H1
  walk_at "rd"
  have hzl:zs.length=ws.length:=hW.1
  have hxl:xs.length=ws.length:=hAD.1.trans hAF.1
  refine⟨_,hb,_,rfl,lw,rfl,zs,.inl (SqL.of hlw),by omega,fun pt hpt=>?_⟩
  have sP:=Same.new hpt (o:=.lst [])
  have uP:upd H1 pt (.lst []) pt=some (.lst []):=Ac
  generalize upd H1 pt (.lst [])=H2 at sP uP ⊢
  have s2:=s1.trans sP
  refine⟨_,s2.seqT h1,_,rfl,(L:Int),rfl,by omega,by omega,?_⟩
  rw[show ((L:Int)).toNat=L by omega]
  obtain⟨Pv,hPv⟩:∃Pv:Nat->St->Hp->Prop,∀i σ' H',Pv i σ' H'↔(∃(ys:List V) (o4:Option V),Same H1 H'/\H' pt=some (.lst ys)/\Hv K H' ys (((List.range L).map fun x=>am.map fun a=>a.getD x []).take i)/\σ'=[some (.ref h),some (.ref b),some (.int zs.length),some (.ref pt),o4,none]):=⟨_,fun _ _ _=>Iff.rfl⟩
  refine forR Pv ((hPv _ _ _).mpr ⟨[],none,sP,uP,Hv.nil,rfl⟩) (fun i σ' H' hi h'=>?_) (fun σ' H' h'=>?_)
  ·obtain⟨ys,o4,g1,g2,g3,rfl⟩:=(hPv _ _ _).mp h'
   rw[Int.zero_add]
   walk_at "rd"
   refine⟨.inl ⟨rfl,_,SqL.of g2⟩,_,g1.seqT hb,_,rfl,lm,rfl,⟨_,SqL.of (g1 _ _ hlm)⟩,U9 (xs:=xs) (fun j us σ2 H3=>Same H' H3/\AS K H3 us ((am.map fun a=>a.getD i []).take j)/\∃o,σ2=[o,some (.int i)]) ⟨Same.refl _,⟨rfl,fun i r hi=>by simp at hi⟩,none,rfl⟩ (by omega) (fun j us σ2 H3 hj h2=>⟨SqL.of (h2.1 _ _ (g1 _ _ hlm)),by rw[h2.2.1.1,List.length_take];omega⟩) (fun j x us σ2 H3 hx h2=>?_) (fun us σ2 H3 h2 D hD=>?_)⟩
   ·obtain⟨s3,hy,o,rfl⟩:=h2
    have hjx:=(List.getElem?_eq_some_iff.mp hx).1
    have hja:j<am.length:=by rw[<-hAD.1];exact hjx
    have hjw:j<ws.length:=by rw[<-hxl];exact hjx
    obtain⟨c,vs,_,e1,e2,e3,e4⟩:=hAD.2 j _ (List.getElem?_eq_getElem hja)
    obtain⟨b1,_⟩:=hAF.2 j _ _ (List.getElem?_eq_getElem hja) (List.getElem?_eq_getElem hjw)
    obtain⟨e,_,f1,f2⟩:=e4 i _ (List.getElem?_eq_getElem (show i<am[j].length by omega))
    rw[hx]at e1
    cases e1
    walk_at "rd"
    refine⟨vs,SqL.of (s3 _ _ (g1 _ _ e2)),.ref e,Yr (by omega) (by rw[show ((i:Int)).toNat=i by omega];exact f1),e,rfl,_,.inl ⟨SqL.of (s3 _ _ (g1 _ _ f2)),fun l hlN=>⟨s3.newT hlN,?_,_,rfl⟩⟩⟩
    rw[List.take_add_one,List.getElem?_map,List.getElem?_eq_getElem hja]
    refine AS.snoc (hy.mono (Same.new hlN)) ?_
    show SqT K _ l ((am[j].getD i []).map V.int)
    rw[show am[j].getD i []=am[j][i] by rw[List.getD_eq_getElem?_getD,List.getElem?_eq_getElem (show i<am[j].length by omega)];rfl]
    exact SqT.of Ac
   ·obtain⟨s3,hy,o,rfl⟩:=h2
    rw[hAD.1,<-List.length_map (f:=fun a=>a.getD i []),List.take_length]at hy
    refine⟨D,rfl,_,.inl ⟨SqL.of Ac,fun l hlN=>?_⟩⟩
    have sD:=(Same.new hD (o:=.lst us)).newT hlN (o:=.tup us)
    have sE:=s3.trans sD
    have ul:upd (upd H3 D (.lst us)) l (.tup us) l=some (.tup us):=Ac
    have hy5:=hy.mono sD
    generalize upd (upd H3 D (.lst us)) l (.tup us)=H5 at sD sE ul hy5 ⊢
    have q5:=sE _ _ g2
    have hyl:ys.length<=L:=by rw[g3.1,List.length_take,List.length_map,List.length_range];omega
    refine⟨ys,q5,by omega,(hPv _ _ _).mpr ⟨_,_,(g1.trans sE).over hpt,Ac,?_,rfl⟩⟩
    rw[List.take_add_one,List.getElem?_map,List.getElem?_range hi]
    exact Hv.off66 q5 ((g3.mono sE).snoc (SqT.of ul) hy5)
  ·obtain⟨ys,o4,g1,g2,g3,rfl⟩:=(hPv _ _ _).mp h'
   walk_at "rd"
   refine⟨_,g1.seqT hb,_,rfl,lw,rfl,⟨_,SqL.of (g1 _ _ hlw)⟩,U9 (xs:=zs) (fun j us σ2 H3=>Same H' H3/\us=((ws.map (hs.W p)).take j).map V.int/\∃o,σ2=[o,some (.ref h)]) ⟨Same.refl _,rfl,none,rfl⟩ (by omega) (fun j us σ2 H3 hj h2=>⟨SqL.of (h2.1 _ _ (g1 _ _ hlw)),by rw[h2.2.1,List.length_map,List.length_take];omega⟩) (fun j x us σ2 H3 hx h2=>?_) (fun us σ2 H3 h2 D hD=>?_)⟩
   ·obtain⟨s3,rfl,o,rfl⟩:=h2
    have hjx:=(List.getElem?_eq_some_iff.mp hx).1
    have hjw:j<ws.length:=by omega
    obtain⟨t,e1,e2⟩:=hW.2 j _ (List.getElem?_eq_getElem hjw)
    rw[hx]at e1
    cases e1
    walk_at "rd"
    have hwd':isW L ws[j]=true:=o1.wsW (List.getElem_mem hjw)
    have s13:=g1.trans s3
    have hlen:ws[j].length<=ws.length:=bw.short _ (by have:=bw.kF _ (List.getElem_mem hjw);rwa [List.take_length]at this)
    refine⟨h,t,p,L,hs.d,hs.f,hs.l,ws[j],hs.t,rfl,(hh.mono (s1.trans s13)),ok,SqT.of (s13 _ _ e2),by omega,fun _ H4 s4=>⟨s3.trans s4,?_,_,rfl⟩,fun z=>by rw[hwd']at z;cases z⟩
    rw[List.take_add_one,List.getElem?_map,List.getElem?_eq_getElem hjw,List.map_append];rfl
   ·obtain⟨s3,rfl,o,rfl⟩:=h2
    rw[show (ws.map (hs.W p)).take zs.length=ws.map (hs.W p) by rw[hzl,<-List.length_map (f:=hs.W p),List.take_length]]
    refine⟨D,rfl,_,.inl ⟨SqL.of Ac,fun l hlN=>?_⟩⟩
    have sD:=(Same.new hD (o:=.lst ((ws.map (hs.W p)).map V.int))).newT hlN (o:=.tup ((ws.map (hs.W p)).map V.int))
    have sE:=s3.trans sD
    have ul:upd (upd H3 D (.lst ((ws.map (hs.W p)).map V.int))) l (.tup ((ws.map (hs.W p)).map V.int)) l=some (.tup ((ws.map (hs.W p)).map V.int)):=Ac
    generalize upd (upd H3 D (.lst ((ws.map (hs.W p)).map V.int))) l (.tup ((ws.map (hs.W p)).map V.int))=H5 at sD sE ul ⊢
    have s15:=s1.trans (g1.trans sE)
    refine⟨_,s15.seqT h1,_,rfl,_,s15.seqT h1,_,rfl,?_⟩
    rw[hzl]
    refine⟨ws.length,0,rfl,by omega,fun q0 H6 s6 hq0=>?_⟩
    have g2':=s6 _ _ (sE _ _ g2)
    refine⟨ys,.inl ⟨SqL.of g2',fun l1 hl1=>⟨by omega,fun pz hpz=>?_⟩⟩⟩
    have s7:=Same.new hl1 (o:=.tup ys)
    have u7:upd H6 l1 (.tup ys) l1=some (.tup ys):=Ac
    generalize upd H6 l1 (.tup ys)=H7 at s7 u7 hpz ⊢
    have s8:=Same.new hpz (o:=.tup [V.int p,V.int L,V.ref q0,V.ref l1,V.ref l])
    have u8:upd H7 pz (.tup [V.int p,V.int L,V.ref q0,V.ref l1,V.ref l]) pz=some (.tup [V.int p,V.int L,V.ref q0,V.ref l1,V.ref l]):=Ac
    generalize upd H7 pz (.tup [V.int p,V.int L,V.ref q0,V.ref l1,V.ref l])=H8 at s8 u8 ⊢
    have s78:=s7.trans s8
    have hT:((List.range L).map fun x=>am.map fun a=>a.getD x []).take L=(List.range L).map fun x=>am.map fun a=>a.getD x []:=List.take_of_length_le (by simp)
    rw[hT]at g3
    exact k pz F ws am H8 (s15.trans (s6.trans s78)) o1 ⟨q0,l1,l,SqT.of u8,s78.seqT hq0,SqT.of ((s6.trans s78) _ _ ul),(g3.mono (sE.trans (s6.trans s78))).tabs (SqT.of (s8 _ _ u7))⟩
theorem Km.mono {K:PySem.W.Frag}{H H':Hp}{h:Addr}{p:Int}{L:Nat}{hs:Hs}(x:Km K H h p L hs)(s:Same H H'):Km K H' h p L hs:=SumH.mono x s
def Zl (K:PySem.W.Frag):Sp:=fun vs H Q _=>∃(h:Addr) (p:Int) (L:Nat) (hs:Hs),vs=[.ref h]/\Pr p/\Km K H h p L hs/\hs.ok p L/\L<=6/\hs.d<=16/\∀q F ws am H',Same H H'->OnB hs.back p L F ws am->Km K H' q p L (onB hs.back p L ws am).back->Q (.ref q) H'
theorem Uc {f:Addr}{fd:FuncData}(F:Fun K "by_worths" "by_worths" CZ f fd)(T:Txt mg)
  (Z:Exs K mg C_AskError C_BadWord C_NoInverse)
  {BJ:Addr} {Dr:FuncData} (DU:FnOk P w K mg base CX0 2 BJ Dr ["house"] (Qw K)) (Cz:Fun K "sums_back" "sums_back" CW BJ Dr) (DV:Binds K Dr ["house"] []) (DW:mg "sums_back"=some (.ref BJ))
  {Cg:Addr} {DX:FuncData} (Fh:FnOk P w K mg base CX0 7 Cg DX ["house"] (Zk K)) (D9:Fun K "on_basis" "on_basis" DZ Cg DX) (Fi:Binds K DX ["house"] []) (Fj:mg "on_basis"=some (.ref Cg))
  : FnOk P w K mg base CX0 8 f fd ["house"] (Zl K):=by
 refine F.ok TQ (fun vs H Q E h=>?_) (fun cdv A outer s H vs Q E hr h=>?_)
 ·obtain⟨h,p,L,hs,rfl,_⟩:=h;rfl
 ·obtain⟨h,p,L,hs,rfl,hp,hh,ok,hL6,hd16,k⟩:=h
  have hl:=Al
  refine⟨_,(Af (Aq (Ah DU (hr.mono (by decide)) rfl DW Cz.kp DV .nil Az (Aa (Ah Fh (hr.mono (by decide)) rfl Fj D9.kp Fi .nil Az (Aa (Ah DU (hr.mono (by decide)) rfl DW Cz.kp DV .nil Az (Aa (pv 0) Ab)) Ab)) Ab)))),?_⟩
  walk_at "rd"
  refine⟨h,p,L,hs.d,hs.f,hs.l,hs.t,rfl,hh,ok,by omega,fun b H1 s1 hb=>?_⟩
  refine⟨b,p,L,hs.back,rfl,hp,hb,ok.back,hL6,hd16,fun q F ws am H2 s2 o hq=>?_⟩
  have h16:ws.length<=16:=Nat.le_trans o.sz hd16
  exact⟨q,p,L,ws.length,_,_,_,rfl,hq,o.okN,by omega,fun b2 H3 s3 hb2=>k b2 F ws am H3 (s1.trans (s2.trans s3)) o hb2⟩
def Pl (K:PySem.W.Frag):Sp:=fun vs H Q _=>∃(h:Addr) (p:Int) (L:Nat) (hs:Hs),vs=[.ref h]/\Pr p/\Km K H h p L hs/\hs.ok p L/\L<=6/\hs.d<=16/\∀q F ws am F2 ws2 am2 H',Same H H'->OnB hs.back p L F ws am->OnB (onB hs.back p L ws am).back p L F2 ws2 am2->Km K H' q p L (onB (onB hs.back p L ws am).back p L ws2 am2)->Q (.ref q) H'
theorem QJ {f:Addr}{fd:FuncData}(F:Fun K "sums_least" "sums_least" C0 f fd)(T:Txt mg)
  (Z:Exs K mg C_AskError C_BadWord C_NoInverse)
  {Cg:Addr} {DX:FuncData} (Fh:FnOk P w K mg base CX0 7 Cg DX ["house"] (Zk K)) (D9:Fun K "on_basis" "on_basis" DZ Cg DX) (Fi:Binds K DX ["house"] []) (Fj:mg "on_basis"=some (.ref Cg))
  {BK:Addr} {Ds:FuncData} (EE:FnOk P w K mg base CX0 8 BK Ds ["house"] (Zl K)) (Dt:Fun K "by_worths" "by_worths" CZ BK Ds) (EF:Binds K Ds ["house"] []) (EG:mg "by_worths"=some (.ref BK))
  : FnOk P w K mg base CX0 9 f fd ["house"] (Pl K):=by
 refine F.ok Qd (fun vs H Q E h=>?_) (fun cdv A outer s H vs Q E hr h=>?_)
 ·obtain⟨h,p,L,hs,rfl,_⟩:=h;rfl
 ·obtain⟨h,p,L,hs,rfl,hp,hh,ok,hL6,hd16,k⟩:=h
  refine⟨_,(Af (Aq (Ah Fh (hr.mono (by decide)) rfl Fj D9.kp Fi .nil Az (Aa (Ah EE (hr.mono (by decide)) rfl EG Dt.kp EF .nil Az (Aa (pv 0) Ab)) Ab)))),?_⟩
  walk_at "rd"
  refine⟨h,p,L,hs,rfl,hp,hh,ok,hL6,hd16,fun q F ws am H1 s1 o hq=>?_⟩
  exact⟨q,p,L,_,rfl,hp,hq,o.okN.back,hL6,Nat.le_trans o.sz hd16,fun q2 F2 ws2 am2 H2 s2 o2 hq2=>k q2 F ws am F2 ws2 am2 H2 (s1.trans s2) o o2 hq2⟩
def QK (K:PySem.W.Frag):Sp:=fun vs H Q _=>∃(h:Addr) (p:Int) (L:Nat) (hs:Hs),vs=[.ref h]/\Pr p/\Km K H h p L hs/\hs.ok p L/\L<=6/\hs.d<=16/\∀q zs F ws am F2 ws2 H',Same H H'->H' q=some (.lst zs)->Cn K H' zs ws2->OnB hs.back p L F ws am->BW p L ws.length (onB hs.back p L ws am).back.t (onB hs.back p L ws am).back.f F2 F2.length ws2->ws2.length<=ws.length->Q (.ref q) H'
theorem Oe {f:Addr}{fd:FuncData}(F:Fun K "sums_access" "sums_access" BY f fd)(T:Txt mg)
  (Z:Exs K mg C_AskError C_BadWord C_NoInverse)
  {AJ:Addr} {A8:FuncData} (B2:FnOk P w K mg base CX0 4 AJ A8 ["house"] (MG K)) (Bi:Fun K "basis_rows" "basis_rows" BX AJ A8) (B3:Binds K A8 ["house"] []) (B4:mg "basis_rows"=some (.ref AJ))
  {BK:Addr} {Ds:FuncData} (EE:FnOk P w K mg base CX0 8 BK Ds ["house"] (Zl K)) (Dt:Fun K "by_worths" "by_worths" CZ BK Ds) (EF:Binds K Ds ["house"] []) (EG:mg "by_worths"=some (.ref BK))
  : FnOk P w K mg base CX0 9 f fd ["house"] (QK K):=by
 refine F.ok N6 (fun vs H Q E h=>?_) (fun cdv A outer s H vs Q E hr h=>?_)
 ·obtain⟨h,p,L,hs,rfl,_⟩:=h;rfl
 ·obtain⟨h,p,L,hs,rfl,hp,hh,ok,hL6,hd16,k⟩:=h
  have hl:=Al
  refine⟨_,(Af (Aq (Aw (HE rfl) rfl T.list PyProof.Rows.boot_list (Aa (Ah B2 (hr.mono (by decide)) rfl B4 Bi.kp B3 .nil Az (Aa (Ah EE (hr.mono (by decide)) rfl EG Dt.kp EF .nil Az (Aa (pv 0) Ab)) Ab)) Ab)))),?_⟩
  walk_at "rd"
  refine⟨h,p,L,hs,rfl,hp,hh,ok,hL6,hd16,fun q F ws am H1 s1 o hq=>?_⟩
  refine⟨q,p,L,ws.length,_,_,_,rfl,hp,hq,o.okN.back,hL6,Nat.le_trans o.sz hd16,fun d kvs F2 ws2 H2 s2 hd _ rd bw hwd=>?_⟩
  refine⟨d,rfl,kvs,.inl hd,fun l rs hlN hrl hrs=>?_⟩
  have hw:=rd.1.words (K:=K) hrl hrs
  exact k l rs F ws am F2 ws2 _ ((s1.trans s2).newT hlN) Ac (hw.mono (TK.of (Same.new hlN))) o bw hwd
def Pm (K:PySem.W.Frag):Sp:=fun vs H Q _=>∃(h:Addr) (p:Int) (L:Nat) (hs:Hs),vs=[.ref h]/\Pr p/\Km K H h p L hs/\hs.ok p L/\L<=6/\hs.d<=16/\∀q zs F ws H',Same H H'->H' q=some (.lst zs)->Cn K H' zs (ws.map List.reverse)->BW p L hs.d hs.back.t hs.back.f F F.length ws->ws.length<=hs.d->Q (.ref q) H'
theorem Ak_ {f:Addr}{fd:FuncData}(F:Fun K "tails" "tails" JH f fd)(T:Txt mg)
  (Z:Exs K mg C_AskError C_BadWord C_NoInverse)
  {BJ:Addr} {Dr:FuncData} (DU:FnOk P w K mg base CX0 2 BJ Dr ["house"] (Qw K)) (Cz:Fun K "sums_back" "sums_back" CW BJ Dr) (DV:Binds K Dr ["house"] []) (DW:mg "sums_back"=some (.ref BJ))
  {AJ:Addr} {A8:FuncData} (B2:FnOk P w K mg base CX0 4 AJ A8 ["house"] (MG K)) (Bi:Fun K "basis_rows" "basis_rows" BX AJ A8) (B3:Binds K A8 ["house"] []) (B4:mg "basis_rows"=some (.ref AJ))
  : FnOk P w K mg base CX0 5 f fd ["least"] (Pm K):=by
 refine F.ok Aa_ (fun vs H Q E h=>?_) (fun cdv A outer s H vs Q E hr h=>?_)
 ·obtain⟨h,p,L,hs,rfl,_⟩:=h;rfl
 ·obtain⟨h,p,L,hs,rfl,hp,hh,ok,hL6,hd16,k⟩:=h
  have hl:=Al
  refine⟨_,(Af (Aq (BN rfl (Ck rfl) (cp:=TV) True.intro (ZR (Ah B2 (hr.mono (by decide)) rfl B4 Bi.kp B3 .nil Az (Aa (Ah DU (hr.mono (by decide)) rfl DW Cz.kp DV .nil Az (Aa (pv 0) Ab)) Ab))) (fun _ _ _ _=>(Ak (i:=0) TX rfl (Or.inl rfl))) (fun _ _ _ _=>BV) (fun _ _ _ _=>(TN (K:=K) rfl rfl rfl T.tuple rfl T.reversed (pv 0)))))),?_⟩
  walk_at "rd"
  refine⟨h,p,L,hs.d,hs.f,hs.l,hs.t,rfl,hh,ok,by omega,fun b H1 s1 hb=>?_⟩
  refine⟨b,p,L,hs.d,_,_,_,rfl,hp,hb,ok.back,hL6,hd16,fun d kvs F2 ws2 H2 s2 hd hdN rd bw hwd=>?_⟩
  refine⟨d,rfl,kvs,hd,fun o=>?_⟩
  have hkl:=rd.1.len
  have hdH:=s1.none hdN
  have ud:upd H2 d (.frz o (.dT kvs)) d=some (.frz o (.dT kvs)):=Ac
  have s3:=(s1.trans s2).over hdH (o:=.frz o (.dT kvs))
  generalize upd H2 d (.frz o (.dT kvs))=H3 at ud s3 ⊢
  refine Eo_ (kvs:=kvs) (fun i ys σ2 H4=>Same H H4/\H4 d=some (.frz o (.dT kvs))/\Cn K H4 ys ((ws2.map List.reverse).take i)/\∃o',σ2=[o']) ⟨s3,ud,Cn.nil,none,rfl⟩ (by omega) (fun i ys σ2 H4 hi h=>⟨h.2.1,by rw[h.2.2.1.1,List.length_take];omega⟩) (fun i k' v b ys σ2 H4 hi h hb'=>?_) (fun ys σ2 H4 h D hD=>?_)
  ·obtain⟨g1,g2,g3,o',rfl⟩:=h
   have hik:=(List.getElem?_eq_some_iff.mp hi).1
   have hiw:i<ws2.length:=by omega
   have e:(kvs.map (·.1))[i]?=(ws2.map wkey)[i]?:=by rw[show kvs.map (·.1)=ws2.map wkey from rd.1]
   rw[List.getElem?_map,List.getElem?_map,hi,List.getElem?_eq_getElem hiw]at e
   have e:k'=wkey ws2[i]:=Option.some.inj e
   rw[e,P5]at hb'
   walk_at "rd"
   refine⟨_,SqT.of hb',fun q hq=>⟨g1.newT hq,Same.new hq _ _ g2,?_,_,rfl⟩⟩
   rw[List.take_add_one,List.getElem?_map,List.getElem?_eq_getElem hiw]
   refine Cn.snoc (g3.mono (TK.new hq)) ?_
   rw[List.map_reverse];exact Ac
  ·obtain⟨g1,g2,g3,o',rfl⟩:=h
   rw[hkl,<-List.length_map (f:=List.reverse),List.take_length]at g3
   exact k D ys F2 ws2 _ (g1.newT hD) Ac (g3.mono (TK.new hD)) bw hwd
def AccR (hs:Hs)(p:Int)(L:Nat)(ws:List (List Int)):Prop:=∃F1 ws1 am1 F2,OnB hs.back p L F1 ws1 am1/\BW p L ws1.length (onB hs.back p L ws1 am1).back.t (onB hs.back p L ws1 am1).back.f F2 F2.length ws/\ws.length<=ws1.length
theorem AccR.uniq {hs:Hs}{p:Int}{L:Nat}{ws vs:List (List Int)}(hL:0<L)(a:AccR hs p L ws)(b:AccR hs p L vs):ws=vs:=by
 obtain⟨F1,ws1,am1,F2,o1,b1,_⟩:=a
 obtain⟨G1,vs1,bm1,G2,o2,b2,_⟩:=b
 obtain⟨rfl,rfl⟩:=OnB.uniq hL o1 o2
 exact BW.uniq (by omega) b1 b2
structure Pap (hs:Hs)(p:Int)(L:Nat)(ws ends gs:List (List Int)):Prop where
 acc:AccR hs p L ws
 wW:∀v∈ws,isW L v=true/\v.length<=16
 n16:ws.length<=16
 len:ends.length=ws.length
 eW:∀e∈ends,isW L e=true/\e.length<ws.length
 ind:Indep p ws.length (tabW hs p ws ends)
 gl:gs.length=ws.length
 gs:∀(k:Nat) (g:List Int),gs[k]?=some g->g.length=ws.length/\(∀x∈g,0<=x/\x<p)/\E7 p (tabW hs p ws ends) g ws.length=BO ws.length k
theorem Ey_ {p:Int}{n k:Nat}{rows:List (List Int)}(hp:Pr p)(hi:Indep p n rows)(hl:∀r∈rows,r.length=n)(hn:rows.length=n){bs:List (Nat×List Int)}(S:Seen p (n+rows.length) n (Bh rows) bs):Span p n rows (fun i=>(BO n k).getD i 0)/\∃g:List Int,((Ay p bs (BO n k++List.replicate rows.length 0)).drop n).map (fun y => -y%p)=g/\g.length=n/\(∀x∈g,0<=x/\x<p)/\E7 p rows g n=BO n k:=by
 have hp1:=hp.1
 have hul:(BO n k).length=n:=by unfold BO;simp
 have hsp:=hi.all hp hl hn hul
 obtain⟨cs,hc,he⟩:=id hsp
 have he2:∀i:Nat,i<n->(BO n k).getD i 0%p=dotW (cs.map (· % p)) (colW rows i)%p:=fun i hi=>by
  rw[he i hi]
  refine cg.dot ?_ (cg.refl p _)
  unfold cg
  rw[List.map_map]
  exact (List.map_congr_left fun y _=>by show y%p=(y%p)%p;rw[Int.emod_emod_of_dvd _ (Int.dvd_refl p)])
 have hin:∀x∈cs.map (· % p),0<=x/\x<p:=fun x hx=>by
  obtain⟨y,_,rfl⟩:=List.mem_map.mp hx
  exact⟨Int.emod_nonneg _ (by omega),Int.emod_lt_of_pos _ (by omega)⟩
 refine⟨hsp,cs.map (· % p),BA_ (show 0<p by omega) hl hi S hul (by rw[List.length_map,hc]) hin he2,by rw[List.length_map,hc,hn],hin,?_⟩
 unfold E7 BO
 refine List.map_congr_left fun c hc=>?_
 have hc:=List.mem_range.mp hc
 rw[<-he2 c hc,Zf hc]
 split
 ·exact Int.emod_eq_of_lt (by omega) (by omega)
 ·simp
theorem BW.shorter {p L:Int}{d:Nat}{tb:List (List (List Int))}{f:List Int}{F ws:List (List Int)}(hL:0<L)(b:BW p L d tb f F F.length ws){v:List Int}(hv:v∈ws):v.length<ws.length:=by
 have:=b.short _ (b.kids v hv 0 (by omega) hL)
 rw[List.length_append]at this
 simp at this;omega
theorem BW.wsW {p L:Int}{d:Nat}{tb:List (List (List Int))}{f:List Int}{F ws:List (List Int)}(b:BW p L d tb f F F.length ws){v:List Int}(hv:v∈ws):isW L v=true:=b.valid v (by have:=b.kF v hv;rwa [List.take_length]at this)
def Pn (K:PySem.W.Frag):Sp:=fun vs H Q _=>∃(h:Addr) (p:Int) (L:Nat) (hs:Hs),vs=[.ref h]/\Pr p/\Km K H h p L hs/\hs.ok p L/\1<=L/\L<=6/\hs.d<=16/\∀q la le lu zs es us ws ends gs H',Same H H'->SqT K H' q [.ref la,.ref le,.ref lu]->H' la=some (.lst zs)->Cn K H' zs ws->H' le=some (.lst es)->Cn K H' es ends->H' lu=some (.lst us)->us.length=gs.length->(∀(i:Nat) (g:List Int),gs[i]?=some g->∃e,us[i]?=some (.ref e)/\H' e=some (.lst (g.map V.int)))->Pap hs p L ws ends gs->Q (.ref q) H'
theorem QL {f:Addr}{fd:FuncData}(F:Fun K "sums_paper" "sums_paper" C1 f fd)(T:Txt mg)
  (Z:Exs K mg C_AskError C_BadWord C_NoInverse)
  {FA:Addr} {FC:FuncData} (Kh:FnOk P w K mg base CX0 1 FA FC ["size","place"] (Qq K)) (HX:Fun K "unit" "unit" J9 FA FC) (Ki:Binds K FC ["size","place"] []) (Kj:mg "unit"=some (.ref FA))
  {AB:Addr} {A7:FuncData} (Bz:FnOk P w K mg base CX0 5 AB A7 ["p","rows","some","size"] (Cv_ K)) (A2:Fun K "factors_of_each" "factors_of_each" A1 AB A7) (BA:Binds K A7 ["p","rows","some","size"] []) (BB:mg "factors_of_each"=some (.ref AB))
  {FO:Addr} {Hb:FuncData} (Lq:FnOk P w K mg base (CXe P w) 6 FO Hb ["house","word"] (Qu K C_BadWord)) (IA:Fun K "worth" "worth" HI FO Hb) (Lr:Binds K Hb ["house","word"] []) (Ls:mg "worth"=some (.ref FO))
  {Ba:Addr} {Ca:FuncData} (DE:FnOk P w K mg base CX0 9 Ba Ca ["house"] (QK K)) (B5:Fun K "sums_access" "sums_access" BY Ba Ca) (DF:Binds K Ca ["house"] []) (DG:mg "sums_access"=some (.ref Ba))
  {Du:Addr} {Hd:FuncData} (IE:FnOk P w K mg base CX0 9 Du Hd ["house"] (Pl K)) (E1:Fun K "sums_least" "sums_least" C0 Du Hd) (IF:Binds K Hd ["house"] []) (IG:mg "sums_least"=some (.ref Du))
  {JR:Addr} {QM:FuncData} (Vw:FnOk P w K mg base CX0 5 JR QM ["least"] (Pm K)) (Ny:Fun K "tails" "tails" JH JR QM) (Vx:Binds K QM ["least"] []) (Vy:mg "tails"=some (.ref JR))
  : FnOk P w K mg base CX0 10 f fd ["house"] (Pn K):=by
 refine F.ok DD (fun vs H Q E h=>?_) (fun cdv A outer s H vs Q E hr h=>?_)
 ·obtain⟨h,p,L,hs,rfl,_⟩:=h;rfl
 ·obtain⟨h,p,L,hs,rfl,hp,hh,ok,hL1,hL6,hd16,k⟩:=h
  have hl:=Al
  obtain⟨tf,tt,tl,h1,h2,h3,h4⟩:=id hh
  refine⟨_,(Ad (Ai (i:=1) DD.nd rfl (Or.inl rfl) (Ah DE (hr.mono (by decide)) rfl DG B5.kp DF .nil Az (Aa (pv 0) Ab)))
   (Ad (Ai (i:=2) DD.nd rfl (Or.inr rfl) (Ah Vw (hr.mono (by decide)) rfl Vy Ny.kp Vx .nil Az (Aa (Ah IE (hr.mono (by decide)) rfl IG E1.kp IF .nil Az (Aa (pv 0) Ab)) Ab)))
   (Ad (Ai (i:=3) DD.nd rfl (Or.inr rfl) (As Aj (by rfl) T.len PySem.boot_len (Aa (pv 1) Ab)))
   (Ad (ZT (i:=4) DD.nd rfl rfl rfl (Vf rfl) (cp:=Jq) ⟨⟨rfl,rfl⟩,⟨⟨rfl,rfl⟩,True.intro⟩⟩ (Fm (pv 1)) (fun _ _ _ _=>(Ak (i:=0) K9 rfl (Or.inr rfl))) (fun _ _ _ _=>BV) (fun _ _ _ _=>(Aw (GI (K:=K) rfl) rfl T.tuple PyProof.Rows.boot_tuple (Aa (BN rfl (Ck rfl) (cp:=Jr) ⟨⟨rfl,rfl⟩,⟨⟨rfl,rfl⟩,True.intro⟩⟩ (ZX (K:=K) rfl (pv 2)) (fun _ _ _ _=>(Ak (i:=0) La rfl (Or.inl rfl))) (fun _ _ _ _=>BV) (fun _ _ _ _=>(Ah Lq (hr.mono (by decide)) rfl Ls IA.kp Lr .nil (Vb (P:=P) (w:=w)) (Aa (pv 1) (Aa (An (HH (K:=K) rfl) (pv 2) (pv 0)) Ab))))) Ab))))
   (Ad (PU (i:=5) DD.nd rfl rfl rfl (Ck rfl) (cp:=Js) ⟨⟨rfl,rfl⟩,True.intro⟩ (A0 rfl T.range (Aa (pv 3) Ab)) (fun _ _ _ _=>(Ak (i:=0) Lb rfl (Or.inl rfl))) (fun _ _ _ _=>BV) (fun _ _ _ _=>(Ah Kh (hr.mono (by decide)) rfl Kj HX.kp Ki .nil Az (Aa (pv 1) (Aa (pv 0) Ab)))))
   (Af (Aq (Cj (Aa (pv 1) (Aa (pv 2) (Aa (Ah Bz (hr.mono (by decide)) rfl BB A2.kp BA .nil Az (Aa (Ax Au (pv 0) Ag (fun _ _=>rfl)) (Aa (pv 4) (Aa (pv 5) (Aa (pv 3) Ab))))) Ab))))))))))),?_⟩
  walk_at "rd"
  refine⟨h,p,L,hs,rfl,hp,hh,ok,hL6,hd16,fun la zs F1 ws1 am1 F2 ws H1 s1 hla hW o1 b2 hw1=>?_⟩
  show (fun x H1=>_) (V.ref la) H1
  walk_at "rd"
  refine⟨h,p,L,hs,rfl,hp,hh.mono s1,ok,hL6,hd16,fun m F1' ws1' am1' F2' ws2' am2 H2 s2 o1' o2 hm=>?_⟩
  obtain⟨rfl,rfl⟩:=OnB.uniq (by omega) o1 o1'
  obtain rfl:ws=ws2':=BW.uniq (by omega) b2 o2.bw
  refine⟨m,p,L,_,rfl,hp,hm,o2.okN,hL6,Nat.le_trans hw1 (Nat.le_trans o1.sz hd16),fun le es F3 ws3 H3 s3 hle hE b3 hw3=>?_⟩
  obtain⟨hlen,hind⟩:=Zj ok hp o1 rfl o2 b3 hw3
  have h16:ws.length<=16:=Nat.le_trans hw1 (Nat.le_trans o1.sz hd16)
  show (fun x H1=>_) (V.ref le) H3
  walk_at "rd"
  have s13:=s1.trans (s2.trans s3)
  have hla3:=(s2.trans s3) _ _ hla
  have hzl:zs.length=ws.length:=hW.1
  have hel:es.length=ws.length:=by rw[hE.1,List.length_map,hlen]
  have hW3:=hW.mono (TK.of (s2.trans s3))
  obtain⟨ends,hends⟩:∃ends,ends=ws3.map List.reverse:=⟨_,rfl⟩
  rw[<-hends]at hE hind
  have hee:ends.length=ws.length:=by rw[hends,List.length_map,hlen]
  have heW:∀e∈ends,isW L e=true/\e.length<ws.length:=fun e he=>by
   rw[hends]at he
   obtain⟨v,hv,rfl⟩:=List.mem_map.mp he
   refine⟨Iz (b3.wsW hv),?_⟩
   rw[List.length_reverse,<-hlen];exact b3.shorter (by omega) hv
  have hvW:∀v∈ws,isW L v=true/\v.length<=16:=fun v hv=>⟨b2.wsW hv,by have:=b2.shorter (by omega) hv;omega⟩
  refine⟨zs,.inl (SqL.of hla3),⟨_,SqL.of hla3⟩,U9 (xs:=zs) (fun j ys σ2 H4=>Same H3 H4/\AS K H4 ys ((tabW hs p ws ends).take j)/\∃o,σ2=[o,some (.ref h),some (.ref le)]) ⟨Same.refl _,⟨rfl,fun i r hi=>by simp at hi⟩,none,rfl⟩ (by omega) (fun j ys σ2 H4 hj h=>⟨SqL.of (h.1 _ _ hla3),by rw[h.2.1.1,List.length_take];omega⟩) (fun j x ys σ2 H4 hx h=>?_) (fun ys σ2 H4 h D hD=>?_)⟩
  ·obtain⟨s4,hy,o,rfl⟩:=h
   have hjx:=(List.getElem?_eq_some_iff.mp hx).1
   have hjw:j<ws.length:=by omega
   obtain⟨t,e1,e2⟩:=hW3.2 j _ (List.getElem?_eq_getElem hjw)
   rw[hx]at e1
   cases e1
   obtain⟨v,hv⟩:∃v,v=ws[j]:=⟨_,rfl⟩
   have hvv:=hvW ws[j] (List.getElem_mem hjw)
   rw[<-hv]at e2 hvv
   walk_at "rd"
   have hle4:=s4 _ _ hle
   refine⟨⟨_,SqL.of hle4⟩,U9 (xs:=es) (fun i us σ3 H5=>Same H4 H5/\us=((ends.map fun e=>hs.W p (v++e)).take i).map V.int/\∃o,σ3=[o,some (.ref h),some (.ref t)]) ⟨Same.refl _,rfl,none,rfl⟩ (by omega) (fun i us σ3 H5 hi h=>⟨SqL.of (h.1 _ _ hle4),by rw[h.2.1,List.length_map,List.length_take];omega⟩) (fun i x us σ3 H5 hx h=>?_) (fun us σ3 H5 h D hD=>?_)⟩
   ·obtain⟨s5,rfl,o,rfl⟩:=h
    have hix:=(List.getElem?_eq_some_iff.mp hx).1
    have hie:i<ends.length:=by omega
    obtain⟨t2,e3,e4⟩:=hE.2 i _ (List.getElem?_eq_getElem hie)
    rw[hx]at e3
    cases e3
    obtain⟨q1,q2⟩:=heW _ (List.getElem_mem hie)
    walk_at "rd"
    have e2':=(s4.trans s5) _ _ e2
    have e4':=(s4.trans s5) _ _ e4
    have hap:isW L (v++ends[i])=true:=MT hvv.1 q1
    refine DH.ofS e2' e4' (by rw[List.length_map,List.length_map];omega) fun q H6 s6 hq=>?_
    rw[<-List.map_append]at hq
    refine⟨h,q,p,L,hs.d,hs.f,hs.l,v++ends[i],hs.t,rfl,hh.mono (s13.trans ((s4.trans s5).trans s6)),ok,SqT.of hq,by rw[List.length_append];omega,fun _ H7 s7=>⟨s5.trans (s6.trans s7),?_,_,rfl⟩,fun z=>by rw[hap]at z;cases z⟩
    rw[List.take_add_one,List.getElem?_map,List.getElem?_eq_getElem hie,List.map_append];rfl
   ·obtain⟨s5,rfl,o,rfl⟩:=h
    rw[show (ends.map fun e=>hs.W p (v++e)).take es.length=ends.map fun e=>hs.W p (v++e) by rw[hel,<-hee,<-List.length_map (f:=fun e=>hs.W p (v++e)),List.take_length]]
    refine⟨D,rfl,_,.inl ⟨SqL.of Ac,fun l hlN=>?_⟩⟩
    refine⟨(s4.trans s5).trans ((Same.new hD).newT hlN),?_,_,rfl⟩
    unfold tabW
    rw[List.take_add_one,List.getElem?_map,List.getElem?_eq_getElem hjw,<-hv]
    exact AS.snoc (hy.mono (s5.trans ((Same.new hD).newT hlN))) (SqT.of Ac)
  ·obtain⟨s4,hy,o,rfl⟩:=h
   have hTl:(tabW hs p ws ends).length=ws.length:=by unfold tabW;rw[List.length_map]
   rw[hzl,<-hTl,List.take_length]at hy
   have sD:=s4.newT hD (o:=.lst ys)
   have uD:upd H4 D (.lst ys) D=some (.lst ys):=Ac
   have hyD:=hy.mono (Same.new hD (o:=.lst ys))
   generalize upd H4 D (.lst ys)=H5 at sD uD hyD ⊢
   refine⟨by omega,by omega,?_⟩
   rw[hzl,show ((ws.length:Int)).toNat=ws.length by omega]
   refine L8 (fun j us σ2 H6=>Same H5 H6/\AS K H6 us ((List.range j).map fun i=>BO ws.length i)/\∃o,σ2=[o,some (.int ws.length)]) ⟨Same.refl _,⟨rfl,fun i r hi=>by simp at hi⟩,none,rfl⟩ (by omega) (fun j us σ2 H6 hj h=>by rw[h.2.1.1,List.length_map,List.length_range];exact Nat.le_refl _) (fun j us σ2 H6 hj h=>?_) (fun us σ2 H6 h E hE'=>?_)
   ·obtain⟨s6,hu,o,rfl⟩:=h
    rw[Int.zero_add]
    walk_at "rd"
    refine⟨ws.length,j,rfl,by omega,fun q H7 s7 hq=>⟨s6.trans s7,?_,_,rfl⟩⟩
    rw[List.range_succ,List.map_append]
    exact AS.snoc (hu.mono s7) hq
   ·obtain⟨s6,hu,o,rfl⟩:=h
    have sE:=s6.newT hE' (o:=.lst us)
    have uE:upd H6 E (.lst us) E=some (.lst us):=Ac
    have huE:=hu.mono (Same.new hE' (o:=.lst us))
    generalize upd H6 E (.lst us)=H7 at sE uE huE ⊢
    have s07:=s13.trans (sD.trans sE)
    refine⟨_,s07.seqT h1,_,rfl,p,false,D,E,ws.length,ys,us,tabW hs p ws ends,(List.range ws.length).map fun i=>BO ws.length i,rfl,hp,SqL.of (sE _ _ uD),hyD.mono sE,fun r hr=>?_,SqL.of uE,huE,fun r hr=>?_,by omega,by omega,by rw[List.length_map,List.length_range];omega,fun l vs bs H8 s8 hlN hl8 sn tf'=>⟨by omega,fun q hq=>?_⟩⟩
    ·obtain⟨a,_,rfl⟩:=List.mem_map.mp hr
     rw[List.length_map,hee]
    ·obtain⟨a,_,rfl⟩:=List.mem_map.mp hr
     unfold BO;simp
    ·have s9:=Same.new hq (o:=.tup [V.ref la,V.ref le,V.ref l])
     have u9:upd H8 q (.tup [V.ref la,V.ref le,V.ref l]) q=some (.tup [V.ref la,V.ref le,V.ref l]):=Ac
     generalize upd H8 q (.tup [V.ref la,V.ref le,V.ref l])=H9 at s9 u9 ⊢
     have s39:=(sD.trans sE).trans (s8.trans s9)
     have hTr:∀r∈tabW hs p ws ends,r.length=ws.length:=fun r hr=>by
      obtain⟨a,_,rfl⟩:=List.mem_map.mp hr
      rw[List.length_map,hee]
     have fk:=fun k=>Ey_ (k:=k) hp hind hTr hTl sn
     obtain⟨gf,hgf⟩:∃gf:Nat->List Int,gf=fun k=>((Ay p bs (BO ws.length k++List.replicate (tabW hs p ws ends).length 0)).drop ws.length).map (fun y => -y%p):=⟨_,rfl⟩
     have hg:∀k,(gf k).length=ws.length/\(∀x∈gf k,0<=x/\x<p)/\E7 p (tabW hs p ws ends) (gf k) ws.length=BO ws.length k:=fun k=>by
      obtain⟨_,g,z1,z2⟩:=fk k
      have e:gf k=g:=by rw[hgf];exact z1
      rw[e];exact z2
     have hgat:∀(i:Nat) (g:List Int),((List.range ws.length).map gf)[i]?=some g->i<ws.length/\g=gf i:=fun i g hi=>by
      have hil:i<ws.length:=by have:=(List.getElem?_eq_some_iff.mp hi).1;simpa using this
      rw[List.getElem?_map,List.getElem?_range hil]at hi
      exact⟨hil,(Option.some.inj hi).symm⟩
     refine k q la le l zs es vs ws ends ((List.range ws.length).map gf) H9 (s13.trans s39) (SqT.of u9) (s39 _ _ hla3) (hW3.mono (TK.of s39)) (s39 _ _ hle) (hE.mono (TK.of s39)) (s9 _ _ hl8) (by rw[tf'.1,List.length_map,List.length_map]) (fun i g hi=>?_) ⟨⟨F1,ws1,am1,F2,o1,b2,hw1⟩,hvW,h16,hee,heW,hind,by rw[List.length_map,List.length_range],fun i g hi=>?_⟩
     ·obtain⟨hil,rfl⟩:=hgat i g hi
      rcases tf'.2 i (BO ws.length i) (by rw[List.getElem?_map,List.getElem?_range hil];rfl) with ⟨_,c,c1,c2⟩|⟨z,_⟩
      ·exact⟨c,c1,by rw[hgf];exact s9 _ _ c2⟩
      ·exact absurd (fk i).1 z
     ·obtain⟨hil,rfl⟩:=hgat i g hi
      exact hg i
def Po (K:PySem.W.Frag):Sp:=fun vs H Q _=>∃(h la le:Addr) (p:Int) (L:Nat) (hs:Hs) (zs es:List V) (ws ends:List (List Int)),vs=[.ref h,.ref la,.ref le]/\Km K H h p L hs/\hs.ok p L/\H la=some (.lst zs)/\Cn K H zs ws/\H le=some (.lst es)/\Cn K H es ends/\(∀v∈ws,isW L v=true/\v.length<=16)/\(∀v∈ends,isW L v=true/\v.length<=16)/\ws.length<=16/\ends.length<=16/\∀q ys H',Same H H'->H' q=some (.lst ys)->AS K H' ys (tabW hs p ws ends)->Q (.ref q) H'
theorem QN {f:Addr}{fd:FuncData}(F:Fun K "_law_table" "_law_table" C8 f fd)(T:Txt mg)
  (Z:Exs K mg C_AskError C_BadWord C_NoInverse)
  {Dv:Addr} {He:FuncData} (IH:FnOk P w K mg base CX0 3 Dv He ["house","word"] (Ua K)) (E2:Fun K "_law_worth" "_law_worth" C7 Dv He) (II:Binds K He ["house","word"] []) (IJ:mg "_law_worth"=some (.ref Dv))
  : FnOk P w K mg base CX0 4 f fd ["house","words","tails_v"] (Po K):=by
 refine F.ok GL (fun vs H Q E h=>?_) (fun cdv A outer s H vs Q E hr h=>?_)
 ·obtain⟨h,la,le,p,L,hs,zs,es,ws,ends,rfl,_⟩:=h;rfl
 ·obtain⟨h,la,le,p,L,hs,zs,es,ws,ends,rfl,hh,ok,hla,hW,hle,hE,hvW,heW,hw16,he16,k⟩:=h
  have hl:=Al
  refine⟨_,(Ad (Ai (i:=3) GL.nd rfl (Or.inl rfl) (Fo Ab))
   (Ad (CM PassesOwn.never rfl (Fm (pv 1)) (Ak (i:=4) GL.nd rfl (Or.inr rfl))
   (Af (DO (J5 PySem.F.plainAttrs_list PySem.F.slot_list_append PySem.F.type_list_append BS (pv 3) (Aa (Aw Ap rfl T.tuple PyProof.Rows.boot_tuple (Aa (BN rfl (Ck rfl) (cp:=Jy) ⟨⟨rfl,rfl⟩,⟨⟨rfl,rfl⟩,True.intro⟩⟩ (Fm (pv 2)) (fun _ _ _ _=>(Ak (i:=0) Lh rfl (Or.inl rfl))) (fun _ _ _ _=>BV) (fun _ _ _ _=>(Ah IH (hr.mono (by decide)) rfl IJ E2.kp II .nil Az (Aa (pv 1) (Aa (An (HH (K:=K) rfl) (pv 2) (pv 0)) Ab))))) Ab)) Ab)))))
   (Af (Aq (pv 3))))),?_⟩
  walk_at "rd"
  have hzl:zs.length=ws.length:=hW.1
  have hel:es.length=ends.length:=hE.1
  refine⟨by omega,fun pt hpt=>?_⟩
  have sP:=Same.new hpt (o:=.lst [])
  have uP:upd H pt (.lst []) pt=some (.lst []):=Ac
  generalize upd H pt (.lst [])=H1 at sP uP ⊢
  obtain⟨Pv,hPv⟩:∃Pv:Nat->St->Hp->Prop,∀i σ' H',Pv i σ' H'↔(∃(ys:List V) (o4:Option V),Same H H'/\H' pt=some (.lst ys)/\AS K H' ys ((tabW hs p ws ends).take i)/\σ'=[some (.ref h),some (.ref la),some (.ref le),some (.ref pt),o4]):=⟨_,fun _ _ _=>Iff.rfl⟩
  refine⟨⟨_,SqL.of (sP _ _ hla)⟩,forL (xs:=zs) Pv ((hPv _ _ _).mpr ⟨[],none,sP,uP,⟨rfl,fun i r hi=>by simp at hi⟩,rfl⟩) (fun i σ' H' _ h'=>by obtain⟨_,_,z,_⟩:=(hPv _ _ _).mp h';exact SqL.of (z _ _ hla)) (fun i x σ' H' hx h'=>?_) (fun σ' H' h'=>?_)⟩
  ·obtain⟨ys,o4,g1,g2,g3,rfl⟩:=(hPv _ _ _).mp h'
   have hix:=(List.getElem?_eq_some_iff.mp hx).1
   have hiw:i<ws.length:=by omega
   obtain⟨t,e1,e2⟩:=hW.2 i _ (List.getElem?_eq_getElem hiw)
   rw[hx]at e1
   cases e1
   obtain⟨v,hv⟩:∃v,v=ws[i]:=⟨_,rfl⟩
   have hvv:=hvW ws[i] (List.getElem_mem hiw)
   rw[<-hv]at e2 hvv
   walk_at "rd"
   have hle4:=g1 _ _ hle
   refine⟨.inl ⟨rfl,_,SqL.of g2⟩,⟨_,SqL.of hle4⟩,U9 (xs:=es) (fun j us σ3 H5=>Same H' H5/\us=((ends.map fun e=>hs.W p (v++e)).take j).map V.int/\∃o,σ3=[o,some (.ref h),some (.ref t)]) ⟨Same.refl _,rfl,none,rfl⟩ (by omega) (fun j us σ3 H5 hi h=>⟨SqL.of (h.1 _ _ hle4),by rw[h.2.1,List.length_map,List.length_take];omega⟩) (fun j x us σ3 H5 hx h=>?_) (fun us σ3 H5 h D hD=>?_)⟩
   ·obtain⟨s5,rfl,o,rfl⟩:=h
    have hjx:=(List.getElem?_eq_some_iff.mp hx).1
    have hje:j<ends.length:=by omega
    obtain⟨t2,e3,e4⟩:=hE.2 j _ (List.getElem?_eq_getElem hje)
    rw[hx]at e3
    cases e3
    obtain⟨q1,q2⟩:=heW _ (List.getElem_mem hje)
    walk_at "rd"
    have e2':=(g1.trans s5) _ _ e2
    have e4':=(g1.trans s5) _ _ e4
    have hap:isW L (v++ends[j])=true:=MT hvv.1 q1
    refine DH.ofS e2' e4' (by rw[List.length_map,List.length_map];omega) fun q H6 s6 hq=>?_
    rw[<-List.map_append]at hq
    refine⟨h,q,p,L,hs.d,hs.f,hs.l,v++ends[j],hs.t,rfl,hh.mono ((g1.trans s5).trans s6),ok,SqT.of hq,hap,fun H7 s7=>⟨s5.trans (s6.trans s7),?_,_,rfl⟩⟩
    rw[List.take_add_one,List.getElem?_map,List.getElem?_eq_getElem hje,List.map_append,Bq];rfl
   ·obtain⟨s5,rfl,o,rfl⟩:=h
    rw[show (ends.map fun e=>hs.W p (v++e)).take es.length=ends.map fun e=>hs.W p (v++e) by rw[hel,<-List.length_map (f:=fun e=>hs.W p (v++e)),List.take_length]]
    refine⟨D,rfl,_,.inl ⟨SqL.of Ac,fun l hlN=>?_⟩⟩
    obtain⟨rw',hrw⟩:∃r,r=ends.map fun e=>hs.W p (v++e):=⟨_,rfl⟩
    rw[<-hrw]at hlN ⊢
    have sD:=(Same.new hD (o:=.lst (rw'.map V.int))).newT hlN (o:=.tup (rw'.map V.int))
    have sE:=s5.trans sD
    have ul:upd (upd H5 D (.lst (rw'.map V.int))) l (.tup (rw'.map V.int)) l=some (.tup (rw'.map V.int)):=Ac
    generalize upd (upd H5 D (.lst (rw'.map V.int))) l (.tup (rw'.map V.int))=H6 at sD sE ul ⊢
    have q5:=sE _ _ g2
    have hyl:ys.length<=ws.length:=by rw[g3.1,List.length_take];unfold tabW;rw[List.length_map];omega
    refine⟨ys,q5,by omega,(hPv _ _ _).mpr ⟨_,_,(g1.trans sE).over hpt,Ac,?_,rfl⟩⟩
    unfold tabW at g3 ⊢
    rw[List.take_add_one,List.getElem?_map,List.getElem?_eq_getElem hiw,<-hv]
    show AS K _ _ (_++[ends.map fun e=>hs.W p (v++e)])
    rw[<-hrw]
    exact AS.off66 q5 (AS.snoc (g3.mono sE) (SqT.of ul))
  ·obtain⟨ys,o4,g1,g2,g3,rfl⟩:=(hPv _ _ _).mp h'
   walk_at "rd"
   have hTl:(tabW hs p ws ends).length=ws.length:=by unfold tabW;rw[List.length_map]
   rw[hzl,<-hTl,List.take_length]at g3
   exact k pt ys H' g1 g2 g3
def Pp (K:PySem.W.Frag):Sp:=fun vs H Q _=>∃(le:Addr) (L:Nat) (n:Nat) (es:List V) (ends:List (List Int)),vs=[.ref le,.int L,.int n]/\H le=some (.lst es)/\Cn K H es ends/\ends.length=n/\n<=16/\(∀v∈ends,isW L v=true/\v.length<n)/\Q (.bl true) H
theorem Kn {f:Addr}{fd:FuncData}(F:Fun K "_law_tails_good" "_law_tails_good" Bd f fd)(T:Txt mg)
  (Z:Exs K mg C_AskError C_BadWord C_NoInverse)
  {AV:Addr} {BL:FuncData} (CJ:FnOk P w K mg base CX0 2 AV BL ["found","letters"] (JQ K)) (By:Fun K "_law_is_word" "_law_is_word" Bx AV BL) (CK:Binds K BL ["found","letters"] []) (CL:mg "_law_is_word"=some (.ref AV))
  : FnOk P w K mg base CX0 3 f fd ["tails_v","letters","many"] (Pp K):=by
 refine F.ok FY (fun vs H Q E h=>?_) (fun cdv A outer s H vs Q E hr h=>?_)
 ·obtain⟨le,L,n,es,ends,rfl,_⟩:=h;rfl
 ·obtain⟨le,L,n,es,ends,rfl,hle,hE,hn,hn16,heW,k⟩:=h
  have hl:=Al
  refine⟨_,(Ad (Et (PW.pt (L7 (Fl (Eu (As Cm rfl T.isinstance PyProof.Rows.boot_isinstance (Aa (pv 0) (Aa (Hw (v:=.ty "list") rfl T.list PyProof.Rows.boot_list rfl) Ab))))) (J1 (Bc U2 (As Aj (by rfl) T.len PySem.boot_len (Aa (pv 0) Ab)) (pv 2) (BM _)))))
   (Af (Aq Gn))
   Bb)
   (Ad (CM PassesOwn.never rfl (Fm (pv 0)) (Ak (i:=3) FY.nd rfl (Or.inl rfl))
   (Af (Et (PW.pt (L7 (Fl (Eu (Ah CJ (hr.mono (by decide)) rfl CL By.kp CK .nil Az (Aa (pv 3) (Aa (pv 1) Ab))))) (J1 (Bc BQ_ (As Aj (by rfl) T.len PySem.boot_len (Aa (pv 3) Ab)) (pv 2) (BM _)))))
   (Af (Aq Gn))
   Bb)))
   (Af (Aq Gn)))),?_⟩
  walk_at "rd"
  have hel:=hE.1
  refine⟨_,_,.lst (SqL.of hle),LO,_,GD,?_⟩
  rw[if_neg (by decide)]
  refine⟨_,.inl (SqL.of hle),?_⟩
  rw[if_neg (by rw[hel,hn];simp)]
  obtain⟨Pv,hPv⟩:∃Pv:Nat->St->Hp->Prop,∀m σ' H',Pv m σ' H'↔(H'=H/\∃o,σ'=[some (.ref le),some (.int L),some (.int n),o]):=⟨_,fun _ _ _=>Iff.rfl⟩
  refine⟨⟨_,SqL.of hle⟩,forL (xs:=es) Pv ((hPv _ _ _).mpr ⟨rfl,none,rfl⟩) (fun i σ' H' _ h'=>by obtain⟨rfl,_⟩:=(hPv _ _ _).mp h';exact SqL.of hle) (fun i x σ' H' hx h'=>?_) (fun σ' H' h'=>?_)⟩
  ·obtain⟨rfl,o,rfl⟩:=(hPv _ _ _).mp h'
   obtain⟨t,v,e0,rfl,e2⟩:=hE.at hx
   have hv:=heW v (List.mem_of_getElem? e0)
   walk_at "rd"
   refine⟨t,L,v,rfl,SqT.of e2,hv.1,_,rfl,?_⟩
   rw[if_neg (by decide)]
   refine⟨_,.inr (SqT.of e2),?_⟩
   rw[List.length_map,if_neg (by simp;omega)]
   exact (hPv _ _ _).mpr ⟨rfl,_,rfl⟩
  ·obtain⟨rfl,o,rfl⟩:=(hPv _ _ _).mp h'
   walk_at "rd"
   exact k
theorem Al_ {n i:Nat}(hi:i<n):(List.replicate i (V.int 0)++[V.int 1])++List.replicate (n-i-1) (V.int 0)=(BO n i).map V.int:=by
 unfold BO
 refine List.ext_getElem (by simp;omega) fun j h1 h2=>?_
 rw[List.getElem_map,List.getElem_map,List.getElem_range]
 rcases Nat.lt_trichotomy j i with h|h|h
 ·rw[List.getElem_append_left (by simp;omega),List.getElem_append_left (by simp;omega),List.getElem_replicate,if_neg (by omega)]
 ·subst h
  rw[List.getElem_append_left (by simp),List.getElem_append_right (by simp),if_pos rfl]
  simp
 ·rw[List.getElem_append_right (by simp;omega),List.getElem_replicate,if_neg (by omega)]
def Ud (K:PySem.W.Frag):Sp:=fun vs H Q _=>∃(p:Int) (lt lu:Addr) (n:Nat) (ys us:List V) (rows gs:List (List Int)),vs=[.int p,.ref lt,.ref lu]/\2<=p/\p<1000000000000000000/\H lt=some (.lst ys)/\AS K H ys rows/\(∀r∈rows,r.length=n)/\rows.length=n/\n<=16/\H lu=some (.lst us)/\us.length=n/\gs.length=n/\(∀(i:Nat) (g:List Int),gs[i]?=some g->∃e,us[i]?=some (.ref e)/\H e=some (.lst (g.map V.int)))/\(∀(k:Nat) (g:List Int),gs[k]?=some g->g.length=n/\(∀x∈g,0<=x/\x<p)/\E7 p rows g n=BO n k)/\∀H',Same H H'->Q (.bl true) H'
theorem Of {f:Addr}{fd:FuncData}(F:Fun K "_law_undoes" "_law_undoes" Ct f fd)(T:Txt mg)
  (Z:Exs K mg C_AskError C_BadWord C_NoInverse)
  {Cb:Addr} {FP:FuncData} (Gf:FnOk P w K mg base CX0 2 Cb FP ["p","found","many"] (Nu K)) (DJ:Fun K "_law_list_by" "_law_list_by" B9 Cb FP) (Gg:Binds K FP ["p","found","many"] []) (Gh:mg "_law_list_by"=some (.ref Cb))
  {Dx:Addr} {Hf:FuncData} (IK:FnOk P w K mg base CX0 1 Dx Hf ["p","rows","amounts","size"] (Pk K)) (E3:Fun K "_law_mixed" "_law_mixed" C6 Dx Hf) (IL:Binds K Hf ["p","rows","amounts","size"] []) (IM:mg "_law_mixed"=some (.ref Dx))
  : FnOk P w K mg base CX0 3 f fd ["p","table","undone"] (Ud K):=by
 refine F.ok EL (fun vs H Q E h=>?_) (fun cdv A outer s H vs Q E hr h=>?_)
 ·obtain⟨p,lt,lu,n,ys,us,rows,gs,rfl,_⟩:=h;rfl
 ·obtain⟨p,lt,lu,n,ys,us,rows,gs,rfl,hpp,hp18,hlt,hR,hrl,hrn,hn16,hlu,hul,hgl,hU,hg,k⟩:=h
  have hl:=Al
  refine⟨_,(Ad (Ai (i:=3) EL.nd rfl (Or.inl rfl) (As Aj (by rfl) T.len PySem.boot_len (Aa (pv 1) Ab)))
   (Ad (Et (PW.pt (L7 (Fl (Eu (As Cm rfl T.isinstance PyProof.Rows.boot_isinstance (Aa (pv 2) (Aa (Hw (v:=.ty "list") rfl T.list PyProof.Rows.boot_list rfl) Ab))))) (J1 (Bc U2 (As Aj (by rfl) T.len PySem.boot_len (Aa (pv 2) Ab)) (pv 3) (BM _)))))
   (Af (Aq Gn))
   Bb)
   (Ad (CM PassesOwn.never rfl (A0 rfl T.range (Aa (pv 3) Ab)) (Ak (i:=4) EL.nd rfl (Or.inl rfl))
   (Ad (Ai (i:=5) EL.nd rfl (Or.inl rfl) (An DM (An DM (An PZ (Cj (Aa Ag Ab)) (pv 4)) (Cj (Aa Ag Ab))) (An PZ (Cj (Aa Ag Ab)) (An O1 (An O1 (pv 3) (pv 4)) Ag))))
   (Af (Et (PW.pt (L7 (Fl (Eu (Ah Gf (hr.mono (by decide)) rfl Gh DJ.kp Gg .nil Az (Aa (pv 0) (Aa (Ax E6 (pv 2) (pv 4) (fun _ _=>rfl)) (Aa (pv 3) Ab)))))) (J1 (Bc (YE 8 (hu9 hr)) (Ah IK (hr.mono (by decide)) rfl IM E3.kp IL .nil Az (Aa (pv 0) (Aa (pv 1) (Aa (Ax E6 (pv 2) (pv 4) (fun _ _=>rfl)) (Aa (pv 3) Ab))))) (pv 5) (BM _)))))
   (Af (Aq Gn))
   Bb))))
   (Af (Aq Gn))))),?_⟩
  walk_at "rd"
  have hyl:=hR.1
  refine⟨ys,.inl (SqL.of hlt),_,_,.lst (SqL.of hlu),LO,_,GD,?_⟩
  rw[if_neg (by decide)]
  refine⟨_,.inl (SqL.of hlu),?_⟩
  rw[if_neg (by rw[hul,hyl,hrn];simp)]
  have hyn:ys.length=n:=by omega
  rw[hyn]
  refine⟨by omega,by omega,?_⟩
  rw[show ((n:Int)).toNat=n by omega]
  obtain⟨Pv,hPv⟩:∃Pv:Nat->St->Hp->Prop,∀m σ' H',Pv m σ' H'↔(Same H H'/\∃o4 o5,σ'=[some (.int p),some (.ref lt),some (.ref lu),some (.int n),o4,o5]):=⟨_,fun _ _ _=>Iff.rfl⟩
  refine forR Pv ((hPv _ _ _).mpr ⟨Same.refl _,none,none,rfl⟩) (fun i σ' H' hi h'=>?_) (fun σ' H' h'=>?_)
  ·obtain⟨s1,o4,o5,rfl⟩:=(hPv _ _ _).mp h'
   rw[Int.zero_add]
   walk_at "rd"
   refine⟨by omega,fun p1 hp1=>PY.ofS Ac (by simp) (by omega) (by omega) (by simp;omega) fun x1 H1 t1 hx1=>?_⟩
   rw[List.flatten_replicate_singleton,show ((i:Int)).toNat=i by omega]at hx1
   refine⟨by omega,fun p2 hp2=>DH.ofS (Same.new hp2 _ _ hx1) Ac (by simp;omega) fun x2 H2 t2 hx2=>?_⟩
   refine⟨by omega,fun p3 hp3=>PY.ofS Ac (by simp) (by omega) (by omega) (by simp;omega) fun y H3 t3 hy=>?_⟩
   rw[List.flatten_replicate_singleton,show ((n:Int)-i-1).toNat=n-i-1 by omega]at hy
   refine DH.ofS ((Same.new hp3).trans t3 _ _ hx2) hy (by simp;omega) fun x3 H4 t4 hx3=>?_
   rw[Al_ hi]at hx3
   have sA:=((Same.new hp1).trans t1).trans (((Same.new hp2).trans t2).trans (((Same.new hp3).trans t3).trans t4))
   have sB:=s1.trans sA
   obtain⟨g,hgi⟩:∃g,gs[i]?=some g:=⟨gs[i],by simp⟩
   obtain⟨e,e1,e2⟩:=hU i g hgi
   obtain⟨f1,f2,f3⟩:=hg i g hgi
   have hat:atI us (i:Int)=some (V.ref e):=Yr (by omega) (by rw[show ((i:Int)).toNat=i by omega];exact e1)
   refine⟨us,SqL.of (sB _ _ hlu),_,hat,p,e,g,by rw[f1],SqL.of (sB _ _ e2),f2,_,rfl,?_⟩
   rw[if_neg (by decide)]
   refine⟨us,SqL.of (sB _ _ hlu),_,hat,p,false,lt,e,n,ys,rows,g,rfl,hpp,hp18,SqL.of (sB _ _ hlt),⟨hR.1,fun j r hj=>by obtain⟨t,a,b⟩:=hR.2 j r hj;exact⟨true,t,a,sB.seqT b⟩⟩,SqL.of (sB _ _ e2),by omega,f2,hrl,hn16,by omega,fun q H5 s5 hq=>⟨q,rfl,x3,rfl,_,EqD.ints (.inr ⟨hq,SqT.of (s5 _ _ hx3)⟩) 7,?_⟩⟩
   rw[decide_eq_true f3,if_neg (by decide)]
   exact (hPv _ _ _).mpr ⟨sB.trans s5,_,_,rfl⟩
  ·obtain⟨s1,o4,o5,rfl⟩:=(hPv _ _ _).mp h'
   walk_at "rd"
   exact k _ s1
theorem AS.eqL {K:PySem.W.Frag}{H:Hp}{a b:Addr}{xs ys:List V}{ws ws':List (List Int)}(ha:SqL K H a xs)(hb:SqL K H b ys)(h:AS K H xs ws)(g:AS K H ys ws')(n:Nat):EqD K H (n+2) (.ref a) (.ref b) (decide (ws=ws')):=by
 refine .inr ⟨a,b,_,_,rfl,rfl,.inl ⟨ha,hb⟩,fun i=>decide (ws[i]?=ws'[i]?),fun i x y hx hy=>?_,?_⟩
 ·have l1:i<ws.length:=by rw[<-h.1];exact (List.getElem?_eq_some_iff.mp hx).1
  have l2:i<ws'.length:=by rw[<-g.1];exact (List.getElem?_eq_some_iff.mp hy).1
  have e1:ws[i]?=some ws[i]:=by simp[l1]
  have e2:ws'[i]?=some ws'[i]:=by simp[l2]
  obtain⟨t,t1,t2⟩:=h.2 i _ e1
  obtain⟨t',t1',t2'⟩:=g.2 i _ e2
  rw[hx]at t1
  rw[hy]at t1'
  cases t1
  cases t1'
  have:=EqD.ints (.inr ⟨t2,t2'⟩) n
  have e:decide (ws[i]?=ws'[i]?)=decide (ws[i]=ws'[i]):=by rw[e1,e2];simp
  show EqD K H (n+1) (V.ref t) (V.ref t') (decide (ws[i]?=ws'[i]?))
  rw[e]
  exact this
 ·rw[h.1,g.1,Bool.eq_iff_iff]
  simp only[decide_eq_true_eq,Bool.and_eq_true,List.all_eq_true,List.mem_range]
  constructor
  ·rintro rfl
   exact⟨rfl,fun i hi=>rfl⟩
  ·rintro⟨hl,hh⟩
   refine List.ext_getElem? fun i=>?_
   by_cases hi:i<ws.length
   ·exact hh i (by omega)
   ·rw[List.getElem?_eq_none (by omega),List.getElem?_eq_none (by omega)]
def Am_ (K:PySem.W.Frag):Sp:=fun vs H Q _=>∃(a:Addr) (ns:List Int),vs=[.ref a]/\SqL K H a (ns.map V.int)/\ns.length<=63/\∀H',Q (.bl true) H'
theorem Ec_ {f:Addr}{fd:FuncData}(F:Fun K "law" "law" Qh f fd)(T:Txt mg)
  (Z:Exs K mg C_AskError C_BadWord C_NoInverse)
  {Ba:Addr} {Ca:FuncData} (DE:FnOk P w K mg base CX0 9 Ba Ca ["house"] (QK K)) (B5:Fun K "sums_access" "sums_access" BY Ba Ca) (DF:Binds K Ca ["house"] []) (DG:mg "sums_access"=some (.ref Ba))
  {Dy:Addr} {Hg:FuncData} (IP:FnOk P w K mg base CX0 10 Dy Hg ["house"] (Pn K)) (E4:Fun K "sums_paper" "sums_paper" C1 Dy Hg) (IQ:Binds K Hg ["house"] []) (IS:mg "sums_paper"=some (.ref Dy))
  {AD:Addr} {AK:FuncData} (AL:FnOk P w K mg base CX0 1 AD AK ["script","k"] (Nn K)) (AE:Fun K "_law_cell" "_law_cell" B7 AD AK) (AM:Binds K AK ["script","k"] []) (AN:mg "_law_cell"=some (.ref AD))
  {Dz:Addr} {Hh:FuncData} (IT:FnOk P w K mg base CX0 2 Dz Hh ["cell"] (Wt K)) (E5:Fun K "_law_prime" "_law_prime" C2 Dz Hh) (IU:Binds K Hh ["cell"] []) (IV:mg "_law_prime"=some (.ref Dz))
  {DA:Addr} {Hi:FuncData} (F4:FnOk P w K mg base CX0 4 DA Hi ["script","at","p","letters","many"] (Ph K)) (Ea:Fun K "_law_house" "_law_house" C3 DA Hi) (F5:Binds K Hi ["script","at","p","letters","many"] []) (F6:mg "_law_house"=some (.ref DA))
  {Cc:Addr} {FQ:FuncData} (Gi:FnOk P w K mg base CX0 5 Cc FQ ["house","script","at"] (LY K)) (DK:Fun K "_law_another" "_law_another" B8 Cc FQ) (Gj:Binds K FQ ["house","script","at"] []) (Gk:mg "_law_another"=some (.ref Cc))
  {AV:Addr} {BL:FuncData} (CJ:FnOk P w K mg base CX0 2 AV BL ["found","letters"] (JQ K)) (By:Fun K "_law_is_word" "_law_is_word" Bx AV BL) (CK:Binds K BL ["found","letters"] []) (CL:mg "_law_is_word"=some (.ref AV))
  {DB:Addr} {Hj:FuncData} (F7:FnOk P w K mg base CX0 4 DB Hj ["house","words","tails_v"] (Po K)) (Eb:Fun K "_law_table" "_law_table" C8 DB Hj) (F8:Binds K Hj ["house","words","tails_v"] []) (F9:mg "_law_table"=some (.ref DB))
  {Bf:Addr} {Er:FuncData} (EH:FnOk P w K mg base CX0 3 Bf Er ["tails_v","letters","many"] (Pp K)) (Ci:Fun K "_law_tails_good" "_law_tails_good" Bd Bf Er) (EI:Binds K Er ["tails_v","letters","many"] []) (EJ:mg "_law_tails_good"=some (.ref Bf))
  {CA:Addr} {Gm:FuncData} (Hk:FnOk P w K mg base CX0 3 CA Gm ["p","table","undone"] (Ud K)) (Es:Fun K "_law_undoes" "_law_undoes" Ct CA Gm) (Hl:Binds K Gm ["p","table","undone"] []) (Hm:mg "_law_undoes"=some (.ref CA))
  : FnOk P w K mg base CX0 11 f fd ["script"] (Am_ K):=by
 refine F.ok HR (fun vs H Q E h=>?_) (fun cdv A outer s H vs Q E hr h=>?_)
 ·obtain⟨a,ns,rfl,_⟩:=h;rfl
 ·obtain⟨a,ns,rfl,hs,hz,k⟩:=h
  have hl:=Al
  refine⟨_,(FV (Ai (i:=1) HR.nd rfl (Or.inl rfl) (Ah IT (hr.mono (by decide)) rfl IV E5.kp IU .nil Az (Aa (Ah AL (hr.mono (by decide)) rfl AN AE.kp AM .nil Az (Aa (pv 0) (Aa Ag Ab))) Ab)))
   (FV (Ai (i:=2) HR.nd rfl (Or.inl rfl) (An CN (An CN Ag (An BR (Ah AL (hr.mono (by decide)) rfl AN AE.kp AM .nil Az (Aa (pv 0) (Aa Ag Ab))) Ag)) (An CP (An Hx (An BR (An Hx (Ah AL (hr.mono (by decide)) rfl AN AE.kp AM .nil Az (Aa (pv 0) (Aa Ag Ab))) Ag) Ag) Ag) Ag)))
   (FV (Ai (i:=3) HR.nd rfl (Or.inl rfl) (An BR (Ah AL (hr.mono (by decide)) rfl AN AE.kp AM .nil Az (Aa (pv 0) (Aa Ag Ab))) (An O1 Ag (An Hx (pv 2) Ag))))
   (FV (Ai (i:=4) HR.nd rfl (Or.inl rfl) (Ah F4 (hr.mono (by decide)) rfl F6 Ea.kp F5 .nil Az (Aa (pv 0) (Aa Ag (Aa (pv 1) (Aa (pv 2) (Aa (pv 3) Ab)))))))
   (Va (Et (Bc U1 (An BR (An Hx (Ah AL (hr.mono (by decide)) rfl AN AE.kp AM .nil Az (Aa (pv 0) (Aa Ag Ab))) Ag) Ag) Ag (BM _))
   (Af (Ai (i:=4) HR.nd rfl (Or.inl rfl) (Ah Gi (hr.mono (by decide)) rfl Gk DK.kp Gj .nil Az (Aa (pv 4) (Aa (pv 0) (Aa (An CN (An CN Ag (An CP Ag (pv 3))) (An CP (An CP (pv 2) (pv 3)) (pv 3))) Ab))))))
   Bb)
   (FV (Ai (i:=5) HR.nd rfl (Or.inl rfl) (Ah IP (hr.mono (by decide)) rfl IS E4.kp IQ .nil Az (Aa (pv 4) Ab)))
   (Ad (Et (PW.pt (L7 (Fl (Eu (As Cm rfl T.isinstance PyProof.Rows.boot_isinstance (Aa (pv 5) (Aa (Hw (v:=.ty "tuple") rfl T.tuple PyProof.Rows.boot_tuple rfl) Ab))))) (L7 (Bc U2 (As Aj (by rfl) T.len PySem.boot_len (Aa (pv 5) Ab)) Ag (BM _)) (J1 (Bc (YE 8 (hu9 hr)) (Ax Au (pv 5) Ag (fun _ _=>rfl)) (Ah DE (hr.mono (by decide)) rfl DG B5.kp DF .nil Az (Aa (pv 4) Ab)) (BM _))))))
   (Af (Aq Gn))
   Bb)
   (FV (Ai (i:=6) HR.nd rfl (Or.inl rfl) (Ax Au (pv 5) Ag (fun _ _=>rfl)))
   (Ad (Et (PW.pt (L7 (Fl (Eu (As Cm rfl T.isinstance PyProof.Rows.boot_isinstance (Aa (pv 6) (Aa (Hw (v:=.ty "list") rfl T.list PyProof.Rows.boot_list rfl) Ab))))) (J1 (Fl (Eu (Ah EH (hr.mono (by decide)) rfl EJ Ci.kp EI .nil Az (Aa (Ax Au (pv 5) Ag (fun _ _=>rfl)) (Aa (pv 2) (Aa (As Aj (by rfl) T.len PySem.boot_len (Aa (pv 6) Ab)) Ab)))))))))
   (Af (Aq Gn))
   Bb)
   (Ad (CM PassesOwn.never rfl (Fm (pv 6)) (Ak (i:=7) HR.nd rfl (Or.inl rfl))
   (Af (Et (Fl (Eu (Ah CJ (hr.mono (by decide)) rfl CL By.kp CK .nil Az (Aa (pv 7) (Aa (pv 2) Ab)))))
   (Af (Aq Gn))
   Bb)))
   (FV (Ai (i:=8) HR.nd rfl (Or.inl rfl) (Ah F7 (hr.mono (by decide)) rfl F9 Eb.kp F8 .nil Az (Aa (pv 4) (Aa (pv 6) (Aa (Ax Au (pv 5) Ag (fun _ _=>rfl)) Ab)))))
   (Ad (Et (Fl (Eu (Ah Hk (hr.mono (by decide)) rfl Hm Es.kp Hl .nil Az (Aa (pv 1) (Aa (pv 8) (Aa (Ax Au (pv 5) Ag (fun _ _=>rfl)) Ab))))))
   (Af (Aq Gn))
   Bb)
   (Ad (Et (Bc U1 (As Aj (by rfl) T.len PySem.boot_len (Aa (pv 6) Ab)) Ag (BM _))
   (Af (Aq Gn))
   Bb)
   (FV (Ai (i:=9) HR.nd rfl (Or.inl rfl) (Ah F4 (hr.mono (by decide)) rfl F6 Ea.kp F5 .nil Az (Aa (pv 0) (Aa Ag (Aa (pv 1) (Aa (pv 2) (Aa (An BR (Ah AL (hr.mono (by decide)) rfl AN AE.kp AM .nil Az (Aa (pv 0) (Aa Ag Ab))) (As Aj (by rfl) T.len PySem.boot_len (Aa (pv 6) Ab))) Ab)))))))
   (Af (Aq (U4 (YE 8 (hu9 hr)) (Ah F7 (hr.mono (by decide)) rfl F9 Eb.kp F8 .nil Az (Aa (pv 9) (Aa (pv 6) (Aa (Ax Au (pv 5) Ag (fun _ _=>rfl)) Ab)))) (pv 8) (BM _)))))))))))))))))),?_⟩
  walk_at "rd"
  refine⟨a,ns,0,rfl,hs,_,rfl,fun p H1 s1 hp=>?_⟩
  have hp1:=hp.1
  have hp2:=hp.2.1
  refine FU ?_
  walk_at "rd"
  refine⟨a,ns,1,rfl,s1.seq hs,_,rfl,by decide,a,ns,1,rfl,s1.seq hs,_,rfl,⟨by decide,by decide⟩,by decide,⟨by decide,by decide⟩,.inr ⟨by decide,by decide⟩,?_⟩
  obtain⟨L,hL,hL1,hL6⟩:∃L:Nat,1+cell ns 1%3+cell ns 1 / 3%4 / 3*3=(L:Int)/\1<=L/\L<=6:=⟨(1+cell ns 1%3+cell ns 1 / 3%4 / 3*3).toNat,by omega,by omega,by omega⟩
  rw[hL]
  refine FU ?_
  walk_at "rd"
  refine⟨a,ns,2,rfl,s1.seq hs,⟨by decide,by decide⟩,_,rfl,by omega,?_⟩
  obtain⟨n,hn,hn4⟩:∃n:Nat,cell ns 2%(4-(L:Int) / 4)=(n:Int)/\n<4:=⟨(cell ns 2%(4-(L:Int) / 4)).toNat,by have:=Int.emod_nonneg (cell ns 2) (show (4-(L:Int) / 4)≠0 by omega);omega,by have:=Int.emod_lt_of_pos (cell ns 2) (show 0<(4-(L:Int) / 4) by omega);omega⟩
  rw[hn]
  refine FU ?_
  walk_at "rd"
  refine⟨a,ns,4,p,L,n,rfl,s1.seq hs,by omega,by omega,hp1,hp2,hL1,hL6,by omega,fun h0 f0 l0 t0 H2 s2 hh0 wf0 sm0=>?_⟩
  have s12:=s1.trans s2
  obtain⟨Rr,hRr⟩:∃Rr:St->Hp->Prop,∀σ' H',Rr σ' H'↔(∃(h:Addr) (first last:List Int) (tables:List (List (List Int))) (d:Nat),Same H H'/\SumH K H' h p L first tables last/\WfSum p L d first tables last/\d<=5/\σ'=[some (.ref a),some (.int p),some (.int L),some (.int n),some (.ref h),none,none,none,none,none]):=⟨_,fun _ _=>Iff.rfl⟩
  refine FU ?_
  refine⟨Rr,?_,fun σ3 H3 h3=>?_⟩
  ·walk_at "rd"
   refine⟨a,ns,2,rfl,s12.seq hs,_,rfl,⟨by decide,by decide⟩,by decide,ite2 (fun _=>?_) (fun _=>(hRr _ _).mpr ⟨h0,f0,l0,t0,n,s12,hh0,wf0,by omega,rfl⟩)⟩
   have hb1:L*n*n<=96:=Nat.mul_le_mul (Nat.mul_le_mul hL6 (show n<=4 by omega)) (show n<=4 by omega)
   refine⟨.inl ⟨by decide,by decide⟩,.inl ⟨by omega,by omega⟩,.inr ⟨by omega,by omega⟩,h0,a,p,4+2*n+L*n*n,L,n,ns,f0,l0,t0,by push_cast;rfl,s12.seq hs,hh0,wf0,sm0,hL1,hL6,by omega,by omega,fun g f1 l1 t1 H4 s4 hg wg _=>(hRr _ _).mpr ⟨g,f1,l1,t1,n+1,s12.trans s4,hg,wg,by omega,rfl⟩⟩
  obtain⟨h,first,last,tables,d,s3,hh,wf,hd5,rfl⟩:=(hRr _ _).mp h3
  walk_at "rd"
  have hsok:(⟨d,first,tables,last⟩:Hs).ok p L:=wf
  refine⟨h,p,L,⟨d,first,tables,last⟩,rfl,hp,hh,hsok,hL1,hL6,by show d<=16;omega,fun q la le lu zs es us ws ends gs H4 s4 hq hla hW hle hE hlu hul hU pap=>?_⟩
  obtain⟨hx,hhx⟩:∃hx:Hs,hx=⟨d,first,tables,last⟩:=⟨_,rfl⟩
  have hh':Km K H3 h p L hx:=by rw[hhx];exact hh
  rw[<-hhx]at pap hsok
  have hxd:hx.d<=5:=by rw[hhx];exact hd5
  have hw5:ws.length<=5:=by
   obtain⟨_,ws1,_,_,o1,_,z⟩:=pap.acc
   exact Nat.le_trans z (Nat.le_trans o1.sz hxd)
  refine FU ?_
  walk_at "rd"
  refine⟨_,_,.tup hq,LO,_,GD,?_⟩
  rw[if_neg (by decide)]
  refine⟨_,.inr hq,?_⟩
  rw[if_neg (by simp)]
  refine⟨_,hq,V.ref la,rfl,h,p,L,hx,rfl,hp,hh'.mono s4,hsok,hL6,by omega,fun la2 zs2 F1 ws1 am1 F2 ws2 H5 s5 hla2 hW2 o1 b2 hw2=>?_⟩
  obtain rfl:ws=ws2:=pap.acc.uniq (by omega) ⟨F1,ws1,am1,F2,o1,b2,hw2⟩
  have hla5:=s5 _ _ hla
  have hW5:=hW.mono (TK.of s5)
  have hzl:zs.length=ws.length:=hW.1
  refine⟨la,rfl,la2,rfl,_,Cn.eq hW5 hW2 (SqL.of hla5) (SqL.of hla2) 6,?_⟩
  rw[if_neg (by decide)]
  refine⟨_,s5.seqT hq,V.ref la,rfl,?_⟩
  refine FU ?_
  walk_at "rd"
  refine⟨_,_,.lst (SqL.of hla5),LO,_,GD,?_⟩
  rw[if_neg (by decide)]
  have hE5:=hE.mono (TK.of s5)
  refine⟨_,s5.seqT hq,V.ref le,rfl,zs,.inl (SqL.of hla5),le,L,zs.length,es,ends,rfl,s5 _ _ hle,hE5,by rw[pap.len,hzl],by omega,fun v hv=>⟨(pap.eW v hv).1,by rw[hzl];exact (pap.eW v hv).2⟩,_,rfl,?_⟩
  rw[if_neg (by decide)]
  obtain⟨Pv,hPv⟩:∃Pv:Nat->St->Hp->Prop,∀m σ' H',Pv m σ' H'↔(H'=H5/\∃o,σ'=[some (.ref a),some (.int p),some (.int L),some (.int n),some (.ref h),some (.ref q),some (.ref la),o,none,none]):=⟨_,fun _ _ _=>Iff.rfl⟩
  refine⟨⟨_,SqL.of hla5⟩,forL (xs:=zs) Pv ((hPv _ _ _).mpr ⟨rfl,none,rfl⟩) (fun i σ' H' _ h'=>by obtain⟨rfl,_⟩:=(hPv _ _ _).mp h';exact SqL.of hla5) (fun i x σ' H' hx' h'=>?_) (fun σ' H' h'=>?_)⟩
  ·obtain⟨rfl,o,rfl⟩:=(hPv _ _ _).mp h'
   obtain⟨t,v,e0,rfl,e2⟩:=hW5.at hx'
   have hv:=pap.wW v (List.mem_of_getElem? e0)
   walk_at "rd"
   refine⟨t,L,v,rfl,SqT.of e2,hv.1,_,rfl,?_⟩
   rw[if_neg (by decide)]
   exact (hPv _ _ _).mpr ⟨rfl,_,rfl⟩
  obtain⟨rfl,o,rfl⟩:=(hPv _ _ _).mp h'
  walk_at "rd"
  have heW:∀v∈ends,isW L v=true/\v.length<=16:=fun v hv=>⟨(pap.eW v hv).1,by have:=(pap.eW v hv).2;omega⟩
  have hel:ends.length=ws.length:=pap.len
  refine⟨_,s5.seqT hq,V.ref le,rfl,h,la,le,p,L,hx,zs,es,ws,ends,rfl,hh'.mono (s4.trans s5),hsok,hla5,hW5,s5 _ _ hle,hE5,pap.wW,heW,by omega,by omega,fun lt ys H6 s6 hlt hR=>?_⟩
  refine FU ?_
  walk_at "rd"
  have s46:=s5.trans s6
  have hTl:(tabW hx p ws ends).length=ws.length:=by unfold tabW;rw[List.length_map]
  have hTr:∀r∈tabW hx p ws ends,r.length=ws.length:=fun r hr=>by
   obtain⟨a,_,rfl⟩:=List.mem_map.mp hr
   rw[List.length_map,hel]
  refine⟨_,s46.seqT hq,V.ref lu,rfl,p,lt,lu,ws.length,ys,us,tabW hx p ws ends,gs,rfl,hp1,hp2,hlt,hR,hTr,hTl,by omega,s46 _ _ hlu,by rw[hul,pap.gl],pap.gl,fun i g hi=>by obtain⟨e,e1,e2⟩:=hU i g hi;exact⟨e,e1,s46 _ _ e2⟩,pap.gs,fun H7 s7=>⟨_,rfl,?_⟩⟩
  rw[if_neg (by decide)]
  have s57:=s6.trans s7
  have hla7:=s57 _ _ hla5
  refine⟨zs,.inl (SqL.of hla7),?_⟩
  refine ite2 (fun _=>k _) (fun hne=>?_)
  have s07:=s3.trans (s4.trans (s5.trans s57))
  refine⟨a,ns,3,rfl,s07.seq hs,zs,.inl (SqL.of hla7),_,rfl,by omega,?_⟩
  obtain⟨m,hm,hm5⟩:∃m:Nat,cell ns 3%(zs.length:Int)=(m:Int)/\m<ws.length:=⟨(cell ns 3%(zs.length:Int)).toNat,by have:=Int.emod_nonneg (cell ns 3) (show (zs.length:Int)≠0 by omega);omega,by have:=Int.emod_lt_of_pos (cell ns 3) (show 0<(zs.length:Int) by omega);omega⟩
  rw[hm]
  refine⟨a,ns,3,p,L,m,rfl,s07.seq hs,by omega,by omega,hp1,hp2,hL1,hL6,by omega,fun h2 f2 l2 t2 H8 s8 hh2 wf2 _=>?_⟩
  refine FU ?_
  walk_at "rd"
  have s58:=s57.trans s8
  refine⟨_,(s5.trans s58).seqT hq,V.ref le,rfl,h2,la,le,p,L,⟨m,f2,t2,l2⟩,zs,es,ws,ends,rfl,hh2,wf2,s58 _ _ hla5,hW5.mono (TK.of s58),(s5.trans s58) _ _ hle,hE5.mono (TK.of s58),pap.wW,heW,by omega,by omega,fun lt2 ys2 H9 s9 hlt2 hR2=>?_⟩
  have s79:=s7.trans (s8.trans s9)
  refine⟨lt2,rfl,_,AS.eqL (SqL.of hlt2) (SqL.of (s79 _ _ hlt)) hR2 (hR.mono s79) 6,?_⟩
  have hno:tabW ⟨m,f2,t2,l2⟩ p ws ends≠tabW hx p ws ends:=fun e=>Zi (h:=⟨m,f2,t2,l2⟩) hp wf2 (ws:=ws) (fun e he=>(heW e he).1) hm5 (by rw[e,hel];exact pap.ind)
  rw[decide_eq_false hno]
  exact k _
end
theorem all_mk {l:PySem.W.OpenLaw}{w:World}{K:PySem.W.Frag}{h:Heap}{mg:Str->Option Value}{fa Fz Eg JJ C9 Ar A5 BF A6 FA AB FE FD De BG Dh Di FO Dj BJ AJ Dq Cg BK Ba Du JR Dy AD BH Dz Bj AF Cf DA DS Dm Cv Dp Bn BI Cw Cc Cb Dx AV Dv DB Bf CA Cy_:Addr}(X:K.In h)(G:h.Ns mainGlobals mg)(hfa:mg "law"=some (.ref fa))
  {C_AskError C_BadWord C_NoInverse:Addr}
  {WZ W0:Option Addr} {W2:Array (Option Value)} {W3 W4 W5 W6 Pq W7:Value}
  {Zm Zn:Option Addr} {Zo:Array (Option Value)} {Zp Zq Zr Zs Ue Zt:Value}
  {An_ Ao_:Option Addr} {Ap_:Array (Option Value)} {Aq_ Ar_ As_ At_ Wv Au_:Value}
  {W8 W9:Option Addr} {Xa:Array (Option Value)} {Xb Xc Xd Xe Pt Xf:Value}
  {Lu Lv:Option Addr} {Lw:Array (Option Value)} {Lx Lz LA LB Gz LC:Value}
  {Xg Xh:Option Addr} {Xi:Array (Option Value)} {Xj Xk Xl Xm Pu Xn:Value}
  {Ug Uh:Option Addr} {Ui:Array (Option Value)} {Uj Uk Ul Um LZ Uo:Value}
  {JS JT:Option Addr} {JU:Array (Option Value)} {JV JW JX JY FT JZ:Value}
  {Cz_ CA_:Option Addr} {CB_:Array (Option Value)} {CC_ CD_ CE_ CF_ Zu CG_:Value}
  {Ko Kp:Option Addr} {Kq:Array (Option Value)} {Kr Kt Ku Kv Ga Kw:Value}
  {Xo Xp:Option Addr} {Xq:Array (Option Value)} {Xr Xs Xt Xu Px Xv:Value}
  {Xw Xx:Option Addr} {Xy:Array (Option Value)} {Xz XA XB XC Py XD:Value}
  {QO QP:Option Addr} {QR:Array (Option Value)} {QS QT QU QV Kx QW:Value}
  {XE XF:Option Addr} {XG:Array (Option Value)} {XH XI XJ XM PD XN:Value}
  {QX QY:Option Addr} {QZ:Array (Option Value)} {Q0 Q1 Q2 Q3 Ky Q4:Value}
  {Q5 Q6:Option Addr} {Q7:Array (Option Value)} {Q8 Q9 Ra Rb Kz Rc:Value}
  {Av_ Aw_:Option Addr} {Ax_:Array (Option Value)} {Ay_ Az_ AA_ AB_ Ww AC_:Value}
  {Rf Rg:Option Addr} {Rh:Array (Option Value)} {Ri Rj Rk Rl KA Rm:Value}
  {Uq Ur:Option Addr} {Us:Array (Option Value)} {Ut Uu Uv Uw L3 Ux:Value}
  {Ro Rp:Option Addr} {Rq:Array (Option Value)} {Rt Ru Rv Rw KC Rx:Value}
  {Ry Rz:Option Addr} {RA:Array (Option Value)} {RC RD RE RF KD RG:Value}
  {Vz VA:Option Addr} {VB:Array (Option Value)} {VC VD VE VF Nz VG:Value}
  {Uy Uz:Option Addr} {UA:Array (Option Value)} {UB UC UD UE L4 UG:Value}
  {Og Oh:Option Addr} {Oi:Array (Option Value)} {Oj Ol Om Oo Jz Oq:Value}
  {RH RI:Option Addr} {RJ:Array (Option Value)} {RK RL RM RO KG RP:Value}
  {AD_ AE_:Option Addr} {AF_:Array (Option Value)} {AG_ AH_ AI_ AJ_ Wx AK_:Value}
  {RQ RS:Option Addr} {RT:Array (Option Value)} {RU RV RW RX KH RY:Value}
  {UH UI:Option Addr} {UJ:Array (Option Value)} {UK UL UM UN L5 UO:Value}
  {Mg Mh:Option Addr} {Mi:Array (Option Value)} {Mj Ml Mm Mn Hr Mo:Value}
  {RZ R0:Option Addr} {R1:Array (Option Value)} {R3 R4 R5 R6 KI R7:Value}
  {R8 R9:Option Addr} {Sa:Array (Option Value)} {Sb Sd Se Sf KJ Sg:Value}
  {Ot Ou:Option Addr} {Ov:Array (Option Value)} {Ow Ox Oy Oz JA OA:Value}
  {VH VI:Option Addr} {VJ:Array (Option Value)} {VL VM VN VO NA VP:Value}
  {Sh Si:Option Addr} {Sj:Array (Option Value)} {Sk Sl Sn So KL Sq:Value}
  {UP UQ:Option Addr} {UR:Array (Option Value)} {US UT UU UW L6 UX:Value}
  {Sr Ss:Option Addr} {Su:Array (Option Value)} {Sv Sw Sx Sy KN Sz:Value}
  {OB OC:Option Addr} {OD:Array (Option Value)} {OE OF OG OH JC OI:Value}
  {SA SD:Option Addr} {SE:Array (Option Value)} {SF SH SI SJ KO SK:Value}
  {LD LF:Option Addr} {LG:Array (Option Value)} {LH LI LJ LK GA LL:Value}
  {Mp Mq:Option Addr} {Mr:Array (Option Value)} {Ms Mt Mu Mv Ht Mw:Value}
  {OJ OK:Option Addr} {OL:Array (Option Value)} {OM ON OO OP JD OQ:Value}
  {NB NC:Option Addr} {ND:Array (Option Value)} {NF NG NH NJ IW NL:Value}
  {NM NN:Option Addr} {NO:Array (Option Value)} {NQ NR NS NT IX NU:Value}
  {SM SN:Option Addr} {SR:Array (Option Value)} {SS SU SV SW KQ SX:Value}
  {NV NW:Option Addr} {NX:Array (Option Value)} {NY NZ N0 N1 IY N2:Value}
  {SY S0:Option Addr} {S1:Array (Option Value)} {S2 S3 S4 S5 KR S6:Value}
  {S7 S8:Option Addr} {S9:Array (Option Value)} {Ta Tc Td Te KS Tf:Value}
  {KU KW:Option Addr} {KY:Array (Option Value)} {KZ K0 K1 K2 Gb K3:Value}
  {OR OS:Option Addr} {OT:Array (Option Value)} {OU OV OW OX JE OY:Value}
  {Ed_ BG_:Option Addr} {Ee_:Array (Option Value)} {Ef_ BH_ BI_ BJ_ Zv BK_:Value}
  (a_inverse:PySem.W.nsIn K mainGlobals "inverse"=some (some (.ref Fz)))
  (l_inverse:K.lookup Fz=some ⟨W3,WZ,.func (PySem.W.fnOf "inverse" "inverse" (Ao Fs) (Am Fs) (Ae Fs) .none W4 W5 W6 W0 Pq W7),W2⟩)
  (c_inverse:PySem.W.codeIn K Pq "inverse"=true)
  (k_inverse:PySem.W.keepIn K (.ref Fz)=true)
  (a_scaled:PySem.W.nsIn K mainGlobals "scaled"=some (some (.ref Eg)))
  (l_scaled:K.lookup Eg=some ⟨Zp,Zm,.func (PySem.W.fnOf "scaled" "scaled" (Ao FW) (Am FW) (Ae FW) .none Zq Zr Zs Zn Ue Zt),Zo⟩)
  (c_scaled:PySem.W.codeIn K Ue "scaled"=true)
  (k_scaled:PySem.W.keepIn K (.ref Eg)=true)
  (a_added:PySem.W.nsIn K mainGlobals "added"=some (some (.ref JJ)))
  (l_added:K.lookup JJ=some ⟨Aq_,An_,.func (PySem.W.fnOf "added" "added" (Ao JG) (Am JG) (Ae JG) .none Ar_ As_ At_ Ao_ Wv Au_),Ap_⟩)
  (c_added:PySem.W.codeIn K Wv "added"=true)
  (k_added:PySem.W.keepIn K (.ref JJ)=true)
  (a_product:PySem.W.nsIn K mainGlobals "product"=some (some (.ref C9)))
  (l_product:K.lookup C9=some ⟨Xb,W8,.func (PySem.W.fnOf "product" "product" (Ao EO) (Am EO) (Ae EO) .none Xc Xd Xe W9 Pt Xf),Xa⟩)
  (c_product:PySem.W.codeIn K Pt "product"=true)
  (k_product:PySem.W.keepIn K (.ref C9)=true)
  (a_place_of_first:PySem.W.nsIn K mainGlobals "place_of_first"=some (some (.ref Ar)))
  (l_place_of_first:K.lookup Ar=some ⟨Lx,Lu,.func (PySem.W.fnOf "place_of_first" "place_of_first" (Ao AW) (Am AW) (Ae AW) .none Lz LA LB Lv Gz LC),Lw⟩)
  (c_place_of_first:PySem.W.codeIn K Gz "place_of_first"=true)
  (k_place_of_first:PySem.W.keepIn K (.ref Ar)=true)
  (a_left_of:PySem.W.nsIn K mainGlobals "left_of"=some (some (.ref A5)))
  (l_left_of:K.lookup A5=some ⟨Xj,Xg,.func (PySem.W.fnOf "left_of" "left_of" (Ao DI) (Am DI) (Ae DI) .none Xk Xl Xm Xh Pu Xn),Xi⟩)
  (c_left_of:PySem.W.codeIn K Pu "left_of"=true)
  (k_left_of:PySem.W.keepIn K (.ref A5)=true)
  (a_with_base:PySem.W.nsIn K mainGlobals "with_base"=some (some (.ref BF)))
  (l_with_base:K.lookup BF=some ⟨Uj,Ug,.func (PySem.W.fnOf "with_base" "with_base" (Ao CQ) (Am CQ) (Ae CQ) .none Uk Ul Um Uh LZ Uo),Ui⟩)
  (c_with_base:PySem.W.codeIn K LZ "with_base"=true)
  (k_with_base:PySem.W.keepIn K (.ref BF)=true)
  (a_chosen_and_bases:PySem.W.nsIn K mainGlobals "chosen_and_bases"=some (some (.ref A6)))
  (l_chosen_and_bases:K.lookup A6=some ⟨JV,JS,.func (PySem.W.fnOf "chosen_and_bases" "chosen_and_bases" (Ao A3) (Am A3) (Ae A3) .none JW JX JY JT FT JZ),JU⟩)
  (c_chosen_and_bases:PySem.W.codeIn K FT "chosen_and_bases"=true)
  (k_chosen_and_bases:PySem.W.keepIn K (.ref A6)=true)
  (a_unit:PySem.W.nsIn K mainGlobals "unit"=some (some (.ref FA)))
  (l_unit:K.lookup FA=some ⟨CC_,Cz_,.func (PySem.W.fnOf "unit" "unit" (Ao J9) (Am J9) (Ae J9) .none CD_ CE_ CF_ CA_ Zu CG_),CB_⟩)
  (c_unit:PySem.W.codeIn K Zu "unit"=true)
  (k_unit:PySem.W.keepIn K (.ref FA)=true)
  (a_factors_of_each:PySem.W.nsIn K mainGlobals "factors_of_each"=some (some (.ref AB)))
  (l_factors_of_each:K.lookup AB=some ⟨Kr,Ko,.func (PySem.W.fnOf "factors_of_each" "factors_of_each" (Ao A1) (Am A1) (Ae A1) .none Kt Ku Kv Kp Ga Kw),Kq⟩)
  (c_factors_of_each:PySem.W.codeIn K Ga "factors_of_each"=true)
  (k_factors_of_each:PySem.W.keepIn K (.ref AB)=true)
  (a_made_of:PySem.W.nsIn K mainGlobals "made_of"=some (some (.ref FE)))
  (l_made_of:K.lookup FE=some ⟨Xr,Xo,.func (PySem.W.fnOf "made_of" "made_of" (Ao Ft) (Am Ft) (Ae Ft) .none Xs Xt Xu Xp Px Xv),Xq⟩)
  (c_made_of:PySem.W.codeIn K Px "made_of"=true)
  (k_made_of:PySem.W.keepIn K (.ref FE)=true)
  (a_is_word:PySem.W.nsIn K mainGlobals "is_word"=some (some (.ref FD)))
  (l_is_word:K.lookup FD=some ⟨Xz,Xw,.func (PySem.W.fnOf "is_word" "is_word" (Ao Fu) (Am Fu) (Ae Fu) .none XA XB XC Xx Py XD),Xy⟩)
  (c_is_word:PySem.W.codeIn K Py "is_word"=true)
  (k_is_word:PySem.W.keepIn K (.ref FD)=true)
  (a_check_word:PySem.W.nsIn K mainGlobals "check_word"=some (some (.ref De)))
  (l_check_word:K.lookup De=some ⟨QS,QO,.func (PySem.W.fnOf "check_word" "check_word" (Ao CS) (Am CS) (Ae CS) .none QT QU QV QP Kx QW),QR⟩)
  (c_check_word:PySem.W.codeIn K Kx "check_word"=true)
  (k_check_word:PySem.W.keepIn K (.ref De)=true)
  (a_stepped:PySem.W.nsIn K mainGlobals "stepped"=some (some (.ref BG)))
  (l_stepped:K.lookup BG=some ⟨XH,XE,.func (PySem.W.fnOf "stepped" "stepped" (Ao Ed) (Am Ed) (Ae Ed) .none XI XJ XM XF PD XN),XG⟩)
  (c_stepped:PySem.W.codeIn K PD "stepped"=true)
  (k_stepped:PySem.W.keepIn K (.ref BG)=true)
  (a_rows_along:PySem.W.nsIn K mainGlobals "rows_along"=some (some (.ref Dh)))
  (l_rows_along:K.lookup Dh=some ⟨Q0,QX,.func (PySem.W.fnOf "rows_along" "rows_along" (Ao CT) (Am CT) (Ae CT) .none Q1 Q2 Q3 QY Ky Q4),QZ⟩)
  (c_rows_along:PySem.W.codeIn K Ky "rows_along"=true)
  (k_rows_along:PySem.W.keepIn K (.ref Dh)=true)
  (a_row_behind:PySem.W.nsIn K mainGlobals "row_behind"=some (some (.ref Di)))
  (l_row_behind:K.lookup Di=some ⟨Q8,Q5,.func (PySem.W.fnOf "row_behind" "row_behind" (Ao CU) (Am CU) (Ae CU) .none Q9 Ra Rb Q6 Kz Rc),Q7⟩)
  (c_row_behind:PySem.W.codeIn K Kz "row_behind"=true)
  (k_row_behind:PySem.W.keepIn K (.ref Di)=true)
  (a_worth:PySem.W.nsIn K mainGlobals "worth"=some (some (.ref FO)))
  (l_worth:K.lookup FO=some ⟨Ay_,Av_,.func (PySem.W.fnOf "worth" "worth" (Ao HI) (Am HI) (Ae HI) .none Az_ AA_ AB_ Aw_ Ww AC_),Ax_⟩)
  (c_worth:PySem.W.codeIn K Ww "worth"=true)
  (k_worth:PySem.W.keepIn K (.ref FO)=true)
  (a_table_back:PySem.W.nsIn K mainGlobals "table_back"=some (some (.ref Dj)))
  (l_table_back:K.lookup Dj=some ⟨Ri,Rf,.func (PySem.W.fnOf "table_back" "table_back" (Ao CV) (Am CV) (Ae CV) .none Rj Rk Rl Rg KA Rm),Rh⟩)
  (c_table_back:PySem.W.codeIn K KA "table_back"=true)
  (k_table_back:PySem.W.keepIn K (.ref Dj)=true)
  (a_sums_back:PySem.W.nsIn K mainGlobals "sums_back"=some (some (.ref BJ)))
  (l_sums_back:K.lookup BJ=some ⟨Ut,Uq,.func (PySem.W.fnOf "sums_back" "sums_back" (Ao CW) (Am CW) (Ae CW) .none Uu Uv Uw Ur L3 Ux),Us⟩)
  (c_sums_back:PySem.W.codeIn K L3 "sums_back"=true)
  (k_sums_back:PySem.W.keepIn K (.ref BJ)=true)
  (a_basis_rows:PySem.W.nsIn K mainGlobals "basis_rows"=some (some (.ref AJ)))
  (l_basis_rows:K.lookup AJ=some ⟨Rt,Ro,.func (PySem.W.fnOf "basis_rows" "basis_rows" (Ao BX) (Am BX) (Ae BX) .none Ru Rv Rw Rp KC Rx),Rq⟩)
  (c_basis_rows:PySem.W.codeIn K KC "basis_rows"=true)
  (k_basis_rows:PySem.W.keepIn K (.ref AJ)=true)
  (a_sums_basis:PySem.W.nsIn K mainGlobals "sums_basis"=some (some (.ref Dq)))
  (l_sums_basis:K.lookup Dq=some ⟨RC,Ry,.func (PySem.W.fnOf "sums_basis" "sums_basis" (Ao CY) (Am CY) (Ae CY) .none RD RE RF Rz KD RG),RA⟩)
  (c_sums_basis:PySem.W.codeIn K KD "sums_basis"=true)
  (k_sums_basis:PySem.W.keepIn K (.ref Dq)=true)
  (a_on_basis:PySem.W.nsIn K mainGlobals "on_basis"=some (some (.ref Cg)))
  (l_on_basis:K.lookup Cg=some ⟨VC,Vz,.func (PySem.W.fnOf "on_basis" "on_basis" (Ao DZ) (Am DZ) (Ae DZ) .none VD VE VF VA Nz VG),VB⟩)
  (c_on_basis:PySem.W.codeIn K Nz "on_basis"=true)
  (k_on_basis:PySem.W.keepIn K (.ref Cg)=true)
  (a_by_worths:PySem.W.nsIn K mainGlobals "by_worths"=some (some (.ref BK)))
  (l_by_worths:K.lookup BK=some ⟨UB,Uy,.func (PySem.W.fnOf "by_worths" "by_worths" (Ao CZ) (Am CZ) (Ae CZ) .none UC UD UE Uz L4 UG),UA⟩)
  (c_by_worths:PySem.W.codeIn K L4 "by_worths"=true)
  (k_by_worths:PySem.W.keepIn K (.ref BK)=true)
  (a_sums_access:PySem.W.nsIn K mainGlobals "sums_access"=some (some (.ref Ba)))
  (l_sums_access:K.lookup Ba=some ⟨Oj,Og,.func (PySem.W.fnOf "sums_access" "sums_access" (Ao BY) (Am BY) (Ae BY) .none Ol Om Oo Oh Jz Oq),Oi⟩)
  (c_sums_access:PySem.W.codeIn K Jz "sums_access"=true)
  (k_sums_access:PySem.W.keepIn K (.ref Ba)=true)
  (a_sums_least:PySem.W.nsIn K mainGlobals "sums_least"=some (some (.ref Du)))
  (l_sums_least:K.lookup Du=some ⟨RK,RH,.func (PySem.W.fnOf "sums_least" "sums_least" (Ao C0) (Am C0) (Ae C0) .none RL RM RO RI KG RP),RJ⟩)
  (c_sums_least:PySem.W.codeIn K KG "sums_least"=true)
  (k_sums_least:PySem.W.keepIn K (.ref Du)=true)
  (a_tails:PySem.W.nsIn K mainGlobals "tails"=some (some (.ref JR)))
  (l_tails:K.lookup JR=some ⟨AG_,AD_,.func (PySem.W.fnOf "tails" "tails" (Ao JH) (Am JH) (Ae JH) .none AH_ AI_ AJ_ AE_ Wx AK_),AF_⟩)
  (c_tails:PySem.W.codeIn K Wx "tails"=true)
  (k_tails:PySem.W.keepIn K (.ref JR)=true)
  (a_sums_paper:PySem.W.nsIn K mainGlobals "sums_paper"=some (some (.ref Dy)))
  (l_sums_paper:K.lookup Dy=some ⟨RU,RQ,.func (PySem.W.fnOf "sums_paper" "sums_paper" (Ao C1) (Am C1) (Ae C1) .none RV RW RX RS KH RY),RT⟩)
  (c_sums_paper:PySem.W.codeIn K KH "sums_paper"=true)
  (k_sums_paper:PySem.W.keepIn K (.ref Dy)=true)
  (a__law_cell:PySem.W.nsIn K mainGlobals "_law_cell"=some (some (.ref AD)))
  (l__law_cell:K.lookup AD=some ⟨UK,UH,.func (PySem.W.fnOf "_law_cell" "_law_cell" (Ao B7) (Am B7) (Ae B7) .none UL UM UN UI L5 UO),UJ⟩)
  (c__law_cell:PySem.W.codeIn K L5 "_law_cell"=true)
  (k__law_cell:PySem.W.keepIn K (.ref AD)=true)
  (a__law_is_prime:PySem.W.nsIn K mainGlobals "_law_is_prime"=some (some (.ref BH)))
  (l__law_is_prime:K.lookup BH=some ⟨Mj,Mg,.func (PySem.W.fnOf "_law_is_prime" "_law_is_prime" (Ao BC) (Am BC) (Ae BC) .none Ml Mm Mn Mh Hr Mo),Mi⟩)
  (c__law_is_prime:PySem.W.codeIn K Hr "_law_is_prime"=true)
  (k__law_is_prime:PySem.W.keepIn K (.ref BH)=true)
  (a__law_prime:PySem.W.nsIn K mainGlobals "_law_prime"=some (some (.ref Dz)))
  (l__law_prime:K.lookup Dz=some ⟨R3,RZ,.func (PySem.W.fnOf "_law_prime" "_law_prime" (Ao C2) (Am C2) (Ae C2) .none R4 R5 R6 R0 KI R7),R1⟩)
  (c__law_prime:PySem.W.codeIn K KI "_law_prime"=true)
  (k__law_prime:PySem.W.keepIn K (.ref Dz)=true)
  (a__law_whole:PySem.W.nsIn K mainGlobals "_law_whole"=some (some (.ref Bj)))
  (l__law_whole:K.lookup Bj=some ⟨Sb,R8,.func (PySem.W.fnOf "_law_whole" "_law_whole" (Ao Co) (Am Co) (Ae Co) .none Sd Se Sf R9 KJ Sg),Sa⟩)
  (c__law_whole:PySem.W.codeIn K KJ "_law_whole"=true)
  (k__law_whole:PySem.W.keepIn K (.ref Bj)=true)
  (a__law_number:PySem.W.nsIn K mainGlobals "_law_number"=some (some (.ref AF)))
  (l__law_number:K.lookup AF=some ⟨Ow,Ot,.func (PySem.W.fnOf "_law_number" "_law_number" (Ao Bp) (Am Bp) (Ae Bp) .none Ox Oy Oz Ou JA OA),Ov⟩)
  (c__law_number:PySem.W.codeIn K JA "_law_number"=true)
  (k__law_number:PySem.W.keepIn K (.ref AF)=true)
  (a__law_row:PySem.W.nsIn K mainGlobals "_law_row"=some (some (.ref Cf)))
  (l__law_row:K.lookup Cf=some ⟨VL,VH,.func (PySem.W.fnOf "_law_row" "_law_row" (Ao D0) (Am D0) (Ae D0) .none VM VN VO VI NA VP),VJ⟩)
  (c__law_row:PySem.W.codeIn K NA "_law_row"=true)
  (k__law_row:PySem.W.keepIn K (.ref Cf)=true)
  (a__law_house:PySem.W.nsIn K mainGlobals "_law_house"=some (some (.ref DA)))
  (l__law_house:K.lookup DA=some ⟨Sk,Sh,.func (PySem.W.fnOf "_law_house" "_law_house" (Ao C3) (Am C3) (Ae C3) .none Sl Sn So Si KL Sq),Sj⟩)
  (c__law_house:PySem.W.codeIn K KL "_law_house"=true)
  (k__law_house:PySem.W.keepIn K (.ref DA)=true)
  (a__law_step:PySem.W.nsIn K mainGlobals "_law_step"=some (some (.ref DS)))
  (l__law_step:K.lookup DS=some ⟨US,UP,.func (PySem.W.fnOf "_law_step" "_law_step" (Ao DQ) (Am DQ) (Ae DQ) .none UT UU UW UQ L6 UX),UR⟩)
  (c__law_step:PySem.W.codeIn K L6 "_law_step"=true)
  (k__law_step:PySem.W.keepIn K (.ref DS)=true)
  (a__law_times:PySem.W.nsIn K mainGlobals "_law_times"=some (some (.ref Dm)))
  (l__law_times:K.lookup Dm=some ⟨Sv,Sr,.func (PySem.W.fnOf "_law_times" "_law_times" (Ao C4) (Am C4) (Ae C4) .none Sw Sx Sy Ss KN Sz),Su⟩)
  (c__law_times:PySem.W.codeIn K KN "_law_times"=true)
  (k__law_times:PySem.W.keepIn K (.ref Dm)=true)
  (a__law_behind:PySem.W.nsIn K mainGlobals "_law_behind"=some (some (.ref Cv)))
  (l__law_behind:K.lookup Cv=some ⟨OE,OB,.func (PySem.W.fnOf "_law_behind" "_law_behind" (Ao Cr) (Am Cr) (Ae Cr) .none OF OG OH OC JC OI),OD⟩)
  (c__law_behind:PySem.W.codeIn K JC "_law_behind"=true)
  (k__law_behind:PySem.W.keepIn K (.ref Cv)=true)
  (a__law_grown:PySem.W.nsIn K mainGlobals "_law_grown"=some (some (.ref Dp)))
  (l__law_grown:K.lookup Dp=some ⟨SF,SA,.func (PySem.W.fnOf "_law_grown" "_law_grown" (Ao C5) (Am C5) (Ae C5) .none SH SI SJ SD KO SK),SE⟩)
  (c__law_grown:PySem.W.codeIn K KO "_law_grown"=true)
  (k__law_grown:PySem.W.keepIn K (.ref Dp)=true)
  (a__law_column_on:PySem.W.nsIn K mainGlobals "_law_column_on"=some (some (.ref Bn)))
  (l__law_column_on:K.lookup Bn=some ⟨LH,LD,.func (PySem.W.fnOf "_law_column_on" "_law_column_on" (Ao Bm) (Am Bm) (Ae Bm) .none LI LJ LK LF GA LL),LG⟩)
  (c__law_column_on:PySem.W.codeIn K GA "_law_column_on"=true)
  (k__law_column_on:PySem.W.keepIn K (.ref Bn)=true)
  (a__law_row_less:PySem.W.nsIn K mainGlobals "_law_row_less"=some (some (.ref BI)))
  (l__law_row_less:K.lookup BI=some ⟨Ms,Mp,.func (PySem.W.fnOf "_law_row_less" "_law_row_less" (Ao BD) (Am BD) (Ae BD) .none Mt Mu Mv Mq Ht Mw),Mr⟩)
  (c__law_row_less:PySem.W.codeIn K Ht "_law_row_less"=true)
  (k__law_row_less:PySem.W.keepIn K (.ref BI)=true)
  (a__law_turned:PySem.W.nsIn K mainGlobals "_law_turned"=some (some (.ref Cw)))
  (l__law_turned:K.lookup Cw=some ⟨OM,OJ,.func (PySem.W.fnOf "_law_turned" "_law_turned" (Ao Cs) (Am Cs) (Ae Cs) .none ON OO OP OK JD OQ),OL⟩)
  (c__law_turned:PySem.W.codeIn K JD "_law_turned"=true)
  (k__law_turned:PySem.W.keepIn K (.ref Cw)=true)
  (a__law_another:PySem.W.nsIn K mainGlobals "_law_another"=some (some (.ref Cc)))
  (l__law_another:K.lookup Cc=some ⟨NF,NB,.func (PySem.W.fnOf "_law_another" "_law_another" (Ao B8) (Am B8) (Ae B8) .none NG NH NJ NC IW NL),ND⟩)
  (c__law_another:PySem.W.codeIn K IW "_law_another"=true)
  (k__law_another:PySem.W.keepIn K (.ref Cc)=true)
  (a__law_list_by:PySem.W.nsIn K mainGlobals "_law_list_by"=some (some (.ref Cb)))
  (l__law_list_by:K.lookup Cb=some ⟨NQ,NM,.func (PySem.W.fnOf "_law_list_by" "_law_list_by" (Ao B9) (Am B9) (Ae B9) .none NR NS NT NN IX NU),NO⟩)
  (c__law_list_by:PySem.W.codeIn K IX "_law_list_by"=true)
  (k__law_list_by:PySem.W.keepIn K (.ref Cb)=true)
  (a__law_mixed:PySem.W.nsIn K mainGlobals "_law_mixed"=some (some (.ref Dx)))
  (l__law_mixed:K.lookup Dx=some ⟨SS,SM,.func (PySem.W.fnOf "_law_mixed" "_law_mixed" (Ao C6) (Am C6) (Ae C6) .none SU SV SW SN KQ SX),SR⟩)
  (c__law_mixed:PySem.W.codeIn K KQ "_law_mixed"=true)
  (k__law_mixed:PySem.W.keepIn K (.ref Dx)=true)
  (a__law_is_word:PySem.W.nsIn K mainGlobals "_law_is_word"=some (some (.ref AV)))
  (l__law_is_word:K.lookup AV=some ⟨NY,NV,.func (PySem.W.fnOf "_law_is_word" "_law_is_word" (Ao Bx) (Am Bx) (Ae Bx) .none NZ N0 N1 NW IY N2),NX⟩)
  (c__law_is_word:PySem.W.codeIn K IY "_law_is_word"=true)
  (k__law_is_word:PySem.W.keepIn K (.ref AV)=true)
  (a__law_worth:PySem.W.nsIn K mainGlobals "_law_worth"=some (some (.ref Dv)))
  (l__law_worth:K.lookup Dv=some ⟨S2,SY,.func (PySem.W.fnOf "_law_worth" "_law_worth" (Ao C7) (Am C7) (Ae C7) .none S3 S4 S5 S0 KR S6),S1⟩)
  (c__law_worth:PySem.W.codeIn K KR "_law_worth"=true)
  (k__law_worth:PySem.W.keepIn K (.ref Dv)=true)
  (a__law_table:PySem.W.nsIn K mainGlobals "_law_table"=some (some (.ref DB)))
  (l__law_table:K.lookup DB=some ⟨Ta,S7,.func (PySem.W.fnOf "_law_table" "_law_table" (Ao C8) (Am C8) (Ae C8) .none Tc Td Te S8 KS Tf),S9⟩)
  (c__law_table:PySem.W.codeIn K KS "_law_table"=true)
  (k__law_table:PySem.W.keepIn K (.ref DB)=true)
  (a__law_tails_good:PySem.W.nsIn K mainGlobals "_law_tails_good"=some (some (.ref Bf)))
  (l__law_tails_good:K.lookup Bf=some ⟨KZ,KU,.func (PySem.W.fnOf "_law_tails_good" "_law_tails_good" (Ao Bd) (Am Bd) (Ae Bd) .none K0 K1 K2 KW Gb K3),KY⟩)
  (c__law_tails_good:PySem.W.codeIn K Gb "_law_tails_good"=true)
  (k__law_tails_good:PySem.W.keepIn K (.ref Bf)=true)
  (a__law_undoes:PySem.W.nsIn K mainGlobals "_law_undoes"=some (some (.ref CA)))
  (l__law_undoes:K.lookup CA=some ⟨OU,OR,.func (PySem.W.fnOf "_law_undoes" "_law_undoes" (Ao Ct) (Am Ct) (Ae Ct) .none OV OW OX OS JE OY),OT⟩)
  (c__law_undoes:PySem.W.codeIn K JE "_law_undoes"=true)
  (k__law_undoes:PySem.W.keepIn K (.ref CA)=true)
  (a_law:PySem.W.nsIn K mainGlobals "law"=some (some (.ref Cy_)))
  (l_law:K.lookup Cy_=some ⟨Ef_,Ed_,.func (PySem.W.fnOf "law" "law" (Ao Qh) (Am Qh) (Ae Qh) .none BH_ BI_ BJ_ BG_ Zv BK_),Ee_⟩)
  (c_law:PySem.W.codeIn K Zv "law"=true)
  (k_law:PySem.W.keepIn K (.ref Cy_)=true)
  (z_all:PySem.W.nsIn K mainGlobals "all"=some none)
  (z_bool:PySem.W.nsIn K mainGlobals "bool"=some none)
  (z_enumerate:PySem.W.nsIn K mainGlobals "enumerate"=some none)
  (z_int:PySem.W.nsIn K mainGlobals "int"=some none)
  (z_isinstance:PySem.W.nsIn K mainGlobals "isinstance"=some none)
  (z_len:PySem.W.nsIn K mainGlobals "len"=some none)
  (z_list:PySem.W.nsIn K mainGlobals "list"=some none)
  (z_max:PySem.W.nsIn K mainGlobals "max"=some none)
  (z_range:PySem.W.nsIn K mainGlobals "range"=some none)
  (z_reversed:PySem.W.nsIn K mainGlobals "reversed"=some none)
  (z_sum:PySem.W.nsIn K mainGlobals "sum"=some none)
  (z_tuple:PySem.W.nsIn K mainGlobals "tuple"=some none)
  (z_zip:PySem.W.nsIn K mainGlobals "zip"=some none)
  (m_AskError:PySem.W.nsIn K mainGlobals "AskError"=some (some (.ref C_AskError)))
  (m_BadWord:PySem.W.nsIn K mainGlobals "BadWord"=some (some (.ref C_BadWord)))
  (m_NoInverse:PySem.W.nsIn K mainGlobals "NoInverse"=some (some (.ref C_NoInverse)))
  (x_BadWord:PySem.W.excIn K C_BadWord bmV "ValueError.__new__"=true)
  (ga_BadWord:PySem.W.findIn K (.ref C_BadWord) "__getattribute__"=some (some (.builtin "BaseException.__getattribute__")))
  (hk_BadWord:PySem.W.findIn K (.ref C_BadWord) "__getattr__"=some none)
  {cd_BadWord:ClassData}
  (cl_BadWord:PySem.W.clsIn K C_BadWord=some cd_BadWord)
  (ca_BadWord:PySem.W.findIn K (.ref C_BadWord) "__class__"=some (some (.builtin "object.__class__")))
  (mo_BadWord:PySem.W.mroIn K C_BadWord (.type "object")=some true)
  (mb_BadWord:PySem.W.mroIn K C_BadWord (.type "BaseException")=some true)
  (e_BadWord:PySem.W.exmOne K (.ref C_BadWord) (.ref C_AskError)=some true)
  (v_BadWord:PySem.W.kitOne K (.ref C_BadWord) (.type "ValueError")=some true)
  (ee_BadWord:PySem.W.exmOne K (.ref C_BadWord) (.ref C_BadWord)=some true)
  (k_BadWord_AskError:PySem.W.kitOne K (.ref C_BadWord) (.ref C_AskError)=some true)
  (k_BadWord_BadWord:PySem.W.kitOne K (.ref C_BadWord) (.ref C_BadWord)=some true)
  (k_BadWord_NoInverse:PySem.W.kitOne K (.ref C_BadWord) (.ref C_NoInverse)=some false)
  (x_NoInverse:PySem.W.excIn K C_NoInverse bmV "ValueError.__new__"=true)
  (ga_NoInverse:PySem.W.findIn K (.ref C_NoInverse) "__getattribute__"=some (some (.builtin "BaseException.__getattribute__")))
  (hk_NoInverse:PySem.W.findIn K (.ref C_NoInverse) "__getattr__"=some none)
  {cd_NoInverse:ClassData}
  (cl_NoInverse:PySem.W.clsIn K C_NoInverse=some cd_NoInverse)
  (ca_NoInverse:PySem.W.findIn K (.ref C_NoInverse) "__class__"=some (some (.builtin "object.__class__")))
  (mo_NoInverse:PySem.W.mroIn K C_NoInverse (.type "object")=some true)
  (mb_NoInverse:PySem.W.mroIn K C_NoInverse (.type "BaseException")=some true)
  (e_NoInverse:PySem.W.exmOne K (.ref C_NoInverse) (.ref C_AskError)=some true)
  (v_NoInverse:PySem.W.kitOne K (.ref C_NoInverse) (.type "ValueError")=some true)
  (ee_NoInverse:PySem.W.exmOne K (.ref C_NoInverse) (.ref C_NoInverse)=some true)
  (k_NoInverse_AskError:PySem.W.kitOne K (.ref C_NoInverse) (.ref C_AskError)=some true)
  (k_NoInverse_BadWord:PySem.W.kitOne K (.ref C_NoInverse) (.ref C_BadWord)=some false)
  (k_NoInverse_NoInverse:PySem.W.kitOne K (.ref C_NoInverse) (.ref C_NoInverse)=some true)
  (gs:PySem.W.specialIn K (.builtin "object.__class__") "__get__"=some (some (.builtin "getset_descriptor.__get__")))
  (tk:PySem.W.takesIn K (.builtin "object.__class__")=some true)
  : ∃fd:FuncData,(∀(s:Shared) (v:Value),BindsTo s fd ⟨[v],[]⟩ [("script",v)])/\∀base:Heap,K.In base->base.Ns mainGlobals mg->FnOk l.prog w K mg base CX0 11 fa fd ["script"] (Am_ K):=by
 have e:=hfa.symm.trans (PySem.W.mg_of X G a_law)
 cases e
 have T:Txt mg:=⟨PySem.W.mg_none_of X G z_all,PySem.W.mg_none_of X G z_bool,PySem.W.mg_none_of X G z_enumerate,PySem.W.mg_none_of X G z_int,PySem.W.mg_none_of X G z_isinstance,PySem.W.mg_none_of X G z_len,PySem.W.mg_none_of X G z_list,PySem.W.mg_none_of X G z_max,PySem.W.mg_none_of X G z_range,PySem.W.mg_none_of X G z_reversed,PySem.W.mg_none_of X G z_sum,PySem.W.mg_none_of X G z_tuple,PySem.W.mg_none_of X G z_zip⟩
 have Z:Exs K mg C_AskError C_BadWord C_NoInverse:=⟨PySem.W.mg_of X G m_AskError,PySem.W.mg_of X G m_BadWord,PySem.W.mg_of X G m_NoInverse,x_BadWord,⟨ga_BadWord,hk_BadWord,by rw[cl_BadWord];rfl,ca_BadWord,gs,tk,mo_BadWord,mb_BadWord⟩,e_BadWord,v_BadWord,ee_BadWord,k_BadWord_AskError,k_BadWord_BadWord,k_BadWord_NoInverse,x_NoInverse,⟨ga_NoInverse,hk_NoInverse,by rw[cl_NoInverse];rfl,ca_NoInverse,gs,tk,mo_NoInverse,mb_NoInverse⟩,e_NoInverse,v_NoInverse,ee_NoInverse,k_NoInverse_AskError,k_NoInverse_BadWord,k_NoInverse_NoInverse⟩
 have HW:=AH (st:=Fs) l_inverse c_inverse k_inverse
 have Nd:=HW.binds (ps:=["p","number"]) fun _ _ _ _ _ _ us hl=>(by obtain⟨y0,y1,rfl⟩:=len2 hl;rfl)
 have Nf:=PySem.W.mg_of X G a_inverse
 have F0:=AH (st:=FW) l_scaled c_scaled k_scaled
 have Jd:=F0.binds (ps:=["p","factor","row"]) fun _ _ _ _ _ _ us hl=>(by obtain⟨y0,y1,y2,rfl⟩:=len3 hl;rfl)
 have Je:=PySem.W.mg_of X G a_scaled
 have Na:=AH (st:=JG) l_added c_added k_added
 have Vp:=Na.binds (ps:=["p","row","other"]) fun _ _ _ _ _ _ us hl=>(by obtain⟨y0,y1,y2,rfl⟩:=len3 hl;rfl)
 have Vq:=PySem.W.mg_of X G a_added
 have ER:=AH (st:=EO) l_product c_product k_product
 have Gx:=ER.binds (ps:=["p","row","other"]) fun _ _ _ _ _ _ us hl=>(by obtain⟨y0,y1,y2,rfl⟩:=len3 hl;rfl)
 have Gy:=PySem.W.mg_of X G a_product
 have AG:=AH (st:=AW) l_place_of_first c_place_of_first k_place_of_first
 have AY:=AG.binds (ps:=["row"]) fun _ _ _ _ _ _ us hl=>(by obtain⟨y0,rfl⟩:=len1 hl;rfl)
 have AZ:=PySem.W.mg_of X G a_place_of_first
 have BZ:=AH (st:=DI) l_left_of c_left_of k_left_of
 have CC:=BZ.binds (ps:=["p","bases","row"]) fun _ _ _ _ _ _ us hl=>(by obtain⟨y0,y1,y2,rfl⟩:=len3 hl;rfl)
 have CD:=PySem.W.mg_of X G a_left_of
 have Dd:=AH (st:=CQ) l_with_base c_with_base k_with_base
 have EB:=Dd.binds (ps:=["p","bases","left","place"]) fun _ _ _ _ _ _ us hl=>(by obtain⟨y0,y1,y2,y3,rfl⟩:=len4 hl;rfl)
 have EC:=PySem.W.mg_of X G a_with_base
 have B0:=AH (st:=A3) l_chosen_and_bases c_chosen_and_bases k_chosen_and_bases
 have Ei:=B0.binds (ps:=["p","rows","size"]) fun _ _ _ _ _ _ us hl=>(by obtain⟨y0,y1,y2,rfl⟩:=len3 hl;rfl)
 have Ej:=PySem.W.mg_of X G a_chosen_and_bases
 have HX:=AH (st:=J9) l_unit c_unit k_unit
 have Ki:=HX.binds (ps:=["size","place"]) fun _ _ _ _ _ _ us hl=>(by obtain⟨y0,y1,rfl⟩:=len2 hl;rfl)
 have Kj:=PySem.W.mg_of X G a_unit
 have A2:=AH (st:=A1) l_factors_of_each c_factors_of_each k_factors_of_each
 have BA:=A2.binds (ps:=["p","rows","some","size"]) fun _ _ _ _ _ _ us hl=>(by obtain⟨y0,y1,y2,y3,rfl⟩:=len4 hl;rfl)
 have BB:=PySem.W.mg_of X G a_factors_of_each
 have HZ:=AH (st:=Ft) l_made_of c_made_of k_made_of
 have Nk:=HZ.binds (ps:=["p","rows","parts","size"]) fun _ _ _ _ _ _ us hl=>(by obtain⟨y0,y1,y2,y3,rfl⟩:=len4 hl;rfl)
 have Nl:=PySem.W.mg_of X G a_made_of
 have HY:=AH (st:=Fu) l_is_word c_is_word k_is_word
 have Nh:=HY.binds (ps:=["letters","word"]) fun _ _ _ _ _ _ us hl=>(by obtain⟨y0,y1,rfl⟩:=len2 hl;rfl)
 have Ni:=PySem.W.mg_of X G a_is_word
 have ES:=AH (st:=CS) l_check_word c_check_word k_check_word
 have Ib:=ES.binds (ps:=["letters","word"]) fun _ _ _ _ _ _ us hl=>(by obtain⟨y0,y1,rfl⟩:=len2 hl;rfl)
 have Ic:=PySem.W.mg_of X G a_check_word
 have Df:=AH (st:=Ed) l_stepped c_stepped k_stepped
 have El:=Df.binds (ps:=["house","row","letter"]) fun _ _ _ _ _ _ us hl=>(by obtain⟨y0,y1,y2,rfl⟩:=len3 hl;rfl)
 have Em:=PySem.W.mg_of X G a_stepped
 have ET:=AH (st:=CT) l_rows_along c_rows_along k_rows_along
 have Ig:=ET.binds (ps:=["house","word"]) fun _ _ _ _ _ _ us hl=>(by obtain⟨y0,y1,rfl⟩:=len2 hl;rfl)
 have Ih:=PySem.W.mg_of X G a_rows_along
 have EU:=AH (st:=CU) l_row_behind c_row_behind k_row_behind
 have Ij:=EU.binds (ps:=["house","word"]) fun _ _ _ _ _ _ us hl=>(by obtain⟨y0,y1,rfl⟩:=len2 hl;rfl)
 have Ik:=PySem.W.mg_of X G a_row_behind
 have IA:=AH (st:=HI) l_worth c_worth k_worth
 have Lr:=IA.binds (ps:=["house","word"]) fun _ _ _ _ _ _ us hl=>(by obtain⟨y0,y1,rfl⟩:=len2 hl;rfl)
 have Ls:=PySem.W.mg_of X G a_worth
 have EW:=AH (st:=CV) l_table_back c_table_back k_table_back
 have Im:=EW.binds (ps:=["table"]) fun _ _ _ _ _ _ us hl=>(by obtain⟨y0,rfl⟩:=len1 hl;rfl)
 have Io:=PySem.W.mg_of X G a_table_back
 have Cz:=AH (st:=CW) l_sums_back c_sums_back k_sums_back
 have DV:=Cz.binds (ps:=["house"]) fun _ _ _ _ _ _ us hl=>(by obtain⟨y0,rfl⟩:=len1 hl;rfl)
 have DW:=PySem.W.mg_of X G a_sums_back
 have Bi:=AH (st:=BX) l_basis_rows c_basis_rows k_basis_rows
 have B3:=Bi.binds (ps:=["house"]) fun _ _ _ _ _ _ us hl=>(by obtain⟨y0,rfl⟩:=len1 hl;rfl)
 have B4:=PySem.W.mg_of X G a_basis_rows
 have EZ:=AH (st:=CY) l_sums_basis c_sums_basis k_sums_basis
 have IC:=EZ.binds (ps:=["house"]) fun _ _ _ _ _ _ us hl=>(by obtain⟨y0,rfl⟩:=len1 hl;rfl)
 have ID:=PySem.W.mg_of X G a_sums_basis
 have D9:=AH (st:=DZ) l_on_basis c_on_basis k_on_basis
 have Fi:=D9.binds (ps:=["house"]) fun _ _ _ _ _ _ us hl=>(by obtain⟨y0,rfl⟩:=len1 hl;rfl)
 have Fj:=PySem.W.mg_of X G a_on_basis
 have Dt:=AH (st:=CZ) l_by_worths c_by_worths k_by_worths
 have EF:=Dt.binds (ps:=["house"]) fun _ _ _ _ _ _ us hl=>(by obtain⟨y0,rfl⟩:=len1 hl;rfl)
 have EG:=PySem.W.mg_of X G a_by_worths
 have B5:=AH (st:=BY) l_sums_access c_sums_access k_sums_access
 have DF:=B5.binds (ps:=["house"]) fun _ _ _ _ _ _ us hl=>(by obtain⟨y0,rfl⟩:=len1 hl;rfl)
 have DG:=PySem.W.mg_of X G a_sums_access
 have E1:=AH (st:=C0) l_sums_least c_sums_least k_sums_least
 have IF:=E1.binds (ps:=["house"]) fun _ _ _ _ _ _ us hl=>(by obtain⟨y0,rfl⟩:=len1 hl;rfl)
 have IG:=PySem.W.mg_of X G a_sums_least
 have Ny:=AH (st:=JH) l_tails c_tails k_tails
 have Vx:=Ny.binds (ps:=["least"]) fun _ _ _ _ _ _ us hl=>(by obtain⟨y0,rfl⟩:=len1 hl;rfl)
 have Vy:=PySem.W.mg_of X G a_tails
 have E4:=AH (st:=C1) l_sums_paper c_sums_paper k_sums_paper
 have IQ:=E4.binds (ps:=["house"]) fun _ _ _ _ _ _ us hl=>(by obtain⟨y0,rfl⟩:=len1 hl;rfl)
 have IS:=PySem.W.mg_of X G a_sums_paper
 have AE:=AH (st:=B7) l__law_cell c__law_cell k__law_cell
 have AM:=AE.binds (ps:=["script","k"]) fun _ _ _ _ _ _ us hl=>(by obtain⟨y0,y1,rfl⟩:=len2 hl;rfl)
 have AN:=PySem.W.mg_of X G a__law_cell
 have Dk:=AH (st:=BC) l__law_is_prime c__law_is_prime k__law_is_prime
 have FG:=Dk.binds (ps:=["number"]) fun _ _ _ _ _ _ us hl=>(by obtain⟨y0,rfl⟩:=len1 hl;rfl)
 have FH:=PySem.W.mg_of X G a__law_is_prime
 have E5:=AH (st:=C2) l__law_prime c__law_prime k__law_prime
 have IU:=E5.binds (ps:=["cell"]) fun _ _ _ _ _ _ us hl=>(by obtain⟨y0,rfl⟩:=len1 hl;rfl)
 have IV:=PySem.W.mg_of X G a__law_prime
 have Cp:=AH (st:=Co) l__law_whole c__law_whole k__law_whole
 have D7:=Cp.binds (ps:=["found"]) fun _ _ _ _ _ _ us hl=>(by obtain⟨y0,rfl⟩:=len1 hl;rfl)
 have D8:=PySem.W.mg_of X G a__law_whole
 have A9:=AH (st:=Bp) l__law_number c__law_number k__law_number
 have Bt:=A9.binds (ps:=["script","k","p"]) fun _ _ _ _ _ _ us hl=>(by obtain⟨y0,y1,y2,rfl⟩:=len3 hl;rfl)
 have Bu:=PySem.W.mg_of X G a__law_number
 have CI:=AH (st:=D0) l__law_row c__law_row k__law_row
 have D3:=CI.binds (ps:=["script","at","many","p"]) fun _ _ _ _ _ _ us hl=>(by obtain⟨y0,y1,y2,y3,rfl⟩:=len4 hl;rfl)
 have D4:=PySem.W.mg_of X G a__law_row
 have Ea:=AH (st:=C3) l__law_house c__law_house k__law_house
 have F5:=Ea.binds (ps:=["script","at","p","letters","many"]) fun _ _ _ _ _ _ us hl=>(by obtain⟨y0,y1,y2,y3,y4,rfl⟩:=len5 hl;rfl)
 have F6:=PySem.W.mg_of X G a__law_house
 have FJ:=AH (st:=DQ) l__law_step c__law_step k__law_step
 have JN:=FJ.binds (ps:=["p","row","table"]) fun _ _ _ _ _ _ us hl=>(by obtain⟨y0,y1,y2,rfl⟩:=len3 hl;rfl)
 have JO:=PySem.W.mg_of X G a__law_step
 have EX:=AH (st:=C4) l__law_times c__law_times k__law_times
 have Ir:=EX.binds (ps:=["p","one","two"]) fun _ _ _ _ _ _ us hl=>(by obtain⟨y0,y1,y2,rfl⟩:=len3 hl;rfl)
 have Iu:=PySem.W.mg_of X G a__law_times
 have Eo:=AH (st:=Cr) l__law_behind c__law_behind k__law_behind
 have G0:=Eo.binds (ps:=["house","word"]) fun _ _ _ _ _ _ us hl=>(by obtain⟨y0,y1,rfl⟩:=len2 hl;rfl)
 have G3:=PySem.W.mg_of X G a__law_behind
 have EY:=AH (st:=C5) l__law_grown c__law_grown k__law_grown
 have Iw:=EY.binds (ps:=["house","script","at"]) fun _ _ _ _ _ _ us hl=>(by obtain⟨y0,y1,y2,rfl⟩:=len3 hl;rfl)
 have Iy:=PySem.W.mg_of X G a__law_grown
 have Bo:=AH (st:=Bm) l__law_column_on c__law_column_on k__law_column_on
 have CG:=Bo.binds (ps:=["p","row","i","j","times"]) fun _ _ _ _ _ _ us hl=>(by obtain⟨y0,y1,y2,y3,y4,rfl⟩:=len5 hl;rfl)
 have CH:=PySem.W.mg_of X G a__law_column_on
 have Dn:=AH (st:=BD) l__law_row_less c__law_row_less k__law_row_less
 have FL:=Dn.binds (ps:=["p","row","times","other"]) fun _ _ _ _ _ _ us hl=>(by obtain⟨y0,y1,y2,y3,rfl⟩:=len4 hl;rfl)
 have FN:=PySem.W.mg_of X G a__law_row_less
 have Ep:=AH (st:=Cs) l__law_turned c__law_turned k__law_turned
 have G9:=Ep.binds (ps:=["house","i","j","times"]) fun _ _ _ _ _ _ us hl=>(by obtain⟨y0,y1,y2,y3,rfl⟩:=len4 hl;rfl)
 have Ha:=PySem.W.mg_of X G a__law_turned
 have DK:=AH (st:=B8) l__law_another c__law_another k__law_another
 have Gj:=DK.binds (ps:=["house","script","at"]) fun _ _ _ _ _ _ us hl=>(by obtain⟨y0,y1,y2,rfl⟩:=len3 hl;rfl)
 have Gk:=PySem.W.mg_of X G a__law_another
 have DJ:=AH (st:=B9) l__law_list_by c__law_list_by k__law_list_by
 have Gg:=DJ.binds (ps:=["p","found","many"]) fun _ _ _ _ _ _ us hl=>(by obtain⟨y0,y1,y2,rfl⟩:=len3 hl;rfl)
 have Gh:=PySem.W.mg_of X G a__law_list_by
 have E3:=AH (st:=C6) l__law_mixed c__law_mixed k__law_mixed
 have IL:=E3.binds (ps:=["p","rows","amounts","size"]) fun _ _ _ _ _ _ us hl=>(by obtain⟨y0,y1,y2,y3,rfl⟩:=len4 hl;rfl)
 have IM:=PySem.W.mg_of X G a__law_mixed
 have By:=AH (st:=Bx) l__law_is_word c__law_is_word k__law_is_word
 have CK:=By.binds (ps:=["found","letters"]) fun _ _ _ _ _ _ us hl=>(by obtain⟨y0,y1,rfl⟩:=len2 hl;rfl)
 have CL:=PySem.W.mg_of X G a__law_is_word
 have E2:=AH (st:=C7) l__law_worth c__law_worth k__law_worth
 have II:=E2.binds (ps:=["house","word"]) fun _ _ _ _ _ _ us hl=>(by obtain⟨y0,y1,rfl⟩:=len2 hl;rfl)
 have IJ:=PySem.W.mg_of X G a__law_worth
 have Eb:=AH (st:=C8) l__law_table c__law_table k__law_table
 have F8:=Eb.binds (ps:=["house","words","tails_v"]) fun _ _ _ _ _ _ us hl=>(by obtain⟨y0,y1,y2,rfl⟩:=len3 hl;rfl)
 have F9:=PySem.W.mg_of X G a__law_table
 have Ci:=AH (st:=Bd) l__law_tails_good c__law_tails_good k__law_tails_good
 have EI:=Ci.binds (ps:=["tails_v","letters","many"]) fun _ _ _ _ _ _ us hl=>(by obtain⟨y0,y1,y2,rfl⟩:=len3 hl;rfl)
 have EJ:=PySem.W.mg_of X G a__law_tails_good
 have Es:=AH (st:=Ct) l__law_undoes c__law_undoes k__law_undoes
 have Hl:=Es.binds (ps:=["p","table","undone"]) fun _ _ _ _ _ _ us hl=>(by obtain⟨y0,y1,y2,rfl⟩:=len3 hl;rfl)
 have Hm:=PySem.W.mg_of X G a__law_undoes
 have Eg_:=AH (st:=Qh) l_law c_law k_law
 have EA_:=Eg_.binds (ps:=["script"]) fun _ _ _ _ _ _ us hl=>(by obtain⟨y0,rfl⟩:=len1 hl;rfl)
 have EB_:=PySem.W.mg_of X G a_law
 refine⟨PySem.W.fnOf "law" "law" (Ao Qh) (Am Qh) (Ae Qh) .none BH_ BI_ BJ_ BG_ Zv BK_,fun s v=>.of_eq rfl,fun base _ _=>?_⟩
 have Nb:=WQ (P:=l.prog) (w:=w) (base:=base) HW T Z
 have Jc:=Y9 (P:=l.prog) (w:=w) (base:=base) F0 T Z
 have Vo:=Ad_ (P:=l.prog) (w:=w) (base:=base) Na T Z
 have Gw:=WR (P:=l.prog) (w:=w) (base:=base) ER T Z
 have AX:=Lk (P:=l.prog) (w:=w) (base:=base) AG T Z
 have CB:=WU (P:=l.prog) (w:=w) (base:=base) BZ T Z Jc F0 Jd Je Vo Na Vp Vq
 have EA:=T1 (P:=l.prog) (w:=w) (base:=base) Dd T Z Nb HW Nd Nf Jc F0 Jd Je CB BZ CC CD
 have Eh:=JK (P:=l.prog) (w:=w) (base:=base) B0 T Z AX AG AY AZ CB BZ CC CD EA Dd EB EC
 have Kh:=Cu_ (P:=l.prog) (w:=w) (base:=base) HX T Z
 have Bz:=Kg (P:=l.prog) (w:=w) (base:=base) A2 T Z AX AG AY AZ CB BZ CC CD Eh B0 Ei Ej Kh HX Ki Kj
 have Nj:=WT (P:=l.prog) (w:=w) (base:=base) HZ T Z Gw ER Gx Gy
 have Ng:=WW (P:=l.prog) (w:=w) (base:=base) HY T Z
 have Ia:=Qr (P:=l.prog) (w:=w) (base:=base) ES T Z Ng HY Nh Ni
 have Ek:=WX (P:=l.prog) (w:=w) (base:=base) Df T Z Nj HZ Nk Nl
 have Ie:=Qs (P:=l.prog) (w:=w) (base:=base) ET T Z Ia ES Ib Ic Ek Df El Em
 have Ii:=Qt (P:=l.prog) (w:=w) (base:=base) EU T Z Ie ET Ig Ih
 have Lq:=Af_ (P:=l.prog) (w:=w) (base:=base) IA T Z Gw ER Gx Gy Ii EU Ij Ik
 have Il:=Qv (P:=l.prog) (w:=w) (base:=base) EW T Z
 have DU:=T5 (P:=l.prog) (w:=w) (base:=base) Cz T Z Il EW Im Io
 have B2:=Qx (P:=l.prog) (w:=w) (base:=base) Bi T Z AX AG AY AZ CB BZ CC CD EA Dd EB EC Ek Df El Em
 have IB:=Qy (P:=l.prog) (w:=w) (base:=base) EZ T Z Bz A2 BA BB Ek Df El Em B2 Bi B3 B4
 have Fh:=Vv (P:=l.prog) (w:=w) (base:=base) D9 T Z Kh HX Ki Kj Lq IA Lr Ls IB EZ IC ID
 have EE:=Uc (P:=l.prog) (w:=w) (base:=base) Dt T Z DU Cz DV DW Fh D9 Fi Fj
 have DE:=Oe (P:=l.prog) (w:=w) (base:=base) B5 T Z B2 Bi B3 B4 EE Dt EF EG
 have IE:=QJ (P:=l.prog) (w:=w) (base:=base) E1 T Z Fh D9 Fi Fj EE Dt EF EG
 have Vw:=Ak_ (P:=l.prog) (w:=w) (base:=base) Ny T Z DU Cz DV DW B2 Bi B3 B4
 have IP:=QL (P:=l.prog) (w:=w) (base:=base) E4 T Z Kh HX Ki Kj Bz A2 BA BB Lq IA Lr Ls DE B5 DF DG IE E1 IF IG Vw Ny Vx Vy
 have AL:=T7 (P:=l.prog) (w:=w) (base:=base) AE T Z
 have FF:=Me (P:=l.prog) (w:=w) (base:=base) Dk T Z
 have IT:=QA (P:=l.prog) (w:=w) (base:=base) E5 T Z FF Dk FG FH
 have D5:=QC (P:=l.prog) (w:=w) (base:=base) Cp T Z
 have Br:=Ob (P:=l.prog) (w:=w) (base:=base) A9 T Z AL AE AM AN
 have D1:=Vt (P:=l.prog) (w:=w) (base:=base) CI T Z Br A9 Bt Bu
 have F4:=QF (P:=l.prog) (w:=w) (base:=base) Ea T Z D1 CI D3 D4
 have JL:=T9 (P:=l.prog) (w:=w) (base:=base) FJ T Z
 have Iq:=QE (P:=l.prog) (w:=w) (base:=base) EX T Z
 have GZ:=Oc (P:=l.prog) (w:=w) (base:=base) Eo T Z JL FJ JN JO
 have Iv:=QH (P:=l.prog) (w:=w) (base:=base) EY T Z AL AE AM AN Br A9 Bt Bu D1 CI D3 D4
 have CF:=Lp (P:=l.prog) (w:=w) (base:=base) Bo T Z
 have FK:=Mf (P:=l.prog) (w:=w) (base:=base) Dn T Z
 have G8:=Od (P:=l.prog) (w:=w) (base:=base) Ep T Z CF Bo CG CH FK Dn FL FN
 have Gi:=Nt (P:=l.prog) (w:=w) (base:=base) DK T Z AL AE AM AN Br A9 Bt Bu Iv EY Iw Iy G8 Ep G9 Ha
 have Gf:=Nv (P:=l.prog) (w:=w) (base:=base) DJ T Z D5 Cp D7 D8
 have IK:=QI (P:=l.prog) (w:=w) (base:=base) E3 T Z
 have CJ:=Nw (P:=l.prog) (w:=w) (base:=base) By T Z D5 Cp D7 D8
 have IH:=QG (P:=l.prog) (w:=w) (base:=base) E2 T Z Iq EX Ir Iu GZ Eo G0 G3
 have F7:=QN (P:=l.prog) (w:=w) (base:=base) Eb T Z IH E2 II IJ
 have EH:=Kn (P:=l.prog) (w:=w) (base:=base) Ci T Z CJ By CK CL
 have Hk:=Of (P:=l.prog) (w:=w) (base:=base) Es T Z Gf DJ Gg Gh IK E3 IL IM
 have Ez_:=Ec_ (P:=l.prog) (w:=w) (base:=base) Eg_ T Z DE B5 DF DG IP E4 IQ IS AL AE AM AN IT E5 IU IV F4 Ea F5 F6 Gi DK Gj Gk CJ By CK CL F7 Eb F8 F9 EH Ci EI EJ Hk Es Hl Hm
 exact Ez_
theorem walk {l:PySem.W.OpenLaw}{q:Program}{loose:List Str}{XP:(Str->Option Value)->Heap->Prop}{YP:World->Heap->Prop}{d:DefRec}{K:Params->PySem.W.Frag}(hn:l.most=some 63)(hdf:d.params.defaults=[])
  (hY:∀(w:World) (h:Heap),YP w h->(K w.params).In h)
  (F:∀(w:World) (mg:Str->Option Value) (fa:Addr) (h:Heap),(K w.params).In h->h.Ns mainGlobals mg->mg d.name=some (.ref fa) ->
   ∃fd:FuncData,(∀(s:Shared) (u:Value),BindsTo s fd ⟨[u],[]⟩ [("script",u)])/\∀base:Heap,(K w.params).In base->base.Ns mainGlobals mg->FnOk l.prog w (K w.params) mg base CX0 11 fa fd ["script"] (Am_ (K w.params))):
  PySem.W.WalkO q loose XP YP l.row.toRowW d [] (fun f vs=>PySem.call f vs):=
 L2.walk_of (n:=63) (k:=11) (x := "script") (CX:=fun _=>CX0) (sp:=fun w=>Am_ (K w.params)) hn (by decide) hdf ⟨rfl,by decide,by decide⟩ hY F (fun _ _ a ns hl _ hS=>⟨a,ns,rfl,hS,hl,fun _=>rfl⟩) fun _ _ _ _ _ z=>z
end Mine
structure PySem.W.Fast:Prop where (tw14041273437821893987 tw3779850275839809904 tw5986692087612508634 tw7755950206426561314 tw6453945408475792760 tw7613021790444289252 tw11105048578880804399 tw14727274641021246031 tw11339140085674737006 tw11034359110134142905 tw81390053964846464 tw15598973408695679264 tw15141538247579135625 tw11322932279012589944 tw4953409931566394629 tw6724059670797166684 tw2532380303539581313 tw9453255534063025247 tw13692596234366172358 tw3731288823287692146 tw6557137387860372154 tw14377041448467039025 tw13106866265360270908 tw1328803822158013420 tw4553906204722816962 tw12295282577109683069 tw12286212355995095390 tw11154367579064851924 tw1536109853385502657 tw12476441634288189079 tw15821754787193783547 tw7765138316992377946 tw7169625960788873562 tw146562967005363806 tw6686215296903579571 tw2029763931354984756 tw2070674837744264659 tw2453636362942454883 tw7955848254434793972 tw6834548005717687508 tw12159611803085545050 tw13959549090352561911 tw14736182699642677103 tw2018185570804900221 tw2222425048828571424 tw4102593128778428322 tw279013182559734458 tw11119948560356844057 tw11955693273480809462 tw14064773967161670336 tw1309228409723067843 tw3818183463987563811 tw15812499031233662936 tw15421298973269622450 tw32145584720555391 tw13960658700625729768 tw1105935599524306308 tw12787949877154613830 tw2375138391626654894 tw9723288658795476861 tw11463294286858847389 tw465591863022310714 tw4029797853868224968 tw13423001252535416576 tw18396363228184426761 tw18432130136746512755 tw8799706627841437628 tw3479733760192299317 tw10928473226392989943 tw6060432178341052103 tw17099562358463798568 tw12087182574234855743 tw3611734622207789173 tw12909309929694228124 tw5765500513520695160 tw1923187628689503396 tw10660376758347152419 tw1493228693324006617 tw7083313176373229051 tw9538758836787886937 tw11077688167423940769 tw17819128778966642600 tw8395413908460501252 tw10391427663691626297 tw7329713219690105680 tw10841949650547037784 tw10585042654966373227 tw9317687722416142641 tw3513753837950168642 tw11855849488411269836 tw4858395571505302059 tw15275670568131594405 tw17049476685692299307 tw7445754906792975320 tw7713477975473228134 tw3477285965171226942 tw17662099324052342523 tw16913892740919153071 tw3944188048471402362 tw8822770487858284885 tw12976229803976884972 tw14198129316815879250 tw14891639856717466725 tw1599662352465670620 tw14788217649965255139 tw4199084179543193223 tw13517971166961742678 tw9431217470214286207 tw15223929670365012040 tw9324267288416798457 tw5951983202632296335 tw8911971942154289886 tw6169802037507185825 tw8343209664117337895 tw2607783068263938001 tw6674723373167059696 tw11143587534756610713 tw5514367103147965522 tw4857184870193627234 tw17032196361426241399 tw14102356899695449394 tw14839430257237688592 tw11413034071327223275 tw7960671872170763113 tw3520495158288070970 tw13186129865284576114 tw18379387146650652165 tw11828831179301514414 tw7860924317214097330 tw8260387562749596828 tw8056733066456193352 tw6471699732957456509 tw2872995818226459257 tw6585102174803378554 tw12739498691951246063 tw12706450603427220659 tw13559249059409362720 tw4962352742067522633 tw6116807269091586344 tw12361538341873165054 tw12321162950273710296 tw1501309093706135002 tw6419100453386754949 tw15248948140781376052 tw14808705669438290450 tw4856174857255948053 tw15270854929768495555 tw13850705528777998703 tw879699409931115191 tw8348962878011451374 tw3569975674525126674 tw4517368628414485133 tw6174138597433631165 tw7142418349438108471 tw6892101190342351018 tw13714640031988056921 tw6522001487408140732 tw16471850943715510758 tw13435371514956873146 tw8936699621668166589 tw10248665523342711698 tw15648400972063572317 tw10147869847328895164 tw4555481947658088276 tw18217580322337223065 tw893890332211923050 tw1353603060568425005 tw7124316814432858757 tw9358608649494997627 tw8157114828096476058 tw8861336687865386061 tw6591200398145005974 tw10672600194121412057 tw8056274519260110900 tw16065016202820050932 tw7015443712598545178 tw234761042688283086 tw4152591743971749370 tw10467777701753766980 tw2350734308508861453 tw12087945099121762264 tw8153762657852173269 tw16945305289217825846 tw3392390790267217539 tw1082538583349712321 tw12868424483871787786 tw12368898711325483236 tw15555711662176534100 tw6033623178586353689 tw14155331068790751961 tw6480918880919893984 tw5957828434754478512 tw15599614284133209387 tw15908699563052592671 tw10746092811959087018 tw8088466026472606549 tw3879772869232798483 tw8396786763114035586 tw14332609634211837392 tw17862194106275326324 tw14769962038673873274 tw12078436905788125887 tw6844681500129664241 tw6841965365384507426 tw13496185674821919302 tw10543677166319566465 tw1250461773474681485 tw15161749330264463131 tw18317541613361370476 tw15368206528891263114 tw12411120049779693329 tw5510498665498062465 tw7208439777837307489 tw16725196884079146930 tw1316878622858820427 tw15921977294824023888 tw2814409957972501103 tw7186655540875236981 tw16620641579663969123 tw1242879424347960971 tw2289779604826942398 tw8368805268317271611 tw13375372635680850356 tw6430697574938244740 tw2902711561772114697 tw15971395265013995108 tw195879178058179036 tw11945301141090642425 tw17761328107858093662 tw1569719634528141635 tw9071011810706271280 tw10883358424368902979 tw11807328543465378780 tw5169536809161631278 tw7235262587793590669 tw8367485703496179074 tw8302606086448224883 tw10461228657621687003 tw8779843659207780807 tw1389509921310522792 tw5110973623822785267 tw8669157292434077609 tw15339613797959759858 tw4090009373331574377 tw7976406670719879284 tw411536635765713096 tw12186298375989776564 tw2145733521618632552 tw3222638314818006604 tw6744129664556421944 tw279998802279384291 tw8047260934359044343 tw17232541316814622827 tw15051258992099890778 tw11187823258014841803 tw360830604948631409 tw15721934932924182894 tw1879312164078678731 tw7751063855240430446 tw17695640220619212257 tw9876667769907895091 tw17363840751796488713 tw2845847834985741663 tw6561293108773212367 tw5574194141689596430 tw17327929118097604385 tw14936923454998224373 tw16986266200048528861 tw15608274132582598390 tw531404790091106212 tw1305081307470933370 tw10932333124452022051 tw13313459550120391246 tw6815819290597766506 tw5461864252304156795 tw9981851284452832497 tw3134321114092021631 tw14730072603094747991 tw2833901281342133719 tw7216416442823711191 tw313550127392325186 tw1187700984041731811 tw472343441232033837 tw9718394802819600243 tw17292854543855503781 tw14170551204104448441 tw17681030024960259648 tw9640470602359634134 tw11904849065977536511 tw11351230270783546342 tw10036099700140866894 tw13275156069538976063 tw1307483068497564680 tw11788750097054322700 tw2251539116814952711 tw13541198064870631291 tw7865372458470024827 tw15024623790240106283 tw13390883260631459642 tw15858291815130981517 tw12594513333467590895 tw2081001654157039903 tw6624220794091605006 tw15608076902404203655 tw8908050001244217248 tw1141839913821280586 tw2702455104803759349 tw54147586536110110 tw6524323717757863619 tw1800994283908560172 tw1999665804782116673 tw3910289353249274528 tw5780854880680250901 tw11853845036719178987 tw10019440659941932374 tw16775276758287308242 tw9734673228881503377 tw373897881758280298 tw17122561701653746648 tw9749990538504817619 tw10620803417543996643 tw15753676723501057419 tw7446287630861219087 tw5343665363326596271 tw13074259697216815096 tw7006907209256479375 tw4311987750488860985 tw6926662333269550446 tw15160687223296008696 tw8177553298744109384 tw1400402299859921006 tw5599403758127010798 tw8441647919021780484 tw2189292077861829740 tw10515843922224616710 tw3217551403246331828 tw5797591367938564699 tw10076332837025291567 tw9153755997650666758 tw3872585881521274304 tw606317191988635991 tw6889978350230419017 tw3251153559617297930 tw13201444869079323700 tw9728561237898986241 tw9447876194965192130 tw902734675404842831 tw17709025612190605339 tw8416579264324629074 tw11090228860055544292 tw221982572763398022 tw330423759045642362 tw11124913360644027528 tw12603771361334257429 tw9906375357928481319 tw4532192485380104772 tw14055691973902259060 tw5948778224323819491 tw8093350411657681845 tw18141816970813678190 tw6614377082331685620 tw3877120403378260459 tw187900565577328423 tw8691719799445308578 tw6043588263436942207 tw3340623226791438836 tw11461426146410463387 tw14065316906665554023 tw8873027254830706811 tw10997301266605772203 tw14776017082737829203 tw17794909016332430976 tw6483913054883275758 tw11934456312426443380 tw16698497300064974428 tw11805874783810863950 tw8593141197970341467 tw11131877664145673843 tw3435047087930376206 tw14118333372863848957 tw12302259610149596569 tw8352542132654114722 tw1194076638193496223 tw62001327302187349 tw3035520902285643560 tw3025591806957274882 tw11980417830650076605 tw17208000256825880211 tw103818730310126698 tw8549666366648090969 tw1782220626387522408 tw12391656145034109084 tw2321804327003129178:True)
open PySem PySem.W PyProof.Rows
set_option maxRecDepth 100000 in
set_option maxHeartbeats 0 in
theorem PySem.Challenge.cw_guessroom_k70_whole_paper_holds : PySem.Challenge.rw_guessroom_k70_whole_paper.Holds := by
  w_on; o_law; k_head; (case hw => w_witness2)
  k_fill
  refine Mine.walk (l := PySem.Challenge.rw_guessroom_k70_whole_paper) rfl rfl (fun w h Y => PySem.W.kIn_of Y) ?F
  case F =>
    intro w mg fa h KX G hmg
    refine' Mine.all_mk KX G hmg ?a_inverse ?l_inverse ?c_inverse ?k_inverse ?a_scaled ?l_scaled ?c_scaled ?k_scaled ?a_added ?l_added ?c_added ?k_added ?a_product ?l_product ?c_product ?k_product ?a_place_of_first ?l_place_of_first ?c_place_of_first ?k_place_of_first ?a_left_of ?l_left_of ?c_left_of ?k_left_of ?a_with_base ?l_with_base ?c_with_base ?k_with_base ?a_chosen_and_bases ?l_chosen_and_bases ?c_chosen_and_bases ?k_chosen_and_bases ?a_unit ?l_unit ?c_unit ?k_unit ?a_factors_of_each ?l_factors_of_each ?c_factors_of_each ?k_factors_of_each ?a_made_of ?l_made_of ?c_made_of ?k_made_of ?a_is_word ?l_is_word ?c_is_word ?k_is_word ?a_check_word ?l_check_word ?c_check_word ?k_check_word ?a_stepped ?l_stepped ?c_stepped ?k_stepped ?a_rows_along ?l_rows_along ?c_rows_along ?k_rows_along ?a_row_behind ?l_row_behind ?c_row_behind ?k_row_behind ?a_worth ?l_worth ?c_worth ?k_worth ?a_table_back ?l_table_back ?c_table_back ?k_table_back ?a_sums_back ?l_sums_back ?c_sums_back ?k_sums_back ?a_basis_rows ?l_basis_rows ?c_basis_rows ?k_basis_rows ?a_sums_basis ?l_sums_basis ?c_sums_basis ?k_sums_basis ?a_on_basis ?l_on_basis ?c_on_basis ?k_on_basis ?a_by_worths ?l_by_worths ?c_by_worths ?k_by_worths ?a_sums_access ?l_sums_access ?c_sums_access ?k_sums_access ?a_sums_least ?l_sums_least ?c_sums_least ?k_sums_least ?a_tails ?l_tails ?c_tails ?k_tails ?a_sums_paper ?l_sums_paper ?c_sums_paper ?k_sums_paper ?a__law_cell ?l__law_cell ?c__law_cell ?k__law_cell ?a__law_is_prime ?l__law_is_prime ?c__law_is_prime ?k__law_is_prime ?a__law_prime ?l__law_prime ?c__law_prime ?k__law_prime ?a__law_whole ?l__law_whole ?c__law_whole ?k__law_whole ?a__law_number ?l__law_number ?c__law_number ?k__law_number ?a__law_row ?l__law_row ?c__law_row ?k__law_row ?a__law_house ?l__law_house ?c__law_house ?k__law_house ?a__law_step ?l__law_step ?c__law_step ?k__law_step ?a__law_times ?l__law_times ?c__law_times ?k__law_times ?a__law_behind ?l__law_behind ?c__law_behind ?k__law_behind ?a__law_grown ?l__law_grown ?c__law_grown ?k__law_grown ?a__law_column_on ?l__law_column_on ?c__law_column_on ?k__law_column_on ?a__law_row_less ?l__law_row_less ?c__law_row_less ?k__law_row_less ?a__law_turned ?l__law_turned ?c__law_turned ?k__law_turned ?a__law_another ?l__law_another ?c__law_another ?k__law_another ?a__law_list_by ?l__law_list_by ?c__law_list_by ?k__law_list_by ?a__law_mixed ?l__law_mixed ?c__law_mixed ?k__law_mixed ?a__law_is_word ?l__law_is_word ?c__law_is_word ?k__law_is_word ?a__law_worth ?l__law_worth ?c__law_worth ?k__law_worth ?a__law_table ?l__law_table ?c__law_table ?k__law_table ?a__law_tails_good ?l__law_tails_good ?c__law_tails_good ?k__law_tails_good ?a__law_undoes ?l__law_undoes ?c__law_undoes ?k__law_undoes ?a_law ?l_law ?c_law ?k_law ?z_all ?z_bool ?z_enumerate ?z_int ?z_isinstance ?z_len ?z_list ?z_max ?z_range ?z_reversed ?z_sum ?z_tuple ?z_zip ?m_AskError ?m_BadWord ?m_NoInverse ?x_BadWord ?ga_BadWord ?hk_BadWord ?cl_BadWord ?ca_BadWord ?mo_BadWord ?mb_BadWord ?e_BadWord ?v_BadWord ?ee_BadWord ?k_BadWord_AskError ?k_BadWord_BadWord ?k_BadWord_NoInverse ?x_NoInverse ?ga_NoInverse ?hk_NoInverse ?cl_NoInverse ?ca_NoInverse ?mo_NoInverse ?mb_NoInverse ?e_NoInverse ?v_NoInverse ?ee_NoInverse ?k_NoInverse_AskError ?k_NoInverse_BadWord ?k_NoInverse_NoInverse ?gs ?tk
    (case a_inverse => k_is)
    (case l_inverse => k_is)
    (case c_inverse => k_is)
    (case k_inverse => k_is)
    (case a_scaled => k_is)
    (case l_scaled => k_is)
    (case c_scaled => k_is)
    (case k_scaled => k_is)
    (case a_added => k_is)
    (case l_added => k_is)
    (case c_added => k_is)
    (case k_added => k_is)
    (case a_product => k_is)
    (case l_product => k_is)
    (case c_product => k_is)
    (case k_product => k_is)
    (case a_place_of_first => k_is)
    (case l_place_of_first => k_is)
    (case c_place_of_first => k_is)
    (case k_place_of_first => k_is)
    (case a_left_of => k_is)
    (case l_left_of => k_is)
    (case c_left_of => k_is)
    (case k_left_of => k_is)
    (case a_with_base => k_is)
    (case l_with_base => k_is)
    (case c_with_base => k_is)
    (case k_with_base => k_is)
    (case a_chosen_and_bases => k_is)
    (case l_chosen_and_bases => k_is)
    (case c_chosen_and_bases => k_is)
    (case k_chosen_and_bases => k_is)
    (case a_unit => k_is)
    (case l_unit => k_is)
    (case c_unit => k_is)
    (case k_unit => k_is)
    (case a_factors_of_each => k_is)
    (case l_factors_of_each => k_is)
    (case c_factors_of_each => k_is)
    (case k_factors_of_each => k_is)
    (case a_made_of => k_is)
    (case l_made_of => k_is)
    (case c_made_of => k_is)
    (case k_made_of => k_is)
    (case a_is_word => k_is)
    (case l_is_word => k_is)
    (case c_is_word => k_is)
    (case k_is_word => k_is)
    (case a_check_word => k_is)
    (case l_check_word => k_is)
    (case c_check_word => k_is)
    (case k_check_word => k_is)
    (case a_stepped => k_is)
    (case l_stepped => k_is)
    (case c_stepped => k_is)
    (case k_stepped => k_is)
    (case a_rows_along => k_is)
    (case l_rows_along => k_is)
    (case c_rows_along => k_is)
    (case k_rows_along => k_is)
    (case a_row_behind => k_is)
    (case l_row_behind => k_is)
    (case c_row_behind => k_is)
    (case k_row_behind => k_is)
    (case a_worth => k_is)
    (case l_worth => k_is)
    (case c_worth => k_is)
    (case k_worth => k_is)
    (case a_table_back => k_is)
    (case l_table_back => k_is)
    (case c_table_back => k_is)
    (case k_table_back => k_is)
    (case a_sums_back => k_is)
    (case l_sums_back => k_is)
    (case c_sums_back => k_is)
    (case k_sums_back => k_is)
    (case a_basis_rows => k_is)
    (case l_basis_rows => k_is)
    (case c_basis_rows => k_is)
    (case k_basis_rows => k_is)
    (case a_sums_basis => k_is)
    (case l_sums_basis => k_is)
    (case c_sums_basis => k_is)
    (case k_sums_basis => k_is)
    (case a_on_basis => k_is)
    (case l_on_basis => k_is)
    (case c_on_basis => k_is)
    (case k_on_basis => k_is)
    (case a_by_worths => k_is)
    (case l_by_worths => k_is)
    (case c_by_worths => k_is)
    (case k_by_worths => k_is)
    (case a_sums_access => k_is)
    (case l_sums_access => k_is)
    (case c_sums_access => k_is)
    (case k_sums_access => k_is)
    (case a_sums_least => k_is)
    (case l_sums_least => k_is)
    (case c_sums_least => k_is)
    (case k_sums_least => k_is)
    (case a_tails => k_is)
    (case l_tails => k_is)
    (case c_tails => k_is)
    (case k_tails => k_is)
    (case a_sums_paper => k_is)
    (case l_sums_paper => k_is)
    (case c_sums_paper => k_is)
    (case k_sums_paper => k_is)
    (case a__law_cell => k_is)
    (case l__law_cell => k_is)
    (case c__law_cell => k_is)
    (case k__law_cell => k_is)
    (case a__law_is_prime => k_is)
    (case l__law_is_prime => k_is)
    (case c__law_is_prime => k_is)
    (case k__law_is_prime => k_is)
    (case a__law_prime => k_is)
    (case l__law_prime => k_is)
    (case c__law_prime => k_is)
    (case k__law_prime => k_is)
    (case a__law_whole => k_is)
    (case l__law_whole => k_is)
    (case c__law_whole => k_is)
    (case k__law_whole => k_is)
    (case a__law_number => k_is)
    (case l__law_number => k_is)
    (case c__law_number => k_is)
    (case k__law_number => k_is)
    (case a__law_row => k_is)
    (case l__law_row => k_is)
    (case c__law_row => k_is)
    (case k__law_row => k_is)
    (case a__law_house => k_is)
    (case l__law_house => k_is)
    (case c__law_house => k_is)
    (case k__law_house => k_is)
    (case a__law_step => k_is)
    (case l__law_step => k_is)
    (case c__law_step => k_is)
    (case k__law_step => k_is)
    (case a__law_times => k_is)
    (case l__law_times => k_is)
    (case c__law_times => k_is)
    (case k__law_times => k_is)
    (case a__law_behind => k_is)
    (case l__law_behind => k_is)
    (case c__law_behind => k_is)
    (case k__law_behind => k_is)
    (case a__law_grown => k_is)
    (case l__law_grown => k_is)
    (case c__law_grown => k_is)
    (case k__law_grown => k_is)
    (case a__law_column_on => k_is)
    (case l__law_column_on => k_is)
    (case c__law_column_on => k_is)
    (case k__law_column_on => k_is)
    (case a__law_row_less => k_is)
    (case l__law_row_less => k_is)
    (case c__law_row_less => k_is)
    (case k__law_row_less => k_is)
    (case a__law_turned => k_is)
    (case l__law_turned => k_is)
    (case c__law_turned => k_is)
    (case k__law_turned => k_is)
    (case a__law_another => k_is)
    (case l__law_another => k_is)
    (case c__law_another => k_is)
    (case k__law_another => k_is)
    (case a__law_list_by => k_is)
    (case l__law_list_by => k_is)
    (case c__law_list_by => k_is)
    (case k__law_list_by => k_is)
    (case a__law_mixed => k_is)
    (case l__law_mixed => k_is)
    (case c__law_mixed => k_is)
    (case k__law_mixed => k_is)
    (case a__law_is_word => k_is)
    (case l__law_is_word => k_is)
    (case c__law_is_word => k_is)
    (case k__law_is_word => k_is)
    (case a__law_worth => k_is)
    (case l__law_worth => k_is)
    (case c__law_worth => k_is)
    (case k__law_worth => k_is)
    (case a__law_table => k_is)
    (case l__law_table => k_is)
    (case c__law_table => k_is)
    (case k__law_table => k_is)
    (case a__law_tails_good => k_is)
    (case l__law_tails_good => k_is)
    (case c__law_tails_good => k_is)
    (case k__law_tails_good => k_is)
    (case a__law_undoes => k_is)
    (case l__law_undoes => k_is)
    (case c__law_undoes => k_is)
    (case k__law_undoes => k_is)
    (case a_law => k_is)
    (case l_law => k_is)
    (case c_law => k_is)
    (case k_law => k_is)
    (case z_all => k_is)
    (case z_bool => k_is)
    (case z_enumerate => k_is)
    (case z_int => k_is)
    (case z_isinstance => k_is)
    (case z_len => k_is)
    (case z_list => k_is)
    (case z_max => k_is)
    (case z_range => k_is)
    (case z_reversed => k_is)
    (case z_sum => k_is)
    (case z_tuple => k_is)
    (case z_zip => k_is)
    (case m_AskError => k_is)
    (case m_BadWord => k_is)
    (case m_NoInverse => k_is)
    (case x_BadWord => k_exc)
    (case ga_BadWord => k_is)
    (case hk_BadWord => k_is)
    (case cl_BadWord => k_is)
    (case ca_BadWord => k_is)
    (case mo_BadWord => k_is)
    (case mb_BadWord => k_is)
    (case e_BadWord => kts_exm)
    (case v_BadWord => kit_is)
    (case ee_BadWord => kts_exm)
    (case k_BadWord_AskError => kit_is)
    (case k_BadWord_BadWord => kit_is)
    (case k_BadWord_NoInverse => kit_is)
    (case x_NoInverse => k_exc)
    (case ga_NoInverse => k_is)
    (case hk_NoInverse => k_is)
    (case cl_NoInverse => k_is)
    (case ca_NoInverse => k_is)
    (case mo_NoInverse => k_is)
    (case mb_NoInverse => k_is)
    (case e_NoInverse => kts_exm)
    (case v_NoInverse => kit_is)
    (case ee_NoInverse => kts_exm)
    (case k_NoInverse_AskError => kit_is)
    (case k_NoInverse_BadWord => kit_is)
    (case k_NoInverse_NoInverse => kit_is)
    (case gs => k_is)
    (case tk => k_is)
