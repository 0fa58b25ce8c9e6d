import PyProof.Rows.All
import Wide.All
import OpenK.AllK
import Wide.FinOn
import Lean
import PyProof.EqAt
import PyProof.EqKinds
import PyProof.TupleCall
import KE.KRevIter
import PyProof.ListRange
import PyProof.TupleOfGen
import PyProof.Draws
import PyProof.EnumMake
import PyProof.EnumFor
import PyProof.NeKinds
import KE.KDictList
import PyProof.Rows.TupDisplay
import PyProof.ZipIter
import PyProof.Rows.ZipGen
import KE.KItemsList
import PyProof.Rows.SumAny
import PyProof.StrWalks
import PyProof.StrCalls
import PyProof.StrCalls3
import PyProof.StrLawsFirst
import PyProof.StrLawsIn
import PyProof.SliceStr2
import PyProof.StrBlockI
import PyProof.Rows.StrWeight2
import PyProof.ListNew
import PyProof.DictRoadsH
import PyProof.WalkInts
import PyProof.Rows.MinMaxN
import KE.KDictLaws
import PyProof.StrCalls2
import PyProof.StrLawsChain
import KE.KIntText
import KE.KxText
import KE.KMinKey
import KE.KPairComp
import PyProof.MaxThree
import PyProof.DictValues
import OpenK.KCls
import PyProof.Rows.SortShellK
import KE.KSortTup
import KE.KLam
import KE.KNestM
import PyProof.AttrMissHeap
import KE.KDictOf
import PyProof.TupleKey
import PyProof.SetKind
import PyProof.IsRules
import PyProof.Rows.SetFrom
import PySem.Challenge.RW_guessroom_k82_whole_works_told_apart
set_option compiler.extract_closed false
local macro_rules | `(s!$_) => `(by lia)
namespace Al
noncomputable abbrev ja_:=@List.getElem?_eq_getElem
noncomputable abbrev jb_:=@List.mem_singleton
noncomputable abbrev jc_:=@List.getElem?_eq_some_iff
noncomputable abbrev jd_:=@List.length_map
noncomputable abbrev je_:=@PySem.wpAny_bind
noncomputable abbrev jf_:=@List.length_append
noncomputable abbrev jg_:=@List.getElem?_append_left
noncomputable abbrev jh_:=@Nat.le_refl
noncomputable abbrev ji_:=@List.size_toArray
noncomputable abbrev jj_:=@List.mem_append
noncomputable abbrev jk_:=@List.mem_append_right
noncomputable abbrev jl_:=@List.mem_of_getElem?
noncomputable abbrev jm_:=@PySem.Heap.get?_push_of_some
noncomputable abbrev jn_:=@Bool.false_ne_true
noncomputable abbrev jo_:=@PySem.wpAny_pure
noncomputable abbrev jp_:=@List.getElem?_append_right
noncomputable abbrev jq_:=@List.length_singleton
noncomputable abbrev jr_:=@List.mem_append_left
noncomputable abbrev js_:=@List.getD_eq_getElem?_getD
noncomputable abbrev jt_:=@PySem.F.plainAttrs_list
noncomputable abbrev ju_:=@Int.toNat_natCast
noncomputable abbrev jv_:=@List.mem_cons_self
noncomputable abbrev jw_:=@List.getElem?_map
noncomputable abbrev jx_:=@List.mem_cons_of_mem
noncomputable abbrev jy_:=@PySem.Heap.lt_size
noncomputable abbrev jz_:=@PySem.F.slot_list_append
noncomputable abbrev jA_:=@PySem.F.type_list_append
noncomputable abbrev jB_:=@List.getElem_mem
noncomputable abbrev jC_:=@PySem.PassesOwn.never
noncomputable abbrev jD_:=@PySem.boot_len
noncomputable abbrev jE_:=@PySem.Heap.get?_push_size
noncomputable abbrev jF_:=@List.take_add_one
noncomputable abbrev jG_:=@Nat.lt_of_lt_of_le
noncomputable abbrev jH_:=@Option.some.inj
noncomputable abbrev jI_:=@List.map_append
noncomputable abbrev jJ_:=@List.mem_cons
noncomputable abbrev jK_:=@List.foldl_append
noncomputable abbrev jL_:=@List.take_length
noncomputable abbrev jM_:=@List.getElem?_set_self
noncomputable abbrev jN_:=@decide_eq_true_eq
noncomputable abbrev jO_:=@PyProof.Rows.boot_tuple
noncomputable abbrev jP_:=@List.dropLast_concat
noncomputable abbrev jQ_:=@Int.natCast_add
noncomputable abbrev jR_:=@List.length_cons
noncomputable abbrev jS_:=@List.map_cons
noncomputable abbrev jT_:=@List.mem_iff_getElem
noncomputable abbrev jU_:=@PySem.wpAny_loadPart'
noncomputable abbrev jV_:=@PySem.F.plain_min_loop
noncomputable abbrev jW_:=@Nat.ne_of_lt
noncomputable abbrev jX_:=@List.append_assoc
noncomputable abbrev jY_:=@List.getElem?_set_ne
noncomputable abbrev jZ_:=@List.getLastD_concat
noncomputable abbrev j0_:=@Int.emod_lt_of_pos
noncomputable abbrev j1_:=@Nat.zero_le
noncomputable abbrev j2_:=@Iff.rfl
noncomputable abbrev j3_:=@decide_eq_false
noncomputable abbrev j4_:=@Nat.sub_self
noncomputable abbrev j5_:=@List.length_take
noncomputable abbrev j6_:=@PySem.W.mg_none_of
noncomputable abbrev j7_:=@PyProof.Rows.callWith_type1
noncomputable abbrev j8_:=@List.length_set
noncomputable abbrev j9_:=@PySem.Heap.get?_update_other
noncomputable abbrev qa_:=@PySem.Around.under_plainId
noncomputable abbrev qb_:=@List.cons_append
noncomputable abbrev qc_:=@List.nodup_append
noncomputable abbrev qd_:=@PySem.wpAny_holding
noncomputable abbrev qe_:=@Int.emod_nonneg
noncomputable abbrev qf_:=@Ne.symm
noncomputable abbrev qg_:=@Decidable.byContradiction
noncomputable abbrev qh_:=@List.mem_map
noncomputable abbrev qi_:=@Nat.lt_irrefl
noncomputable abbrev qj_:=@Bool.eq_iff_iff
noncomputable abbrev qk_:=@PySem.W.kia_one
noncomputable abbrev ql_:=@PyProof.Rows.slot_tuple_getitem
noncomputable abbrev qm_:=@List.getElem_of_mem
noncomputable abbrev qn_:=@Bool.and_eq_true
noncomputable abbrev qo_:=@List.foldl_cons
noncomputable abbrev qp_:=@Nat.not_lt_zero
noncomputable abbrev qq_:=@PySem.wpAny_tryCatch
noncomputable abbrev qr_:=@List.zip_cons_cons
noncomputable abbrev qs_:=@List.dropLast_concat_getLast
noncomputable abbrev qt_:=@PySem.codeAny_builtin
noncomputable abbrev qu_:=@List.reverse_cons
noncomputable abbrev qv_:=@decide_eq_true
noncomputable abbrev qw_:=@List.nil_append
noncomputable abbrev qx_:=@PySem.mem_of_lookup
noncomputable abbrev qy_:=@List.replicate_succ
noncomputable abbrev qz_:=@PySem.wpAny_mono
noncomputable abbrev qA_:=@List.length_replicate
noncomputable abbrev qB_:=@List.getElem?_eq_none
noncomputable abbrev qC_:=@PySem.F.slot_dict_keyiterator_next
noncomputable abbrev qD_:=@PyProof.Rows.boot_isinstance
noncomputable abbrev qE_:=@PySem.wpAny_Call_Name_kw
noncomputable abbrev qF_:=@PySem.wpAny_callSpecial?_slot
noncomputable abbrev qG_:=@Nat.le_trans
noncomputable abbrev qH_:=@List.lookup_cons
noncomputable abbrev qI_:=@PySem.F.entry_min_loop
noncomputable abbrev qJ_:=@PySem.wpAny_newObj_type
noncomputable abbrev qK_:=@Nat.mul_le_mul_left
noncomputable abbrev qL_:=@List.length_range
noncomputable abbrev qM_:=@PySem.plainId_quiet
noncomputable abbrev qN_:=@List.mem_or_eq_of_mem_set
noncomputable abbrev qO_:=@PySem.Heap.get?_update_self
noncomputable abbrev qP_:=@Int.mul_le_mul_of_nonneg_right
noncomputable abbrev qQ_:=@PySem.wpAny_typeNameOfWhole_keyiter
noncomputable abbrev qR_:=@congrArg
noncomputable abbrev qS_:=@PySem.wpAny_truthy_bool
noncomputable abbrev qT_:=@PySem.wpAny_updateSeq
noncomputable abbrev qU_:=@List.map_congr_left
noncomputable abbrev qV_:=@PySem.wpAny_pyNext_list_item
noncomputable abbrev qW_:=@PyProof.Rows.boot_list
noncomputable abbrev qX_:=@PySem.wpAny_call_entry
noncomputable abbrev qY_:=@Nat.le_of_lt
noncomputable abbrev qZ_:=@PySem.wpAny_pyNext_list_end
noncomputable abbrev q0_:=@Bool.false_eq_true
noncomputable abbrev q1_:=@Option.toList_some
noncomputable abbrev q2_:=@List.mem_range
noncomputable abbrev q3_:=@PySem.wpAny_seqItems
noncomputable abbrev q4_:=@PySem.wpAny_passesOwn
noncomputable abbrev q5_:=@List.append_nil
noncomputable abbrev q6_:=@List.nodup_cons
noncomputable abbrev q7_:=@Option.isSome_iff_exists
noncomputable abbrev q8_:=@List.length_nil
noncomputable abbrev q9_:=@PySem.wpAny_typeNameOf_keyiter
noncomputable abbrev xa_:=@Int.zero_add
noncomputable abbrev xb_:=@Array.length_toList
noncomputable abbrev xc_:=@List.getElem?_replicate
noncomputable abbrev xd_:=@List.getElem?_cons_succ
noncomputable abbrev xe_:=@List.length_drop
noncomputable abbrev xf_:=@PySem.call_meets
noncomputable abbrev xg_:=@Int.add_mul_ediv_right
noncomputable abbrev xh_:=@Int.ediv_eq_zero_of_lt
noncomputable abbrev xi_:=@List.map_singleton
noncomputable abbrev xj_:=@List.mem_replicate
noncomputable abbrev xk_:=@List.find?_cons
noncomputable abbrev xl_:=@Nat.lt_of_sub_eq_succ
noncomputable abbrev xm_:=@List.flatten_cons
noncomputable abbrev xn_:=@Nat.lt_succ_of_lt
noncomputable abbrev xo_:=@of_decide_eq_true
noncomputable abbrev xp_:=@PySem.W.mg_of
noncomputable abbrev xq_:=@PySem.F.excBase_ValueError
noncomputable abbrev xr_:=@List.mem_of_mem_take
noncomputable abbrev xs_:=@Nat.mul_le_mul_right
noncomputable abbrev xt_:=@PySem.Heap.size_push
noncomputable abbrev xu_:=@List.not_mem_nil
noncomputable abbrev xv_:=@PySem.F.plain_extend_loop
noncomputable abbrev xw_:=@PySem.Heap.SameBut.update
noncomputable abbrev xx_:=@PySem.wpAny_letGo
noncomputable abbrev xy_:=@PySem.AutoSeq1.sub_tuple_tuple
noncomputable abbrev xz_:=@PySem.F.args_tuple_add_2
noncomputable abbrev xA_:=@List.map_nil
noncomputable abbrev xB_:=@List.map_map
noncomputable abbrev xC_:=@PySem.wpAny_execs_nil
noncomputable abbrev xD_:=@PySem.F.args_tuple_lt_2
noncomputable abbrev xE_:=@PySem.F.entry_tuple_add
noncomputable abbrev xF_:=@List.getElem?_cons_zero
noncomputable abbrev xG_:=@PySem.wpAny_setField_rec
noncomputable abbrev xH_:=@List.length_eq_zero_iff
noncomputable abbrev xI_:=@PySem.W.cellsFrom_some
noncomputable abbrev xJ_:=@PySem.richCompare_meets_room
noncomputable abbrev xK_:=@PySem.F.entry_tuple_lt
noncomputable abbrev xL_:=@PySem.F.slot_tuple_add
noncomputable abbrev xM_:=@PySem.wpAny_pyIter_list
noncomputable abbrev xN_:=@List.ext_getElem?
noncomputable abbrev xO_:=@if_false
noncomputable abbrev xP_:=@List.nodup_nil
noncomputable abbrev xQ_:=@Nat.ne_of_gt
noncomputable abbrev xR_:=@PySem.codeAny_mono
noncomputable abbrev xS_:=@PySem.F.slot_tuple_lt
noncomputable abbrev xT_:=@PySem.wpAny_typeOf
noncomputable abbrev xU_:=@PySem.wpAny_isOneOf_keyiter
noncomputable abbrev xV_:=@PySem.F.slot_list_pop
noncomputable abbrev xW_:=@PySem.F.type_list_pop
noncomputable abbrev xX_:=@List.getElem_inj
noncomputable abbrev xY_:=@List.all_eq_true
noncomputable abbrev xZ_:=@PySem.F.slot_tuple_mul
noncomputable abbrev x0_:=@Nat.le_add_right
noncomputable abbrev x1_:=@List.length_dropLast
noncomputable abbrev x2_:=@List.any_cons
noncomputable abbrev x3_:=@PySem.wpAny_attempt
noncomputable abbrev x4_:=@beq_eq_false_iff_ne
noncomputable abbrev x5_:=@List.filterMap_cons
noncomputable abbrev x6_:=@List.of_mem_zip
noncomputable abbrev x7_:=@PySem.F.slot_int_rmul
noncomputable abbrev x8_:=@Option.map_some
noncomputable abbrev x9_:=@Nat.le_succ
noncomputable abbrev za_:=@PySem.wpAny_ite_split
noncomputable abbrev zb_:=@List.length_zipWith
noncomputable abbrev zc_:=@List.mem_filterMap
noncomputable abbrev zd_:=@Nat.mul_le_mul
noncomputable abbrev ze_:=@PySem.W.kitx_list
noncomputable abbrev zf_:=@PySem.wpAny_call
noncomputable abbrev zg_:=@List.Pairwise.map
noncomputable abbrev zh_:=@List.flatMap_cons
noncomputable abbrev zi_:=@if_true
noncomputable abbrev zj_:=@List.all_cons
noncomputable abbrev zk_:=@Nat.not_lt
noncomputable abbrev α0:=List (List (List Int))
noncomputable abbrev α1:=List (List Int)
noncomputable abbrev α2:=List Int
noncomputable abbrev α3:=PySem.W.Frag
noncomputable abbrev α5:=Option PySem.Value
noncomputable abbrev α6:=PySem.FuncData
noncomputable abbrev α7:=List (PySem.Addr×PySem.Obj)
end Al
open Al
open PySem.W (nsIn keepIn codeIn fnOf kitOne exmOne)
set_option Elab.async false
set_option linter.all false
set_option maxRecDepth 100000
namespace L2
open PySem PySem.Spec PyProof.Rows
noncomputable abbrev Key:=Sum Int Str
noncomputable def JF:Key->Value->Bool
 |.inl k,v=>Value.isInt k v
 |.inr x,v=>Value.isStrOf x v
noncomputable def keyH (w:World):Key->Int
 |.inl k=>hashInt k
 |.inr x=>hashStr w x
theorem A6:∀{k:Key} {v:Value},JF k v=true->(∃i t,k=Sum.inl i/\v=Value.int i t)\/(∃x t,k=Sum.inr x/\v=Value.str x t)
 |.inl i,v,h=>by
  obtain⟨t,e⟩:=Value.isInt_shape (k:=i) (v:=v) h
  exact .inl ⟨i,t,rfl,e⟩
 |.inr x,v,h=>by
  obtain⟨t,e⟩:=Value.isStrOf_shape (x:=x) (v:=v) h
  exact .inr ⟨x,t,rfl,e⟩
theorem LJ (i:Int)(t:Tok):JF (.inl i) (.int i t)=true:=by simp[JF,Value.isInt]
theorem LK (x:Str)(t:Tok):JF (.inr x) (.str x t)=true:=by simp[JF,Value.isStrOf]
theorem Rm (a b:Int):decide ((Sum.inl a:Key)=Sum.inl b)=(a==b):=by
 by_cases e:a=b
 ·subst e;simp
 ·have h:¬ (Sum.inl a:Key)=Sum.inl b:=fun q=>e (Sum.inl.inj q)
  rw[j3_ h]
  exact (x4_.mpr e).symm
theorem Ro (a b:Str):decide ((Sum.inr a:Key)=Sum.inr b)=decide (a=b):=by
 by_cases e:a=b
 ·subst e;simp
 ·have h:¬ (Sum.inr a:Key)=Sum.inr b:=fun q=>e (Sum.inr.inj q)
  rw[j3_ h,j3_ e]
theorem Rp (a:Int)(b:Str):decide ((Sum.inl a:Key)=Sum.inr b)=false:=j3_ (fun q=>nomatch q)
theorem Rq (a:Str)(b:Int):decide ((Sum.inr a:Key)=Sum.inl b)=false:=j3_ (fun q=>nomatch q)
noncomputable def A7 (prog:Program)(w:World):PySem.KeyKind prog w Key where
 is:=JF
 hash:=keyH w
 inj:=fun v a b ha hb=>by
  rcases A6 ha with ⟨i,t,rfl,rfl⟩|⟨x,t,rfl,rfl⟩
  ·rcases A6 hb with ⟨j,u,rfl,e⟩|⟨y,u,rfl,e⟩
   ·injection e with e1 _;rw[e1]
   ·exact nomatch e
  ·rcases A6 hb with ⟨j,u,rfl,e⟩|⟨y,u,rfl,e⟩
   ·exact nomatch e
   ·injection e with e1 _;rw[e1]
 byValue:=fun k v h=>by
  rcases A6 h with ⟨i,t,rfl,rfl⟩|⟨x,t,rfl,rfl⟩<;>rfl
 pyHash:=fun hv h=>by
  rcases A6 hv with ⟨i,t,rfl,rfl⟩|⟨x,t,rfl,rfl⟩
  ·exact wpAny_pyHash_int h
  ·exact wpAny_pyHash_str h
 eqBool:=fun hu hv h=>by
  rcases A6 hu with ⟨i,t,rfl,rfl⟩|⟨x,t,rfl,rfl⟩
  ·rcases A6 hv with ⟨j,u,rfl,rfl⟩|⟨y,u,rfl,rfl⟩
   ·rw[Rm]at h;exact wpAny_eqBool_int h
   ·rw[Rp]at h;exact SeqAt.EqAt.int_str i t y u _ _ _ _ h
  ·rcases A6 hv with ⟨j,u,rfl,rfl⟩|⟨y,u,rfl,rfl⟩
   ·rw[Rq]at h;exact SeqAt.EqAt.str_int x t j u _ _ _ _ h
   ·rw[Ro]at h;exact wpAny_eqBool_str h
 «strs» := fun k x t v h=>by
  rcases A6 h with ⟨i,u,rfl,e⟩|⟨y,u,rfl,e⟩
  ·exact nomatch e
  ·injection e with e1 _
   subst e1
   cases v<;>rfl
theorem JG (prog:Program)(w:World)(i:Int)(t:Tok):(A7 prog w).is (.inl i) (.int i t)=true:=LJ i t
theorem JH (prog:Program)(w:World)(x:Str)(t:Tok):(A7 prog w).is (.inr x) (.str x t)=true:=LK x t
inductive V where
 | non|bl (b:Bool)|int (i:Int)|str (x:Str)|byt (b:Array UInt8)|flt (b:UInt64)|ref (a:Addr)|ty (n:String)
 deriving DecidableEq
noncomputable def RelV:V->Value->Prop
 |.non,u=>u=Value.none
 |.bl b,u=>u=Value.bool b
 |.int i,u=>∃t,u=Value.int i t
 |.str x,u=>∃t,u=Value.str x t
 |.byt b,u=>∃t,u=Value.bytes b t
 |.flt b,u=>∃t,u=Value.float b t
 |.ref a,u=>u=Value.ref a
 |.ty n,u=>u=Value.type n
noncomputable abbrev Vals:List V->List Value->Prop:=Paired RelV
theorem Vals.length   (r:Vals xs us):xs.length=us.length:=Paired.length r
theorem Vals.get:∀{xs:List V} {us:List Value} {i:Nat} {x:V},Vals xs us->xs[i]?=some x->∃u,us[i]?=some u/\RelV x u
 |_,_,_,_,.nil,e=>by simp at e
 |_,_,0,_,.cons r _,e=>by simp at e;subst e;exact⟨_,rfl,r⟩
 |_,_,i+1,x,.cons _ t,e=>by
  obtain⟨u,h1,h2⟩:=Vals.get (i:=i) (x:=x) t (by simpa using e)
  exact⟨u,by simpa using h1,h2⟩
theorem Vals.set {x:V}{u:Value}(r:RelV x u):∀{xs:List V} {us:List Value} (i:Nat),Vals xs us->Vals (xs.set i x) (us.set i u)
 |_,_,_,.nil=>.nil
 |_,_,0,.cons _ t=>.cons r t
 |_,_,i+1,.cons q t=>.cons q (Vals.set r i t)
theorem Vals.append:∀{xs ys:List V} {us ws:List Value},Vals xs us->Vals ys ws->Vals (xs++ys) (us++ws)
 |_,_,_,_,.nil,s=>s
 |_,_,_,_,.cons r t,s=>.cons r (Vals.append t s)
theorem Vals.take:∀{xs:List V} {us:List Value} (n:Nat),Vals xs us->Vals (xs.take n) (us.take n)
 |_,_,0,_=>.nil
 |_,_,_+1,.nil=>.nil
 |_,_,n+1,.cons r t=>.cons r (Vals.take n t)
theorem Vals.drop:∀{xs:List V} {us:List Value} (n:Nat),Vals xs us->Vals (xs.drop n) (us.drop n)
 |_,_,0,r=>r
 |_,_,_+1,.nil=>.nil
 |_,_,n+1,.cons _ t=>Vals.drop n t
noncomputable def RelO:Option V->α5->Prop
 |some v,some u=>RelV v u
 |none,none=>True
 |_,_=>False
noncomputable def KV {κ:Type}:List (κ×V)->List (κ×Value)->Prop:=Paired fun (p:κ×V) (q:κ×Value)=>p.1=q.1/\RelV p.2 q.2
noncomputable def kV:Key->V
 |.inl i=>.int i
 |.inr x=>.str x
inductive HO where
 | lst (xs:List V)
 | tup (xs:List V)
 | dK (kvs:List (Key×V))|dT (kvs:List (List Key×V))
 | set (S:Int->Bool) (n:Nat)
 | ins (C dx:Addr) (fs:List (Str×V))
 | own (x:Addr)
 | xd (fs:List (Str×V))
 | met (f x:Addr)
 | rng (lo hi:Int)
 | frz (o:Obj) (u:HO)
 | tbl (ps:Array Value)
 | ext (φ:Heap->Prop)
noncomputable abbrev Hp:=Addr->Option HO
noncomputable def upd (H:Hp)(a:Addr)(o:HO):Hp:=fun b=>if b=a then some o else H b
theorem Ab    : upd H a o a=some o:=by unfold upd;rw[if_pos rfl]
theorem Ag    (h:b≠a):upd H a o b=H b:=by unfold upd;rw[if_neg h]
theorem Rr {H:Hp}{a b:Addr}{o u:HO}(h:H a=some o)(h':H b=some u)(d:o≠u):a≠b:=by
 intro e;subst e;rw[h]at h';exact d (jH_ h')
theorem AO {H:Hp}{a b:Addr}{o:HO}(h:H a=some o)(h':H b=none):a≠b:=by
 intro e;subst e;rw[h]at h';cases h'
section
variable (P:Program) (w:World)
noncomputable def AX (H:Hp)(h:Heap)(a:Addr):HO->Prop
 |.lst xs=>xs.length<=sizeLine/\∃(its:List Value) (n:Nat),Vals xs its/\h.get? a=some {cls:=.type "list",data:=.seq its.toArray n}
 |.tup xs=>xs.length<=sizeLine/\∃its:List Value,Vals xs its/\IsTup h a its.toArray
 |.dK kvs=>kvs.length<=sizeLine/\(a==sysModules)=false/\∃vs,KV kvs vs/\h.DictOf (A7 P w) a vs
 |.dT kvs=>kvs.length<=sizeLine/\(a==sysModules)=false/\∃xs:List (List Key×Addr×Value),
   Paired (fun (p:List Key×V) (q:List Key×Addr×Value)=>p.1=q.1/\H q.2.1=some (.tup (p.1.map kV))/\RelV p.2 q.2.2) kvs xs /\
   ∃o es ep,h.get? a=some o/\o.ExactDict/\o.data=.dict es ep/\es.toList=xs.map (entryOfKey (tupleKind (A7 P w)))/\(xs.map (·.1)).Nodup
 |.set S n=>h.SetOf (intKind P w) a S n
 |.ins C dx fs=>H dx=some (.own a)/\fs.length<=1000/\dx≠a/\h.get? a=some (PySem.W.instObj C dx) /\
   ∃mA,h.Ns1 dx mA/\(∀f,RelO (fs.lookup f) (mA f))/\PySem.Within mA (fs.map (·.1))
 |.own _=>∃o,h.get? a=some o
 |.xd fs=>∃mA,h.Ns1 a mA/\∀f,RelO (fs.lookup f) (mA f)
 |.rng lo hi=>∃t u v,h.get? a=some {cls:=.type "range",data:=.fields #[.int lo t,.int hi u,.int 1 v]}
 |.frz o u=>h.get? a=some o/\AX H h a u
 |.tbl ps=>h.get? a=some {cls:=.none,data:=.fields ps}
 |.met f x=>h.get? a=some (PySem.W.methodObj (.ref f) (.ref x))
 |.ext φ=>φ h/\(∃o,h.get? a=some o)/\∀h1 h2:Heap,φ h1->(∀o,h1.get? a=some o->h2.get? a=some o)->φ h2
noncomputable def HOk (H:Hp)(h:Heap):Prop:=∀a o,H a=some o->AX P w H h a o
end
section
variable {P:Program} {w:World} {H H':Hp} {h h':Heap} {a:Addr} {o:HO}
theorem AX.lt (x:AX P w H h a o):a<h.objs.size:=by
 cases o with
 |lst xs=>obtain⟨_,_,_,_,e⟩:=x;exact jy_ e
 |tup xs=>obtain⟨_,_,_,p⟩:=x;exact p.lt
 |dK kvs=>obtain⟨_,_,_,_,o,_,_,e,_⟩:=x;exact jy_ e
 |dT kvs=>obtain⟨_,_,_,_,o,_,_,e,_⟩:=x;exact jy_ e
 |set S n=>obtain⟨o,_,_,_,e,_⟩:=x;exact jy_ e
 |ins C dx fs=>obtain⟨_,_,_,e,_⟩:=x;exact jy_ e
 |own y=>obtain⟨_,e⟩:=x;exact jy_ e
 |xd fs=>obtain⟨_,⟨_,_,_,e,_⟩,_⟩:=x;exact jy_ e
 |rng lo hi=>obtain⟨_,_,_,e⟩:=x;exact jy_ e
 |frz ob u=>obtain⟨e,_⟩:=x;exact jy_ e
 |tbl ps=>exact jy_ (show h.get? a=some _ from x)
 |met f y=>exact jy_ (show h.get? a=some _ from x)
 |ext φ=>obtain⟨_,⟨_,e⟩,_⟩:=x;exact jy_ e
theorem Paired.mapP {α β:Type}{F G:α->β->Prop}:∀{l₁:List α} {l₂:List β},Paired F l₁ l₂->(∀a b,F a b->G a b)->Paired G l₁ l₂
 |_,_,.nil,_=>.nil
 |_,_,.cons r t,f=>.cons (f _ _ r) (Paired.mapP t f)
theorem AX.stay (x:AX P w H h a o)(k:∀b u,(b=a\/H b=some (.own a))->h.get? b=some u->h'.get? b=some u)
  (ho:∀b,H b=some (.own a)->H' b=some (.own a)) (ht:∀b xs,H b=some (.tup xs)->H' b=some (.tup xs)):AX P w H' h' a o:=by
 induction o with
 |lst xs=>obtain⟨z,its,n,r,e⟩:=x;exact⟨z,its,n,r,k _ _ (.inl rfl) e⟩
 |tup xs=>obtain⟨z,its,r,ob,e,c⟩:=x;exact⟨z,its,r,ob,k _ _ (.inl rfl) e,c⟩
 |dK kvs=>obtain⟨z,y,vs,r,ob,es,ep,e,c⟩:=x;exact⟨z,y,vs,r,ob,es,ep,k _ _ (.inl rfl) e,c⟩
 |dT kvs=>
  obtain⟨z,y,xs,r,ob,es,ep,e,c⟩:=x
  exact⟨z,y,xs,Paired.mapP r fun p q z=>⟨z.1,ht _ _ z.2.1,z.2.2⟩,ob,es,ep,k _ _ (.inl rfl) e,c⟩
 |set S n=>obtain⟨ob,es,ep,t,e,c⟩:=x;exact⟨ob,es,ep,t,k _ _ (.inl rfl) e,c⟩
 |ins C dx fs=>
  obtain⟨d,z,ne,e,mA,⟨od,es,ep,e2,c⟩,r⟩:=x
  exact⟨ho _ d,z,ne,k _ _ (.inl rfl) e,mA,⟨od,es,ep,k _ _ (.inr d) e2,c⟩,r⟩
 |own y=>obtain⟨ob,e⟩:=x;exact⟨ob,k _ _ (.inl rfl) e⟩
 |xd fs=>obtain⟨mA,⟨od,es,ep,e,c⟩,r⟩:=x;exact⟨mA,⟨od,es,ep,k _ _ (.inl rfl) e,c⟩,r⟩
 |rng lo hi=>obtain⟨t,u,v,e⟩:=x;exact⟨t,u,v,k _ _ (.inl rfl) e⟩
 |frz ob u ih=>obtain⟨e,q⟩:=x;exact⟨k _ _ (.inl rfl) e,ih q⟩
 |tbl ps=>
  have e:h.get? a=some {cls:=.none,data:=.fields ps}:=x
  show h'.get? a=some {cls:=.none,data:=.fields ps}
  exact k a _ (.inl rfl) e
 |met f y=>
  have e:h.get? a=some (PySem.W.methodObj (.ref f) (.ref y)):=x
  show h'.get? a=some (PySem.W.methodObj (.ref f) (.ref y))
  exact k a _ (.inl rfl) e
 |ext φ=>obtain⟨p,⟨o,e⟩,st⟩:=x;exact⟨st _ _ p fun o q=>k _ _ (.inl rfl) q,⟨o,k _ _ (.inl rfl) e⟩,st⟩
theorem HOk.lt (x:HOk P w H h)(e:H a=some o):a<h.objs.size:=(x a o e).lt
theorem HOk.fresh (x:HOk P w H h)(e:h.objs.size<=a):H a=none:=by
 cases q:H a with
 |none=>rfl
 |some u=>exact absurd (jG_ (x.lt q) e) (qi_ _)
theorem HOk.kept (x:HOk P w H h)(k:∀b u,h.get? b=some u->h'.get? b=some u):HOk P w H h':=fun a o e=>
 (x a o e).stay (fun b u _ q=>k b u q) (fun _ q=>q) fun _ _ q=>q
theorem HOk.laid (x:HOk P w H h)(k:∀b u,h.get? b=some u->h'.get? b=some u)(hp:h.objs.size<=a)(new:AX P w (upd H a o) h' a o):HOk P w (upd H a o) h':=fun b u e=>by
 have hn:=x.fresh hp
 by_cases hb:b=a
 ·subst hb;rw[Ab]at e;cases e;exact new
 ·rw[Ag hb]at e
  exact (x b u e).stay (fun c v _ q=>k c v q) (fun c q=>by rw[Ag (AO q hn)];exact q) fun c xs q=>by rw[Ag (AO q hn)];exact q
end
noncomputable def Rd (H:Hp)(a:Addr)(u:HO):Prop:=H a=some u \/ ∃o,H a=some (.frz o u)
theorem Rd.ok       (r:Rd H a u)(x:HOk P w H h):AX P w H h a u:=by
 rcases r with r|⟨o,r⟩
 ·exact x a u r
 ·obtain⟨_,q⟩:=x a _ r
  exact q
noncomputable def Mut:Option HO->Prop
 |some (.lst _)=>True
 |some (.dK _)=>True
 |some (.dT _)=>True
 |some (.set _ _)=>True
 |some (.ins _ _ _)=>True
 |some (.ext _)=>True
 |_=>False
section
variable {P:Program} {w:World} {H:Hp} {h h':Heap} {x e:Addr} {o':HO}
theorem HOk.write (ok:HOk P w H h)(mu:Mut (H x))(he:e=x\/H e=some (.own x))(k:∀b u,b≠e->h.get? b=some u->h'.get? b=some u)(heo:∃u,h'.get? e=some u)
  (new:AX P w (upd H x o') h' x o'):HOk P w (upd H x o') h':=fun b u q=>by
 have nown:∀c y,H c=some (.own y)->c≠x:=fun c y r z=>by subst z;rw[r]at mu;exact mu
 have ntup:∀c xs,H c=some (.tup xs)->c≠x:=fun c xs r z=>by subst z;rw[r]at mu;exact mu
 by_cases hb:b=x
 ·subst hb;rw[Ab]at q;cases q;exact new
 ·rw[Ag hb]at q
  by_cases hbe:b=e
  ·have q':H b=some (.own x):=by
    rcases he with z|z
    ·exact absurd (hbe.trans z) hb
    ·rw[hbe];exact z
   rw[q]at q';cases q'
   obtain⟨v,hv⟩:=heo
   exact⟨v,by rw[hbe];exact hv⟩
  ·refine (ok b u q).stay (fun c v hc r=>k c v ?_ r) (fun c r=>by rw[Ag (nown c b r)];exact r) fun c xs r=>by rw[Ag (ntup c xs r)];exact r
   rcases hc with rfl|hc
   ·exact hbe
   ·rintro rfl
    rcases he with z|z
    ·exact nown c b hc z
    ·rw[hc]at z;cases z;exact hb rfl
end
structure Un (fs ex:List Addr)(H H':Hp)(h h':Heap):Prop where
 keep:∀b o,h.get? b=some o->H b=none->b∉fs->b∉ex->h'.get? b=some o
 slot:∀b o,h.get? b=some o->H b=none->b∈fs->b∉ex->∃sl,h'.get? b=some {o with slots:=sl}
 free:∀b o,h.get? b=some o->H b=none->b∉ex->H' b=none
 there:∀b o,h.get? b=some o->b∉ex->∃o',h'.get? b=some o'
 tups:∀b xs,H b=some (.tup xs)->H' b=some (.tup xs)
 frzs:∀b o u,H b=some (.frz o u)->H' b=some (.frz o u)
 tbls:∀b ps,H b=some (.tbl ps)->∃more,H' b=some (.tbl (ps++more))
section
variable {fs fs' ex ex':List Addr} {H H1 H2:Hp} {h h1 h2 h':Heap} {a x e:Addr} {o:HO}
theorem Un.any (u:Un fs ex H H1 h h1)   (q:h.get? b=some ob)(n:H b=none)(hx:b∉ex):∃sl,h1.get? b=some {ob with slots:=sl}:=by
 by_cases hb:b∈fs
 ·exact u.slot b ob q n hb hx
 ·exact⟨ob.slots,u.keep b ob q n hb hx⟩
theorem Un.kept (k:∀b u,h.get? b=some u->h'.get? b=some u):Un fs ex H H h h' :=
 ⟨fun b ob q _ _ _=>k b ob q,fun b ob q _ _ _=>⟨ob.slots,k b ob q⟩,fun _ _ _ n _=>n,fun b ob q _=>⟨ob,k b ob q⟩,fun _ _ q=>q,fun _ _ _ q=>q,fun _ ps q=>⟨#[],by rw[q];simp⟩⟩
theorem Un.refl:Un fs ex H H h h:=Un.kept fun _ _ q=>q
theorem Un.laid (k:∀b u,h.get? b=some u->h'.get? b=some u)(hp:h.objs.size<=a)(hn:H a=none):Un fs ex H (upd H a o) h h' where
 keep:=fun b u q _ _ _=>k b u q
 slot:=fun b u q _ _ _=>⟨u.slots,k b u q⟩
 free:=fun b u q n _=>by rw[Ag (jW_ (jG_ (jy_ q) hp))];exact n
 there:=fun b u q _=>⟨u,k b u q⟩
 tups:=fun b xs q=>by rw[Ag (AO q hn)];exact q
 frzs:=fun b u xs q=>by rw[Ag (AO q hn)];exact q
 tbls:=fun b ps q=>⟨#[],by rw[Ag (AO q hn),q];simp⟩
theorem Un.write (mu:Mut (H x))(he:e=x\/H e=some (.own x))(k:∀b u,b≠e->h.get? b=some u->h'.get? b=some u)(heo:∃u,h'.get? e=some u):Un fs ex H (upd H x o) h h':=by
 have hx:∀b,H b=none->b≠x:=fun b n z=>by subst z;rw[n]at mu;exact mu
 have hb:∀b,H b=none->b≠e:=fun b n z=>by
  subst z
  rcases he with r|r
  ·exact hx b n r
  ·rw[n]at r;cases r
 have hm:∀b u,H b=some u->¬ Mut (some u)->b≠x:=fun b u q nm z=>by subst z;rw[q]at mu;exact nm mu
 refine⟨fun b u q n _ _=>k b u (hb b n) q,fun b u q n _ _=>⟨u.slots,k b u (hb b n) q⟩,fun b u q n _=>by rw[Ag (hx b n)];exact n,fun b u q _=>?_,
  fun b xs q=>by rw[Ag (hm b _ q fun z=>z)];exact q,fun b u xs q=>by rw[Ag (hm b _ q fun z=>z)];exact q,fun b ps q=>⟨#[],by rw[Ag (hm b _ q fun z=>z),q];simp⟩⟩
 by_cases hbe:b=e
 ·subst hbe;exact heo
 ·exact⟨u,k b u hbe q⟩
end
noncomputable def trk (h:Heap)(H:Hp):List Addr:=(List.range h.objs.size).filter fun a=>(H a).isSome
noncomputable def hidT (h:Heap)(H:Hp):Heap:=PySem.W.hideAll h (trk h H)
theorem LL (h:Heap)(H:Hp):(hidT h H).objs.size=h.objs.size:=PySem.W.hideAll_size _ _
theorem EG     (e:h.get? b=some o)(n:H b=none):(hidT h H).get? b=some o:=
 PySem.W.hideAll_get _ e fun hm=>by
  have q:(H b).isSome=true:=(List.mem_filter.mp hm).2
  rw[n]at q;simp at q
theorem Qm     (e:(hidT h H).get? b=some o):h.get? b=some o/\H b=none:=by
 have e':h.get? b=some o:=PySem.W.of_hideAll (trk h H) e
 refine⟨e',?_⟩
 cases q:H b with
 |none=>rfl
 |some x=>
  have hm:b∈trk h H:=List.mem_filter.mpr ⟨q2_.mpr (jy_ e'),by simp[q]⟩
  have z:(hidT h H).get? b=none:=PySem.W.hideAll_none (trk h H) hm
  rw[z]at e;cases e
noncomputable def Qn (g h:Heap)(L:Addr):α7:=(List.range h.objs.size).filterMap fun a=>if a=L\/(g.get? a).isSome=true then none else (h.get? a).map fun o=>(a,o)
noncomputable def rest (g h:Heap)(L d:Addr):α7:=(Qn g h L).filter fun p=>decide (p.1≠d)
end L2
namespace L2
open PySem PySem.Spec PyProof.Rows
structure Mod (K:α3)(mg:Str->α5)(base:Heap):Prop where
 kin:K.In base
 glob:base.Ns mainGlobals mg
 blt:∃mb,base.Ns builtinsNs mb/\∀x:Str,x ≠ "__name__" -> mb x=bootBuiltins x
 nolimit:base.NoLimit
structure Cx where
 prog:Program
 w:World
 K:α3
 mg:Str->α5
 base:Heap
 A:Around
 N:List Str
 s₀:Shared
 H₀:Hp
 env:Env
 outer:List Env
 stack:List Env
 ex:List Addr
 fn:Str->Bool
 calm:Bool
 pn:α7
 xe:Value->Shared->Prop
noncomputable def frs (l:List Env):List Addr:=l.filterMap (·.frame)
noncomputable abbrev Cx.fs (X:Cx):List Addr:=frs X.outer
noncomputable def Vis (sc:Scope)(x:Str):Prop:=sc.names.lookup x=some .local\/sc.names.lookup x=some .cell\/sc.names.lookup x=some .free
noncomputable def Loc (sc:Scope)(x:Str):Prop:=sc.names.lookup x=some .local\/sc.names.lookup x=some .cell
noncomputable def Look (env:Env)(h:Heap)(m:Str->α5)(x:Str)(u:Value):Prop:=
 (env.kindOf x=some .local/\m x=some u)\/((env.kindOf x=some .cell\/env.kindOf x=some .free)/\∃c,env.cells.lookup x=some c/\h.IsCell c (some u))
structure Cx.Ok (X:Cx):Prop where
 mod:Mod X.K X.mg X.base
 kind:X.env.scope.kind=.function
 glob:X.env.globals=mainGlobals
 blt:X.env.builtins=builtinsNs
 above:X.s₀.heap.objs.size<=X.env.locals
 inj:∀x y c,X.env.cells.lookup x=some c->X.env.cells.lookup y=some c->x=y
 has:∀x,(X.env.kindOf x=some .cell\/X.env.kindOf x=some .free)->∃c,X.env.cells.lookup x=some c
 cab:∀x c,X.fn x=true->X.env.cells.lookup x=some c->X.s₀.heap.objs.size<=c
 hd:X.calm=true->X.A.handled=none
 frames:X.A.frames=some X.stack
 stk:X.stack=X.outer\/(X.stack=X.env::X.outer/\X.env.frame=some X.env.locals)
 exf:∀b∈X.ex,b≠X.env.locals/\∀x c,X.env.cells.lookup x=some c->c≠b
 bs:∀b o,X.base.get? b=some o->X.s₀.heap.get? b=some o/\X.H₀ b=none
 bsz:X.base.objs.size<=X.s₀.heap.objs.size
 noex:∀b o,X.base.get? b=some o->b∉X.ex
 exfs:∀b∈X.ex,b∉X.fs
 funs:X.s₀.heap.FunFrames X.base X.outer
 frf:∀b∈X.fs,X.H₀ b=none
structure Inv (X:Cx)(pins:α7)(σ:List (Option V))(H:Hp)(s:Shared):Prop where
 ok:X.Ok
 os:s.os=X.s₀.os
 bare:AllBare s.gens
 base:Un X.fs X.ex X.H₀ H X.s₀.heap s.heap
 loc:∃m,s.heap.Ns X.env.locals m/\∀(i:Nat) (x:Str) (v:V),X.N[i]?=some x->σ[i]?=some (some v)->Vis X.env.scope x->∃u,RelV v u/\Look X.env s.heap m x u
 cell:∀x c,X.env.cells.lookup x=some c->∃v,s.heap.IsCell c v
 free:H X.env.locals=none
 freeC:∀x c,X.env.cells.lookup x=some c->H c=none
 pin:∀p∈X.pn++pins,s.heap.get? p.1=some p.2/\H p.1=none/\p.1≠X.env.locals/\p.1∉X.fs/\∀v,p.2.data ≠ .cell v
 hok:HOk X.prog X.w H s.heap
 len:σ.length=X.N.length
section
variable {X:Cx} {pins:α7} {σ:List (Option V)} {H H':Hp} {s:Shared} {h':Heap}
theorem Cx.Ok.nofr (ok:X.Ok)   (e:X.base.get? b=some o):b∉X.fs:=fun hb=>by
 have:=(ok.funs.mem hb).1
 rw[e]at this;cases this
theorem Inv.bs (I:Inv X pins σ H s):∀b o,X.base.get? b=some o->s.heap.get? b=some o/\H b=none:=fun b o e=>
 ⟨I.base.keep b o (I.ok.bs b o e).1 (I.ok.bs b o e).2 (I.ok.nofr e) (I.ok.noex b o e),I.base.free b o (I.ok.bs b o e).1 (I.ok.bs b o e).2 (I.ok.noex b o e)⟩
theorem Inv.bk (I:Inv X pins σ H s):∀b o,X.base.get? b=some o->s.heap.get? b=some o:=fun b o e=>(I.bs b o e).1
theorem Inv.mod (I:Inv X pins σ H s):Mod X.K X.mg X.base:=I.ok.mod
theorem Inv.kIn (I:Inv X pins σ H s):X.K.In s.heap:=I.ok.mod.kin.keeps I.bk
theorem Inv.lt (I:Inv X pins σ H s):X.env.locals<s.heap.objs.size:=let ⟨_,hn,_⟩:=I.loc;hn.lt
theorem Inv.sz (I:Inv X pins σ H s):X.s₀.heap.objs.size<=s.heap.objs.size:=qG_ I.ok.above (qY_ I.lt)
theorem Inv.nofs (I:Inv X pins σ H s)  (h:s.heap.objs.size<=a):a∉X.fs:=fun hb=>by
 obtain⟨_,o,ho,_⟩:=I.ok.funs.mem hb
 exact absurd (jG_ (jy_ ho) (qG_ I.sz h)) (qi_ _)
theorem Inv.cne (I:Inv X pins σ H s):∀x c,X.env.cells.lookup x=some c->c≠X.env.locals:=fun x c e z=>by
 obtain⟨v,o,ho,hd⟩:=I.cell x c e
 obtain⟨m,⟨o',es,ep,ho',hd',_⟩,_⟩:=I.loc
 rw[z,ho']at ho;cases ho;rw[hd']at hd;cases hd
theorem Inv.funs (I:Inv X pins σ H s):s.heap.FunFrames X.base X.outer:=by
 have all:∀(l:List Env),(∀b∈frs l,b∈X.fs)->X.s₀.heap.FunFrames X.base l->s.heap.FunFrames X.base l:=by
  intro l
  induction l with
  |nil=>intro _ _;trivial
  |cons env r ih=>
   intro hs hl
   obtain⟨hk,⟨L,o,hf,hn,ho,hd⟩,hr⟩:=hl
   have hL:L∈X.fs:=hs L (by unfold frs;rw[x5_,hf];exact jv_)
   obtain⟨sl,e⟩:=I.base.slot L o ho (I.ok.frf L hL) hL fun z=>I.ok.exfs L z hL
   exact⟨hk,⟨L,_,hf,hn,e,hd⟩,ih (fun b hb=>hs b (by unfold frs;rw[x5_,hf];exact jx_ _ hb)) hr⟩
 exact all X.outer (fun _ hb=>hb) I.ok.funs
theorem Inv.stack (I:Inv X pins σ H s):s.heap.FunFrames X.base X.stack:=by
 rcases I.ok.stk with e|⟨e,hf⟩
 ·rw[e];exact I.funs
 ·rw[e]
  obtain⟨m,hn,_⟩:=I.loc
  refine .cons (by rw[I.ok.kind];decide) hf hn ?_ I.funs
  exact Heap.get?_none_of_le (qG_ I.ok.bsz I.ok.above)
theorem Inv.stkSub (I:Inv X pins σ H s):∀b∈frs X.stack,b∈X.env.locals::X.fs:=fun b hb=>by
 rcases I.ok.stk with e|⟨e,hf⟩
 ·rw[e]at hb;exact jx_ _ hb
 ·rw[e]at hb
  unfold frs at hb
  rw[x5_,hf]at hb
  exact hb
theorem Inv.stkFree (I:Inv X pins σ H s):∀b∈frs X.stack,H b=none:=fun b hb=>by
 rcases jJ_.mp (I.stkSub b hb) with e|hb
 ·rw[e];exact I.free
 ·obtain⟨_,o,ho,_⟩:=I.ok.funs.mem hb
  exact I.base.free b o ho (I.ok.frf b hb) fun z=>I.ok.exfs b z hb
theorem Inv.step {g':Array GenState}{t':Nat}{d':Drawn}{ch:List Addr}(I:Inv X pins σ H s)
  (hch:∀b∈ch,(b∈X.ex\/X.s₀.heap.objs.size<=b)/\b≠X.env.locals/\(∀x c,X.env.cells.lookup x=some c->c≠b)/\∀p∈X.pn++pins,p.1≠b)
  (keep:∀b o,b≠X.env.locals->b∉X.fs->b∉ch->s.heap.get? b=some o->H b=none->h'.get? b=some o)
  (slot:∀b o,b≠X.env.locals->b∈X.fs->b∉ch->s.heap.get? b=some o->H b=none->∃sl,h'.get? b=some {o with slots:=sl}) (free:∀b o,b∉ch->s.heap.get? b=some o->H b=none->H' b=none)
  (there:∀b o,b∉ch->s.heap.get? b=some o->∃o',h'.get? b=some o')
  (tups:∀b xs,H b=some (.tup xs)->H' b=some (.tup xs)) (frzs:∀b o u,H b=some (.frz o u)->H' b=some (.frz o u)) (tbls:∀b ps,H b=some (.tbl ps)->∃more,H' b=some (.tbl (ps++more)))
  (ns:∀m,s.heap.Ns X.env.locals m->h'.Ns X.env.locals m) (hok:HOk X.prog X.w H' h') (hg:AllBare g'):
  Inv X pins σ H' {s with heap:=h',gens:=g',drawn:=d',toks:=t' }:=by
 have neL:∀b o,X.s₀.heap.get? b=some o->b≠X.env.locals:=fun b o e=>jW_ (jG_ (jy_ e) I.ok.above)
 have neC:∀b o,X.s₀.heap.get? b=some o->b∉X.ex->b∉ch:=fun b o e hx hb=>by
  rcases (hch b hb).1 with z|z
  ·exact hx z
  ·exact absurd (jG_ (jy_ e) z) (qi_ _)
 have cellK:∀x c,X.env.cells.lookup x=some c->∀v,s.heap.IsCell c v->h'.IsCell c v:=fun x c e v ⟨o,ho,hd⟩=>by
  have nch:c∉ch:=fun z=>(hch c z).2.2.1 x c e rfl
  by_cases hc:c∈X.fs
  ·obtain⟨sl,q⟩:=slot c o (I.cne x c e) hc nch ho (I.freeC x c e)
   exact⟨_,q,hd⟩
  ·exact⟨o,keep c o (I.cne x c e) hc nch ho (I.freeC x c e),hd⟩
 refine⟨I.ok,I.os,hg,⟨fun b o e n hb hx=>?_,fun b o e n hb hx=>?_,fun b o e n hx=>?_,fun b o e hx=>?_,fun b xs e=>tups b xs (I.base.tups b xs e),fun b o xs e=>frzs b o xs (I.base.frzs b o xs e),fun b ps e=>?_⟩,?_,fun x c e=>?_,?_,fun x c e=>?_,fun p hp=>?_,hok,I.len⟩
 ·exact keep b o (neL b o e) hb (neC b o e hx) (I.base.keep b o e n hb hx) (I.base.free b o e n hx)
 ·obtain⟨sl,e1⟩:=I.base.slot b o e n hb hx
  obtain⟨sl',e2⟩:=slot b _ (neL b o e) hb (neC b o e hx) e1 (I.base.free b o e n hx)
  exact⟨sl',e2⟩
 ·obtain⟨o',e1⟩:=I.base.there b o e hx
  exact free b o' (neC b o e hx) e1 (I.base.free b o e n hx)
 ·obtain⟨o',e1⟩:=I.base.there b o e hx
  exact there b o' (neC b o e hx) e1
 ·obtain⟨m1,e1⟩:=I.base.tbls b ps e
  obtain⟨m2,e2⟩:=tbls b _ e1
  exact⟨m1++m2,by rw[e2,Array.append_assoc]⟩
 ·obtain⟨m,hn,hl⟩:=I.loc
  refine⟨m,ns m hn,fun i x v e1 e2 e3=>?_⟩
  obtain⟨u,r,l⟩:=hl i x v e1 e2 e3
  refine⟨u,r,?_⟩
  rcases l with l|⟨k,c,e,z⟩
  ·exact .inl l
  ·exact .inr ⟨k,c,e,cellK x c e _ z⟩
 ·obtain⟨v,z⟩:=I.cell x c e
  exact⟨v,cellK x c e v z⟩
 ·obtain⟨m,⟨o,_,_,ho,_⟩,_⟩:=I.loc
  exact free _ o (fun z=>(hch _ z).2.1 rfl) ho I.free
 ·obtain⟨v,o,ho,hd⟩:=I.cell x c e
  exact free c o (fun z=>(hch c z).2.2.1 x c e rfl) ho (I.freeC x c e)
 ·obtain⟨e,n,ne,nf,d⟩:=I.pin p hp
  have nch:p.1∉ch:=fun z=>(hch p.1 z).2.2.2 p hp rfl
  exact⟨keep p.1 p.2 ne nf nch e n,free p.1 p.2 nch e n,ne,nf,d⟩
theorem Inv.un  (I:Inv X pins σ H s)(u:Un X.fs [] H H' s.heap h')(hok:HOk X.prog X.w H' h'):Inv X pins σ H' {s with heap:=h',toks:=t' }:=by
 obtain⟨m,⟨o,es,ep,ho,r⟩,_⟩:=id I.loc
 obtain⟨sl,hL⟩:=u.any ho I.free (by simp)
 exact I.step (g':=s.gens) (d':=s.drawn) (ch:=[]) (fun _ z=>nomatch z) (fun b o _ hb _ e n=>u.keep b o e n hb (by simp)) (fun b o _ hb _ e n=>u.slot b o e n hb (by simp)) (fun b o _ e n=>u.free b o e n (by simp)) (fun b o _ e=>u.there b o e (by simp)) u.tups u.frzs u.tbls (fun m' hm=>by
  obtain⟨o',es',ep',ho',r'⟩:=hm
  rw[ho]at ho';cases ho'
  exact⟨_,es',ep',hL,r'⟩) hok I.bare
theorem Inv.call     (I:Inv X pins σ H s)(u:Un (frs X.stack) ch H H' s.heap h')(hok:HOk X.prog X.w H' h')(hg:AllBare g')
  (hch:∀b∈ch,(b∈X.ex\/X.s₀.heap.objs.size<=b)/\b≠X.env.locals/\(∀x c,X.env.cells.lookup x=some c->c≠b)/\∀p∈X.pn++pins,p.1≠b):
  Inv X pins σ H' {s with heap:=h',gens:=g',drawn:=d',toks:=t' }:=by
 obtain⟨m,⟨o,es,ep,ho,r⟩,_⟩:=id I.loc
 obtain⟨sl,hL⟩:=u.any ho I.free fun z=>(hch _ z).2.1 rfl
 exact I.step (ch:=ch) hch (fun b o hL hb hc e n=>u.keep b o e n (fun z=>(jJ_.mp (I.stkSub b z)).elim hL hb) hc) (fun b o _ _ hc e n=>u.any e n hc) (fun b o hc e n=>u.free b o e n hc) (fun b o hc e=>u.there b o e hc) u.tups u.frzs u.tbls (fun m' hm=>by
  obtain⟨o',es',ep',ho',r'⟩:=hm
  rw[ho]at ho';cases ho'
  exact⟨_,es',ep',hL,r'⟩) hok hg
theorem Inv.turned  {it:Addr}(I:Inv X pins σ H s)(k:∀b o,b≠it->s.heap.get? b=some o->h'.get? b=some o)(hn:H it=none)(hL:it≠X.env.locals)
  (h1:it∈X.ex\/X.s₀.heap.objs.size<=it) (h2:∀x c,X.env.cells.lookup x=some c->c≠it) (h3:∀p∈X.pn++pins,p.1≠it):Inv X pins σ H {s with heap:=h',toks:=t' }:=by
 have nit:∀b u,H b=some u->b≠it:=fun b u e z=>by rw[z,hn]at e;cases e
 refine I.step (g':=s.gens) (d':=s.drawn) (ch:=[it]) (fun b hb=>?_) (fun b o _ _ hc e _=>k b o (fun z=>hc (by simp[z])) e) (fun b o _ _ hc e _=>⟨o.slots,k b o (fun z=>hc (by simp[z])) e⟩) (fun _ _ _ _ n=>n)
  (fun b o hc e=>⟨o,k b o (fun z=>hc (by simp[z])) e⟩) (fun _ _ e=>e) (fun _ _ _ e=>e) (fun b ps e=>⟨#[],by rw[e];simp⟩) (fun m hm=>?_) (fun b u e=>?_) I.bare
 ·have e:b=it:=by simpa using hb
  subst e
  exact⟨h1,hL,h2,h3⟩
 ·obtain⟨o,es,ep,ho,r⟩:=hm
  exact⟨o,es,ep,k _ o (qf_ hL) ho,r⟩
 ·refine (I.hok b u e).stay (fun c v hc q=>k c v ?_ q) (fun _ q=>q) fun _ _ q=>q
  rcases hc with z|z
  ·rw[z];exact nit b u e
  ·exact nit c _ z
theorem Inv.tok (I:Inv X pins σ H s)(t:Nat):Inv X pins σ H {s with toks:=t}:=I.un (h':=s.heap) (t':=t) Un.refl I.hok
theorem Inv.kept  (I:Inv X pins σ H s)(k:∀b u,s.heap.get? b=some u->h'.get? b=some u):Inv X pins σ H {s with heap:=h',toks:=t' }:=I.un (Un.kept k) (I.hok.kept k)
theorem Inv.laid    (I:Inv X pins σ H s)(k:∀b u,s.heap.get? b=some u->h'.get? b=some u)(hp:s.heap.objs.size<=a)(new:AX X.prog X.w (upd H a o) h' a o):
  Inv X pins σ (upd H a o) {s with heap:=h',toks:=t' }:=I.un (Un.laid k hp (I.hok.fresh hp)) (I.hok.laid k hp new)
theorem Inv.write    (I:Inv X pins σ H s)(mu:Mut (H x))(he:e=x\/H e=some (.own x))(k:∀b u,b≠e->s.heap.get? b=some u->h'.get? b=some u)(heo:∃u,h'.get? e=some u)
  (new:AX X.prog X.w (upd H x o) h' x o):Inv X pins σ (upd H x o) {s with heap:=h',toks:=t' }:=I.un (Un.write mu he k heo) (I.hok.write mu he k heo new)
theorem Inv.pins_of  (I:Inv X pins σ H s)(h:∀p∈pins',s.heap.get? p.1=some p.2/\H p.1=none/\p.1≠X.env.locals/\p.1∉X.fs/\∀v,p.2.data ≠ .cell v):Inv X pins' σ H s:=
 ⟨I.ok,I.os,I.bare,I.base,I.loc,I.cell,I.free,I.freeC,fun p hp=>(jj_.mp hp).elim (fun z=>I.pin p (jr_ _ z)) (h p),I.hok,I.len⟩
theorem HI {N:List Str}(hN:N.Nodup){i j:Nat}{x:Str}(a:N[i]?=some x)(b:N[j]?=some x):i=j:=by
 obtain⟨h1,e1⟩:=jc_.mp a
 obtain⟨h2,e2⟩:=jc_.mp b
 exact (xX_ hN).mp (e1.trans e2.symm)
theorem IK         (I:Inv X pins σ H s)(hN:X.N.Nodup)(hi:X.N[i]?=some x)(hx:Loc X.env.scope x)(r:RelV v u)
  (h:∀s',Inv X pins (σ.set i (some v)) H s'->(∃a,Heap.SameBut a s.heap s'.heap/\(a=X.env.locals\/X.env.cells.lookup x=some a))->Q () s') (hf:X.fn x=true\/X.env.scope.names.lookup x=some .local:=by first|exact .inl rfl|exact .inr rfl|assumption):wpAny M A (storeName X.env x u) Q E s:=by
 obtain⟨m,hn,hl⟩:=id I.loc
 have hcls:(X.env.scope.kind == .class||(X.env.scope.kind == .module&&X.env.locals != X.env.globals))=false:=by rw[I.ok.kind];rfl
 have hiσ:i<σ.length:=by rw[I.len];exact (jc_.mp hi).1
 have cne:=I.cne
 have tracked:∀{a:Addr} {h':Heap},(∃o,s.heap.get? a=some o/\H a=none)->Heap.SameBut a s.heap h'->HOk X.prog X.w H h':=fun {a h'} ha hs b ob e=>by
  obtain⟨_,_,hfree⟩:=ha
  refine (I.hok b ob e).stay (fun c w' hc q=>(hs.2 c ?_).trans q) (fun _ q=>q) fun _ _ q=>q
  rintro rfl
  rcases hc with rfl|hc
  ·rw[hfree]at e;cases e
  ·rw[hfree]at hc;cases hc
 rcases hx with hk|hk
 ·refine wpAny_storeName_local hk hn (fun h' hn' hs=>?_) hcls
  obtain⟨oL,_,_,hoL,_⟩:=id hn
  refine h _ ⟨I.ok,I.os,I.bare,⟨fun b o e n hb hx=>?_,fun b o e n hb hx=>?_,I.base.free,fun b o e hx=>?_,I.base.tups,I.base.frzs,I.base.tbls⟩,⟨_,hn',fun j y v' e1 e2 e3=>?_⟩,fun y c e=>?_,I.free,I.freeC,fun p hp=>?_,tracked ⟨oL,hoL,I.free⟩ hs,by simpa using I.len⟩ ⟨_,hs,.inl rfl⟩
  ·exact (hs.2 b (jW_ (jG_ (jy_ e) I.ok.above))).trans (I.base.keep b o e n hb hx)
  ·obtain⟨sl,e1⟩:=I.base.slot b o e n hb hx
   exact⟨sl,(hs.2 b (jW_ (jG_ (jy_ e) I.ok.above))).trans e1⟩
  ·obtain⟨o',e1⟩:=I.base.there b o e hx
   exact⟨o',(hs.2 b (jW_ (jG_ (jy_ e) I.ok.above))).trans e1⟩
  ·by_cases hj:j=i
   ·subst hj
    rw[hi]at e1;cases e1
    rw[jM_ hiσ]at e2
    cases e2
    exact⟨u,r,.inl ⟨hk,by simp⟩⟩
   ·rw[jY_ (qf_ hj)]at e2
    obtain⟨u',r',q⟩:=hl j y v' e1 e2 e3
    refine⟨u',r',?_⟩
    rcases q with ⟨k,e⟩|⟨k,c,e,z⟩
    ·refine .inl ⟨k,?_⟩
     have:y≠x:=fun e=>hj (HI hN e1 (e ▸ hi))
     simp[this,e]
    ·exact .inr ⟨k,c,e,z.sameBut hs (cne y c e)⟩
  ·obtain⟨w',z⟩:=I.cell y c e
   exact⟨w',z.sameBut hs (cne y c e)⟩
  ·obtain⟨e,n,ne,nf,d⟩:=I.pin p hp
   exact⟨(hs.2 p.1 ne).trans e,n,ne,nf,d⟩
 ·have hfn:X.fn x=true:=by
   rcases hf with z|z
   ·exact z
   ·rw[z]at hk;cases hk
  obtain⟨c,hc⟩:=I.ok.has x (.inl hk)
  obtain⟨w',z⟩:=I.cell x c hc
  refine wpAny_storeName_cell I.ok.kind hk hc z (fun h' hc' hs=>?_)
  obtain⟨oc,hoc,hocd⟩:=id z
  refine h {s with heap:=h' } ⟨I.ok,I.os,I.bare,⟨fun b o e n hb hx=>?_,fun b o e n hb hx=>?_,I.base.free,fun b o e hx=>?_,I.base.tups,I.base.frzs,I.base.tbls⟩,⟨m,hn.sameBut hs (qf_ (cne x c hc)),fun j y v' e1 e2 e3=>?_⟩,fun y c' e=>?_,I.free,I.freeC,fun p hp=>?_,tracked ⟨oc,hoc,I.freeC x c hc⟩ hs,by simpa using I.len⟩ ⟨c,hs,.inr hc⟩
  ·exact (hs.2 b (jW_ (jG_ (jy_ e) (I.ok.cab x c hfn hc)))).trans (I.base.keep b o e n hb hx)
  ·obtain⟨sl,e1⟩:=I.base.slot b o e n hb hx
   exact⟨sl,(hs.2 b (jW_ (jG_ (jy_ e) (I.ok.cab x c hfn hc)))).trans e1⟩
  ·obtain⟨o',e1⟩:=I.base.there b o e hx
   exact⟨o',(hs.2 b (jW_ (jG_ (jy_ e) (I.ok.cab x c hfn hc)))).trans e1⟩
  ·by_cases hj:j=i
   ·subst hj
    rw[hi]at e1;cases e1
    rw[jM_ hiσ]at e2
    cases e2
    exact⟨u,r,.inr ⟨.inl hk,c,hc,hc'⟩⟩
   ·rw[jY_ (qf_ hj)]at e2
    obtain⟨u',r',q⟩:=hl j y v' e1 e2 e3
    refine⟨u',r',?_⟩
    rcases q with q|⟨k,c',e,z'⟩
    ·exact .inl q
    ·refine .inr ⟨k,c',e,z'.sameBut hs ?_⟩
     rintro rfl
     exact hj (HI hN e1 (I.ok.inj _ _ _ e hc ▸ hi))
  ·by_cases hcc:c'=c
   ·subst hcc;exact⟨_,hc'⟩
   ·obtain⟨w2,z2⟩:=I.cell y c' e
    exact⟨w2,z2.sameBut hs hcc⟩
  ·obtain⟨e,n,ne,nf,d⟩:=I.pin p hp
   refine⟨(hs.2 p.1 ?_).trans e,n,ne,nf,d⟩
   intro q
   rw[q,hoc]at e
   have q':oc=p.2:=jH_ e
   exact d w' (by rw[<-q'];exact hocd)
theorem F9         (I:Inv X pins σ H s)(hN:X.N.Nodup)(hi:X.N[i]?=some x)(hx:Loc X.env.scope x)(r:RelV v u)
  (h:∀s',Inv X pins (σ.set i (some v)) H s'->Q () s') (hf:X.fn x=true\/X.env.scope.names.lookup x=some .local:=by first|exact .inl rfl|exact .inr rfl|assumption):wpAny M A (storeName X.env x u) Q E s:=
 IK I hN hi hx r (fun s' I' _=>h s' I') hf
theorem Inv.call'   (I:Inv X pins σ H s)(ho:s'.os=s.os)(u:Un (frs X.stack) ch H H' s.heap s'.heap)(hok:HOk X.prog X.w H' s'.heap)(hg:AllBare s'.gens)
  (hch:∀b∈ch,(b∈X.ex\/X.s₀.heap.objs.size<=b)/\b≠X.env.locals/\(∀x c,X.env.cells.lookup x=some c->c≠b)/\∀p∈X.pn++pins,p.1≠b):Inv X pins σ H' s':=by
 obtain⟨h',g',d',t',o'⟩:=s'
 have e:o'=s.os:=ho
 subst e
 exact I.call (g':=g') (t':=t') (d':=d') u hok hg hch
end
noncomputable abbrev XK:=Value->Option Addr->Hp->Prop
noncomputable abbrev St:=List (Option V)
noncomputable abbrev VK:=V->Hp->Prop
noncomputable abbrev TE:=St->Hp->VK->Prop
noncomputable abbrev TT:=St->Hp->(Bool->Hp->Prop)->Prop
noncomputable abbrev TA:=St->Hp->(List V->Hp->Prop)->Prop
structure Ends where
 nx:St->Hp->Prop
 rt:VK
 bk:St->Hp->Prop:=fun _ _=>False
 ct:St->Hp->Prop:=fun _ _=>False
noncomputable abbrev TS:=Ends->St->Hp->Prop
noncomputable def EP (X:Cx)(pins:α7)(σ:St)(Q:VK)(u:Value)(s':Shared):Prop:=∃v H',Inv X pins σ H' s'/\RelV v u/\Q v H'
noncomputable def TP (X:Cx)(pins:α7)(σ:St)(Q:Bool->Hp->Prop)(b:Bool)(s':Shared):Prop:=∃H',Inv X pins σ H' s'/\Q b H'
noncomputable def AP (X:Cx)(pins:α7)(σ:St)(Q:List V->Hp->Prop)(us:List Value)(s':Shared):Prop:=∃vs H',Inv X pins σ H' s'/\Vals vs us/\Q vs H'
noncomputable def SP (X:Cx)(pins:α7)(D:Ends)(f:Flow)(s':Shared):Prop:=
 match f with
 |.next=>∃σ' H',Inv X pins σ' H' s'/\D.nx σ' H'
 |.brk=>∃σ' H',Inv X pins σ' H' s'/\D.bk σ' H'
 |.cont=>∃σ' H',Inv X pins σ' H' s'/\D.ct σ' H'
 |.ret u=>∃v σ' H',Inv X pins σ' H' s'/\RelV v u/\D.rt v H'
noncomputable def PE (X:Cx)(e:Expr)(t:TE):Prop:=
 ∀(pins:α7) (s:Shared) (σ:St) (H:Hp) (Q:VK),Inv X pins σ H s->t σ H Q->wpAny (model X.prog X.w) X.A (eval e X.env) (EP X pins σ Q) X.xe s
noncomputable def PT (X:Cx)(e:Expr)(t:TT):Prop:=
 ∀(pins:α7) (s:Shared) (σ:St) (H:Hp) (Q:Bool->Hp->Prop),Inv X pins σ H s->t σ H Q->wpAny (model X.prog X.w) X.A (isTrue e X.env (eval e X.env)) (TP X pins σ Q) X.xe s
noncomputable def PW (X:Cx)(e:Expr)(t:TT):Prop:=
 ∀(whole:Sem Value) (pins:α7) (s:Shared) (σ:St) (H:Hp) (Q:Bool->Hp->Prop),Inv X pins σ H s->t σ H Q->wpAny (model X.prog X.w) X.A (isTrue e X.env whole) (TP X pins σ Q) X.xe s
theorem PW.pt    (h:PW X e t):PT X e t:=h _
noncomputable def PA (X:Cx)(es:List Expr)(t:TA):Prop:=
 ∀(pos:Pos) (pins:α7) (s:Shared) (σ:St) (H:Hp) (Q:List V->Hp->Prop),Inv X pins σ H s->t σ H Q->wpAny (model X.prog X.w) X.A (spliced (backTo pos (starEach es X.env))) (AP X pins σ Q) X.xe s
noncomputable def PS (X:Cx)(st:Stmt)(t:TS):Prop:=
 ∀(pins:α7) (s:Shared) (σ:St) (H:Hp) (D:Ends),Inv X pins σ H s->t D σ H->wpAny (model X.prog X.w) X.A (exec st X.env) (SP X pins D) X.xe s
noncomputable def PSs (X:Cx)(st:List Stmt)(t:TS):Prop:=
 ∀(pins:α7) (s:Shared) (σ:St) (H:Hp) (D:Ends),Inv X pins σ H s->t D σ H->wpAny (model X.prog X.w) X.A (execs st X.env) (SP X pins D) X.xe s
theorem thn        (h:wpAny M A t Q E s)(hQ:∀a s,Q a s->Q' a s):wpAny M A t Q' E s:=qz_ h hQ fun _ _ x=>x
end L2
namespace L2
open PySem PySem.Spec PyProof.Rows
section
variable {X:Cx}
noncomputable def tVar (i:Nat):TE:=fun σ H Q=>∃v,σ[i]?=some (some v)/\Q v H
noncomputable def tC (v:V):TE:=fun _ H Q=>Q v H
theorem Ru    (hN:X.N[i]?=some x)(hv:Vis X.env.scope x)(hd:(x==("__debug__" : Str))=false:=by decide)(hcd:(x==("__classdict__" : Str))=false:=by decide):PE X (.Name x pos) (tVar i):=by
 intro pins s σ H Q I h
 obtain⟨v,e,h⟩:=h
 obtain⟨m,hn,hl⟩:=I.loc
 obtain⟨u,r,l⟩:=hl i x v hN e hv
 have fin:EP X pins σ Q u s:=⟨v,H,I,r,h⟩
 rcases l with ⟨hk,hm⟩|⟨hk,c,hc,hcell⟩
 ·exact wpAny_Name (wpAny_loadName_local I.ok.kind hk hn hm fin) hd
 ·rcases hk with hk|hk
  ·exact wpAny_Name (wpAny_loadName_cell I.ok.kind hk hc hcell fin) hd
  ·exact wpAny_Name (wpAny_loadName_free I.ok.kind hk hc hcell fin hcd) hd
theorem Ae {i j pos}:PE X (.Constant (.int i) j pos) (tC (.int i)):=fun _ _ _ H _ I h=>wpAny_Constant_int ⟨.int i,H,I.tok _,⟨_,rfl⟩,h⟩
theorem Di {b j pos}:PE X (.Constant (.bool b) j pos) (tC (.bl b)):=fun _ _ _ H _ I h=>Constant_bool ⟨.bl b,H,I,rfl,h⟩
theorem Ba {j pos}:PE X (.Constant .none j pos) (tC .non):=fun _ _ _ H _ I h=>Constant_none ⟨.non,H,I,rfl,h⟩
theorem Rv {x j pos}:PE X (.Constant (.str x) j pos) (tC (.str x)):=fun _ _ _ H _ I h=>Calls.Constant_str ⟨.str x,H,I.tok _,⟨_,rfl⟩,h⟩
noncomputable def Gl (X:Cx)(x:Str):Prop:=X.env.kindOf x=some .globalImplicit
theorem Gn          (I:Inv X pins σ H s)(hg:Gl X x)(hm:X.mg x=some u)(h:Q u s)
  (hd:(x==("__debug__" : Str))=false:=by decide):wpAny (model X.prog X.w) X.A (eval (.Name x pos) X.env) Q E s:=
 Calls.Name_function_global I.ok.kind hg (Calls.loadGlobal_global (by rw[I.ok.glob];exact I.mod.glob.keeps I.bk) hm h) hd
theorem DB          (I:Inv X pins σ H s)(hg:Gl X x)(hm:X.mg x=none)(hv:bootBuiltins x=some u)(h:Q u s)
  (hn:x ≠ "__name__" := by decide) (hd:(x==("__debug__" : Str))=false:=by decide):wpAny (model X.prog X.w) X.A (eval (.Name x pos) X.env) Q E s:=by
 obtain⟨mb,h1,h2⟩:=I.mod.blt
 exact Calls.Name_function_global I.ok.kind hg (Calls.loadGlobal_builtin (by rw[I.ok.glob];exact I.mod.glob.keeps I.bk) hm (by rw[I.ok.blt];exact h1.keeps I.bk) ((h2 x hn).trans hv) h) hd
theorem LM     (hg:Gl X x)(hm:X.mg x=some u)(r:RelV v u)(hd:(x==("__debug__" : Str))=false:=by decide):PE X (.Name x pos) (tC v):=
 fun _ _ _ H _ I h=>Gn I hg hm ⟨v,H,I,r,h⟩ hd
theorem JI     (hg:Gl X x)(hm:X.mg x=none)(hv:bootBuiltins x=some u)(r:RelV v u)(hn:x ≠ "__name__" := by decide)(hd:(x==("__debug__" : Str))=false:=by decide):PE X (.Name x pos) (tC v):=
 fun _ _ _ H _ I h=>DB I hg hm hv ⟨v,H,I,r,h⟩ hn hd
variable {a b:Expr} {ta tb:TE} {pos:Pos}
noncomputable def PC (X:Cx)(op:CmpOp)(a b:Expr)(t:TE):Prop:=
 ∀(pins:α7) (s:Shared) (σ:St) (H:Hp) (Q:VK),Inv X pins σ H s->t σ H Q ->
  wpAny (model X.prog X.w) X.A (eval a X.env) (fun v s₁=>wpAny (model X.prog X.w) X.A (eval b X.env) (fun u s₂=>wpAny (model X.prog X.w) X.A (compareOp op v u) (EP X pins σ Q) X.xe s₂) X.xe s₁) X.xe s
theorem N4 (b:Expr)  (h:op ≠ .In)(h2:op ≠ .NotIn):behindInMarks op b=false:=by
 have e1:(op==CmpOp.In)=false:=by cases op<;>first|rfl|exact absurd rfl h
 have e2:(op==CmpOp.NotIn)=false:=by cases op<;>first|rfl|exact absurd rfl h2
 cases b<;>simp[behindInMarks,e1,e2]
noncomputable def tB (t:TE):TT:=fun σ H Q=>t σ H fun x H1=>∃c,x=.bl c/\Q c H1
theorem OO   (h:PC X op a b t)(h1:behindInMarks op b=false:=by first|exact N4 _ (by decide) (by decide)|rfl):PT X (.Compare a [op] [b] pos) (tB t):=by
 intro pins s σ H Q I hw
 refine wpAny_isTrue_Compare1 (thn (h pins s σ H _ I hw) fun v s1 h1=>thn h1 fun u s2 h2=>thn h2 fun c s3 ⟨x,H1,I1,r1,q1⟩=>?_) h1
 obtain⟨d,rfl,q⟩:=q1
 cases r1
 exact qS_ ⟨H1,I1,q⟩
theorem FE   (h:PE X e t)(he:∀whole,isTrue e X.env whole=(do let v <- whole;standAt e.pos;holding [v] (truthy v)):=by intro _;rfl):PT X e (tB t):=by
 intro pins s σ H Q I hw
 refine isTrue_plain (thn (h pins s σ H _ I hw) fun v s1 ⟨x,H1,I1,r1,q1⟩=>?_) (he _)
 obtain⟨d,rfl,q⟩:=q1
 cases r1
 exact qS_ ⟨H1,I1,q⟩
variable {tA tB':TT} {rest:List Expr}
noncomputable def tAnd (t u:TT):TT:=fun σ H Q=>t σ H fun c H1=>if c=true then u σ H1 Q else Q false H1
noncomputable def tOr (t u:TT):TT:=fun σ H Q=>t σ H fun c H1=>if c=true then Q true H1 else u σ H1 Q
noncomputable def tNot (t:TT):TT:=fun σ H Q=>t σ H fun c H1=>Q (!c) H1
theorem Fm (ha:PT X a tA):PW X (.BoolOp .And [a] pos) tA:=by
 intro wh pins s σ H Q I h
 refine isTrue_and (thn (ha pins s σ H Q I h) fun c s1 e=>?_)
 cases c with
 |true=>exact isTrue_and_nil e
 |false=>exact e
theorem Hn (ha:PT X a tA):PW X (.BoolOp .Or [a] pos) tA:=by
 intro wh pins s σ H Q I h
 refine isTrue_or (thn (ha pins s σ H Q I h) fun c s1 e=>?_)
 cases c with
 |false=>exact isTrue_or_nil e
 |true=>exact e
theorem Ho (ha:PT X a tA)(hb:PW X (.BoolOp .And (b::rest) pos) tB'):PW X (.BoolOp .And (a::b::rest) pos) (tAnd tA tB'):=by
 intro wh pins s σ H Q I h
 refine isTrue_and (thn (ha pins s σ H _ I h) fun c s1 ⟨H1,I1,q1⟩=>?_)
 cases c with
 |true=>exact hb wh pins s1 σ H1 Q I1 q1
 |false=>exact⟨H1,I1,q1⟩
theorem Ld (ha:PT X a tA)(hb:PW X (.BoolOp .Or (b::rest) pos) tB'):PW X (.BoolOp .Or (a::b::rest) pos) (tOr tA tB'):=by
 intro wh pins s σ H Q I h
 refine isTrue_or (thn (ha pins s σ H _ I h) fun c s1 ⟨H1,I1,q1⟩=>?_)
 cases c with
 |true=>exact⟨H1,I1,q1⟩
 |false=>exact hb wh pins s1 σ H1 Q I1 q1
theorem IL (ha:PT X a tA):PT X (.UnaryOp .Not a pos) (tNot tA):=by
 intro pins s σ H Q I h
 exact isTrue_not (ha pins s σ H (fun c H1=>Q (!c) H1) I h)
noncomputable def Rw (ta tb:TE):TE:=fun σ H Q=>ta σ H fun x H1=>∃c,x=.bl c/\if c=true then tb σ H1 Q else Q (.bl false) H1
noncomputable def Rx (ta:TE):TE:=fun σ H Q=>ta σ H fun x H1=>∃c,x=.bl c/\Q (.bl (!c)) H1
theorem OP {op}  (h:PE X a t):PE X (.BoolOp op [a] pos) t:=fun pins s σ H Q I hw=>BoolOp_one (h pins s σ H Q I hw)
theorem OQ (ha:PE X a ta)(hb:PE X (.BoolOp .And (b::rest) pos) tb):PE X (.BoolOp .And (a::b::rest) pos) (Rw ta tb):=by
 intro pins s σ H Q I h
 refine BoolOp_and (thn (ha pins s σ H _ I h) fun v s1 ⟨x,H1,I1,r1,q1⟩=>?_)
 obtain⟨c,rfl,q1⟩:=q1
 cases r1
 refine qS_ ?_
 cases c with
 |true=>exact hb pins s1 σ H1 Q I1 q1
 |false=>exact⟨.bl false,H1,I1,rfl,q1⟩
theorem OR (ha:PE X a ta):PE X (.UnaryOp .Not a pos) (Rx ta):=by
 intro pins s σ H Q I h
 refine UnaryOp_ (thn (ha pins s σ H _ I h) fun v s1 ⟨x,H1,I1,r1,q1⟩=>?_)
 obtain⟨c,rfl,q1⟩:=q1
 cases r1
 exact not_of (qS_ ⟨.bl (!c),H1,I1,rfl,q1⟩)
noncomputable def tIf (t:TT)(ta tb:TE):TE:=fun σ H Q=>t σ H fun c H1=>if c=true then ta σ H1 Q else tb σ H1 Q
theorem Ga  (hc:PT X c tA)(ha:PE X a ta)(hb:PE X b tb):PE X (.IfExp c a b pos) (tIf tA ta tb):=by
 intro pins s σ H Q I h
 refine wpAny_IfExp (thn (hc pins s σ H _ I h) fun d s1 ⟨H1,I1,q1⟩=>?_)
 cases d with
 |true=>exact ha pins s1 σ H1 Q I1 q1
 |false=>exact hb pins s1 σ H1 Q I1 q1
end
end L2
namespace L2
open PySem PySem.Spec PyProof.Rows
noncomputable def SqL (K:α3)(H:Hp)(a:Addr)(xs:List V):Prop:=
 Rd H a (.lst xs) \/
  ∃(o:Obj) (its:Array Value) (n:Nat),K.lookup a=some o/\o.cls=.type "list" /\ o.dict=none/\o.data=.seq its n/\its.size<=sizeLine/\Vals xs its.toList
noncomputable def SqT (K:α3)(H:Hp)(a:Addr)(xs:List V):Prop:=
 Rd H a (.tup xs) \/
  ∃(o:Obj) (its:Array Value) (n:Nat),K.lookup a=some o/\o.cls=.type "tuple" /\ o.data=.seq its n/\its.size<=sizeLine/\Vals xs its.toList
noncomputable def absV:Value->Option V
 |.none=>some .non
 |.bool b=>some (.bl b)
 |.int i _=>some (.int i)
 |.str x _=>some (.str x)
 |.bytes b _=>some (.byt b)
 |.float b _=>some (.flt b)
 |.ref a=>some (.ref a)
 |.type n=>some (.ty n)
 |_=>none
theorem RelV.abs   (r:RelV x u):absV u=some x:=by
 cases x with
 |non=>cases r;rfl
 |bl _=>cases r;rfl
 |int _=>obtain⟨t,rfl⟩:=r;rfl
 |str _=>obtain⟨t,rfl⟩:=r;rfl
 |byt _=>obtain⟨t,rfl⟩:=r;rfl
 |flt _=>obtain⟨t,rfl⟩:=r;rfl
 |ref _=>cases r;rfl
 |ty _=>cases r;rfl
theorem RelV.inj   (r:RelV x u)(q:RelV y u):x=y:=jH_ (r.abs.symm.trans q.abs)
theorem Vals.inj:∀{xs ys:List V} {us:List Value},Vals xs us->Vals ys us->xs=ys
 |_,_,_,.nil,.nil=>rfl
 |_,_,_,.cons r t,.cons r' t'=>by rw[r.inj r',Vals.inj t t']
section
variable {X:Cx} {pins:α7} {σ:St} {H:Hp} {s:Shared} {a:Addr} {xs ys:List V}
theorem SqL.of {K:α3}(h:H a=some (.lst xs)):SqL K H a xs:=.inl (.inl h)
theorem SqT.of {K:α3}(h:H a=some (.tup xs)):SqT K H a xs:=.inl (.inl h)
theorem Inv.list (I:Inv X pins σ H s)(h:SqL X.K H a xs):∃its:List Value,Vals xs its/\PlainL s.heap a its.toArray/\xs.length<=sizeLine:=by
 rcases h with h|⟨o,its,n,hk,hc,hd,hs,hz,r⟩
 ·obtain⟨z,its,n,r,e⟩:=h.ok I.hok
  exact⟨its,r,⟨_,n,e,rfl,rfl,rfl⟩,z⟩
 ·refine⟨its.toList,r,⟨o,n,I.kIn a o hk,hc,hd,by simpa using hs⟩,?_⟩
  have e:=r.length
  simp only[xb_]at e
  lia
theorem Inv.tuple (I:Inv X pins σ H s)(h:SqT X.K H a xs):∃its:List Value,Vals xs its/\IsTup s.heap a its.toArray/\xs.length<=sizeLine:=by
 rcases h with h|⟨o,its,n,hk,hc,hs,hz,r⟩
 ·obtain⟨z,its,r,p⟩:=h.ok I.hok
  exact⟨its,r,p,z⟩
 ·refine⟨its.toList,r,⟨o,I.kIn a o hk,hc,n,by simpa using hs⟩,?_⟩
  have e:=r.length
  simp only[xb_]at e
  lia
theorem Inv.list_inj (I:Inv X pins σ H s)(h:SqL X.K H a xs)(h':SqL X.K H a ys):xs=ys:=by
 obtain⟨its,r,⟨o,n,e,_,_,d⟩,_⟩:=I.list h
 obtain⟨its',r',⟨o',n',e',_,_,d'⟩,_⟩:=I.list h'
 rw[e]at e';cases e'
 rw[d]at d'
 injection d' with d1 _
 have:its=its':=by simpa using qR_ Array.toList d1
 subst this
 exact r.inj r'
theorem Inv.tuple_inj (I:Inv X pins σ H s)(h:SqT X.K H a xs)(h':SqT X.K H a ys):xs=ys:=by
 obtain⟨its,r,⟨o,e,_,n,d⟩,_⟩:=I.tuple h
 obtain⟨its',r',⟨o',e',_,n',d'⟩,_⟩:=I.tuple h'
 rw[e]at e';cases e'
 rw[d]at d'
 injection d' with d1 _
 have:its=its':=by simpa using qR_ Array.toList d1
 subst this
 exact r.inj r'
end
noncomputable abbrev Cx.wish (X:Cx)(E:Value->Shared->Prop):Cx:={X with xe:=E}
noncomputable abbrev Cx.nox (X:Cx):Cx:=X.wish fun _ _=>False
theorem Cx.Ok.wish {X:Cx}(ok:X.Ok)(E:Value->Shared->Prop):(X.wish E).Ok:=
 ⟨ok.mod,ok.kind,ok.glob,ok.blt,ok.above,ok.inj,ok.has,ok.cab,ok.hd,ok.frames,ok.stk,ok.exf,ok.bs,ok.bsz,ok.noex,ok.exfs,ok.funs,ok.frf⟩
theorem Cx.Ok.unwish {X:Cx}{E:Value->Shared->Prop}(ok:(X.wish E).Ok):X.Ok:=
 ⟨ok.mod,ok.kind,ok.glob,ok.blt,ok.above,ok.inj,ok.has,ok.cab,ok.hd,ok.frames,ok.stk,ok.exf,ok.bs,ok.bsz,ok.noex,ok.exfs,ok.funs,ok.frf⟩
section
variable {X:Cx} {pins:α7} {σ:St} {H:Hp} {s:Shared} {E:Value->Shared->Prop}
theorem Inv.wish (I:Inv X pins σ H s)(E:Value->Shared->Prop):Inv (X.wish E) pins σ H s:=⟨I.ok.wish E,I.os,I.bare,I.base,I.loc,I.cell,I.free,I.freeC,I.pin,I.hok,I.len⟩
theorem Inv.unwish (I:Inv (X.wish E) pins σ H s):Inv X pins σ H s:=⟨I.ok.unwish,I.os,I.bare,I.base,I.loc,I.cell,I.free,I.freeC,I.pin,I.hok,I.len⟩
theorem SP.unwish    (h:SP (X.wish E) pins D f s'):SP X pins D f s':=by
 cases f with
 |next=>obtain⟨σ',H',I,q⟩:=h;exact⟨σ',H',I.unwish,q⟩
 |brk=>obtain⟨σ',H',I,q⟩:=h;exact⟨σ',H',I.unwish,q⟩
 |cont=>obtain⟨σ',H',I,q⟩:=h;exact⟨σ',H',I.unwish,q⟩
 |ret u=>obtain⟨v,σ',H',I,r,q⟩:=h;exact⟨v,σ',H',I.unwish,r,q⟩
theorem PSs.nox {st:List Stmt}  (h:PSs X.nox st t):PSs X st t:=fun pins s σ H D I hw=>
 qz_ (h pins s σ H D (I.wish _) hw) (fun _ _ q=>q.unwish) fun _ _ z=>False.elim z
end
section
variable {X:Cx} {st:Stmt} {rest:List Stmt} {t u:TS} {e:Expr} {te:TE} {pos:Pos}
noncomputable def Ry:TS:=fun D σ H=>D.nx σ H
noncomputable def tSeq (t u:TS):TS:=fun D σ H=>t {D with nx:=u D} σ H
theorem Ax:PSs X [] Ry:=fun _ _ σ H _ I h=>xC_ ⟨σ,H,I,h⟩
theorem Ac (h1:PS X st t)(h2:PSs X rest u):PSs X (st::rest) (tSeq t u):=by
 intro pins s σ H D I h
 refine wpAny_execs_cons (thn (h1 pins s σ H {D with nx:=u D} I h) fun f s1 q=>?_)
 cases f with
 |next=>
  obtain⟨σ',H',I',q⟩:=q
  exact h2 pins s1 σ' H' D I' q
 |ret v=>exact q
 |brk=>exact q
 |cont=>exact q
theorem Af (h1:PS X st t):PSs X [st] t:=by
 intro pins s σ H D I h
 refine wpAny_execs_cons (thn (h1 pins s σ H D I h) fun f s1 q=>?_)
 cases f with
 |next=>exact xC_ q
 |ret v=>exact q
 |brk=>exact q
 |cont=>exact q
theorem Inv.quiet     (I:Inv X pins σ H s):interactive X.env=false:=by simp[interactive,I.ok.kind]
noncomputable def Rz (te:TE):TS:=fun D σ H=>te σ H fun _ H1=>D.nx σ H1
theorem AM (he:PE X e te)(hs:swapsWith e none pos.line X.env=pure false:=by rfl):PS X (.Expr e pos) (Rz te):=by
 intro pins s σ H D I h
 exact wpAny_Expr_any (thn (he pins s σ H _ I h) fun v s1 ⟨x,H1,I1,r1,q1⟩=>⟨σ,H1,I1,q1⟩) I.quiet hs
noncomputable def tRet (te:TE):TS:=fun D σ H=>te σ H D.rt
theorem Aw (he:PE X e te):PS X (.Return (some e) pos) (tRet te):=by
 intro pins s σ H D I h
 exact wpAny_Return_some (thn (he pins s σ H _ I h) fun v s1 ⟨x,H1,I1,r1,q1⟩=>⟨x,σ,H1,I1,r1,q1⟩)
noncomputable def tIfS (c:TT)(t u:TS):TS:=fun D σ H=>c σ H fun b H1=>if b=true then t D σ H1 else u D σ H1
theorem AR    (hc:PT X c tc)(ha:PSs X a t)(hb:PSs X b u):PS X (.If c a b pos) (tIfS tc t u):=by
 intro pins s σ H D I h
 refine wpAny_If (thn (hc pins s σ H _ I h) fun d s1 ⟨H1,I1,q1⟩=>?_)
 cases d with
 |true=>exact ha pins s1 σ H1 D I1 q1
 |false=>exact hb pins s1 σ H1 D I1 q1
end
noncomputable abbrev TG:=V->St->Hp->(St->Hp->Prop)->Prop
noncomputable abbrev TGs:=List V->St->Hp->(St->Hp->Prop)->Prop
noncomputable def PG (X:Cx)(target:Expr)(t:TG):Prop:=
 ∀(pins:α7) (s:Shared) (σ:St) (H:Hp) (v:V) (u:Value) (Q:St->Hp->Prop),Inv X pins σ H s->RelV v u->t v σ H Q ->
  wpAny (model X.prog X.w) X.A (assign target X.env u) (fun _ s'=>∃σ' H',Inv X pins σ' H' s'/\Q σ' H') X.xe s
noncomputable def PGs (X:Cx)(ts:List Expr)(t:TGs):Prop:=
 ∀(pins:α7) (s:Shared) (σ:St) (H:Hp) (vs:List V) (us:List Value) (Q:St->Hp->Prop),Inv X pins σ H s->Vals vs us->t vs σ H Q ->
  wpAny (model X.prog X.w) X.A (assignInOrder ((assignEach ts X.env).map (·.2)) us) (fun _ s'=>∃σ' H',Inv X pins σ' H' s'/\Q σ' H') X.xe s
noncomputable abbrev TSet:=V->V->V->Hp->(Hp->Prop)->Prop
noncomputable def PSet (X:Cx)(t:TSet):Prop:=
 ∀(pins:α7) (s:Shared) (σ:St) (H:Hp) (o i v:V) (ov iv u:Value) (Q:Hp->Prop),Inv X pins σ H s->RelV o ov->RelV i iv->RelV v u->t o i v H Q ->
  wpAny (model X.prog X.w) X.A (setItem ov iv u) (fun _ s'=>∃H',Inv X pins σ H' s'/\Q H') X.xe s
noncomputable abbrev TIp:=V->V->Hp->VK->Prop
noncomputable def PIp (X:Cx)(op:Operator)(t:TIp):Prop:=
 ∀(pins:α7) (s:Shared) (σ:St) (H:Hp) (x y:V) (v u:Value) (Q:VK),Inv X pins σ H s->RelV x v->RelV y u->t x y H Q ->
  wpAny (model X.prog X.w) X.A (inplaceOp op v u) (EP X pins σ Q) X.xe s
section
variable {X:Cx} {pos:Pos}
noncomputable def HJ (i:Nat):TG:=fun v σ H Q=>Q (σ.set i (some v)) H
theorem As   (hN:X.N.Nodup)(hi:X.N[i]?=some x)(hx:Loc X.env.scope x)(hf:X.fn x=true\/X.env.scope.names.lookup x=some .local:=by first|exact .inl rfl|exact .inr rfl|assumption):PG X (.Name x pos) (HJ i):=by
 intro pins s σ H v u Q I r h
 exact wpAny_assign_Name (F9 I hN hi hx r (fun s' I'=>⟨_,H,I',h⟩) hf)
noncomputable def gNil:TGs:=fun vs σ H Q=>vs=[]/\Q σ H
noncomputable def RA (t:TG)(u:TGs):TGs:=fun vs σ H Q=>∃v r,vs=v::r/\t v σ H fun σ' H'=>u r σ' H' Q
theorem DL:PGs X [] gNil:=by
 intro pins s σ H vs us Q I r h
 obtain⟨e,h⟩:=h
 subst e
 cases r
 exact assignInOrder_nil ⟨σ,H,I,h⟩
theorem AZ     (h1:PG X e t)(h2:PGs X es u)
  (hs:(assignEach (e::es) X.env).map (·.2)=assign e X.env::(assignEach es X.env).map (·.2):=by rfl):PGs X (e::es) (RA t u):=by
 intro pins s σ H vs us Q I r h
 obtain⟨v,vr,e1,h⟩:=h
 subst e1
 cases r with
 |cons r rr=>
  rw[hs]
  refine assignInOrder_cons (thn (h1 pins s σ H _ _ _ I r h) fun _ s1 ⟨σ1,H1,I1,q1⟩=>?_)
  exact h2 pins s1 σ1 H1 _ _ Q I1 rr q1
noncomputable def gTup (K:α3)(n:Nat)(t:TGs):TG:=fun v σ H Q=>∃a xs,v=.ref a/\SqT K H a xs/\xs.length=n/\t xs σ H Q
theorem FF     (hc:X.calm=true)(h:PGs X es t)
  (hn:(assignEach es X.env).length=n:=by rfl) (hst:(assignEach es X.env).findIdx? (·.1)=none:=by rfl):PG X (.Tuple es k pos) (gTup X.K n t):=by
 intro pins s σ H v u Q I r hw
 obtain⟨a,xs,e1,hq,hl,hw⟩:=hw
 subst e1
 cases r
 obtain⟨its,rv,ht,hz⟩:=I.tuple hq
 refine assign_Tuple_tuple (I.ok.hd hc) ht (by simp[hn,<-hl,rv.length]) hst fun h' hx=>?_
 have I1:Inv X pins σ H {s with heap:=h' }:=I.kept (t':=s.toks) fun b o e=>hx b o (jW_ (jy_ e)) e
 exact h pins _ σ H xs _ Q I1 (by simpa using rv) hw
noncomputable def gSub (to ti:TE)(t:TSet):TG:=fun v σ H Q=>to σ H fun o H1=>ti σ H1 fun i H2=>t o i v H2 fun H3=>Q σ H3
theorem Gp    (ho:PE X o to)(hi:PE X i ti)(hs:PSet X t)
  (ha:∀v,assign (.Subscript o i pos) X.env v=(do
   let ov <- holding [v] (eval o X.env)
   let iv <- holding [v,ov] (eval i X.env)
   standAt pos
   holding [v,ov,iv] (setItem ov iv v)
   release [v,ov,iv] []):=by intro _;rfl):PG X (.Subscript o i pos) (gSub to ti t):=by
 intro pins s σ H v u Q I r h
 rw[ha]
 refine je_ (qd_ (thn (ho pins s σ H _ I h) fun ov s1 ⟨x,H1,I1,r1,q1⟩=>?_))
 refine je_ (qd_ (thn (hi pins s1 σ H1 _ I1 q1) fun iv s2 ⟨y,H2,I2,r2,q2⟩=>?_))
 refine je_ (wpAny_standAt (je_ (qd_ (thn (hs pins s2 σ H2 x y v ov iv u _ I2 r1 r2 r q2) fun _ s3 ⟨H3,I3,q3⟩=>?_))))
 exact wpAny_release ⟨σ,H3,I3,q3⟩
noncomputable def tAsg (te:TE)(g:TG):TS:=fun D σ H=>te σ H fun x H1=>g x σ H1 D.nx
theorem EH    (he:PE X e te)(hg:PG X tg g)(hs:swapsWithSole [tg] e pos.line X.env=pure false:=by rfl)(hw:swappedStores [tg] e X.env=pure none:=by rfl)
  (h1:(assignEach [tg] X.env).map (·.2)=[assign tg X.env]:=by rfl):PS X (.Assign [tg] e pos) (tAsg te g):=by
 intro pins s σ H D I h
 refine wpAny_Assign_stores (thn (he pins s σ H _ I h) fun v s1 ⟨x,H1,I1,r1,q1⟩=>?_) hs hw
 rw[h1]
 exact thn (hg pins s1 σ H1 x v _ I1 r1 q1) fun _ s2 q=>q
theorem EI      (hN:X.N.Nodup)(hi:X.N[i]?=some x)(hx:Loc X.env.scope x)(he:PE X e te)(hs:swapsWith e (some (.Name x pos')) pos.line X.env=pure false:=by rfl)(hf:X.fn x=true\/X.env.scope.names.lookup x=some .local:=by first|exact .inl rfl|exact .inr rfl|assumption):
  PS X (.Assign [.Name x pos'] e pos) (tAsg te (HJ i)):=by
 intro pins s σ H D I h
 refine wpAny_Assign_Name (thn (he pins s σ H _ I h) fun v s1 ⟨y,H1,I1,r1,q1⟩=>?_) hs
 exact F9 I1 hN hi hx r1 (fun s2 I2=>⟨_,H1,I2,q1⟩) hf
noncomputable def tAug (i:Nat)(te:TE)(ti:TIp):TS:=fun D σ H=>∃x,σ[i]?=some (some x)/\te σ H fun y H1=>ti x y H1 fun z H2=>D.nx (σ.set i (some z)) H2
theorem OS        (hN:X.N.Nodup)(hi:X.N[i]?=some x)(hx:Loc X.env.scope x)(he:PE X e te)(ho:PIp X op ti)(hf:X.fn x=true\/X.env.scope.names.lookup x=some .local:=by first|exact .inl rfl|exact .inr rfl|assumption):
  PS X (.AugAssign (.Name x pos') op e pos) (tAug i te ti):=by
 intro pins s σ H D I h
 obtain⟨v,e1,h⟩:=h
 obtain⟨m,hn,hl⟩:=I.loc
 have vis:Vis X.env.scope x:=by rcases hx with k|k;exact .inl k;exact .inr (.inl k)
 obtain⟨u,r,l⟩:=hl i x v hi e1 vis
 refine wpAny_AugAssign_Name ?_
 have go:wpAny (model X.prog X.w) X.A (eval e X.env) (fun w s₂=>wpAny (model X.prog X.w) X.A (inplaceOp op u w) (fun r s₃=>wpAny (model X.prog X.w) X.A (storeName X.env x r) (fun _=>SP X pins D .next) X.xe s₃) X.xe s₂) X.xe s:=by
  refine thn (he pins s σ H _ I h) fun w s1 ⟨y,H1,I1,r1,q1⟩=>?_
  refine thn (ho pins s1 σ H1 v y u w _ I1 r r1 q1) fun z s2 ⟨zv,H2,I2,r2,q2⟩=>?_
  exact F9 I2 hN hi hx r2 (fun s3 I3=>⟨_,H2,I3,q2⟩) hf
 rcases l with ⟨hk,hm⟩|⟨hk,c,hc,hcell⟩
 ·exact wpAny_loadName_local I.ok.kind hk hn hm go
 ·rcases hk with hk|hk
  ·exact wpAny_loadName_cell I.ok.kind hk hc hcell go
  ·rcases hx with k|k
   ·have:X.env.scope.names.lookup x=some .free:=hk
    rw[k]at this;cases this
   ·have:X.env.scope.names.lookup x=some .free:=hk
    rw[k]at this;cases this
noncomputable def ipI (f:Int->Int->Int):TIp:=fun x y H Q=>∃i j,x=.int i/\y=.int j/\Q (.int (f i j)) H
theorem OT:PIp X .Add (ipI fun i j=>i+j):=by
 intro pins s σ H x y v u Q I r1 r2 h
 obtain⟨i,j,e1,e2,q⟩:=h
 subst e1;subst e2
 obtain⟨t,rfl⟩:=r1
 obtain⟨t',rfl⟩:=r2
 exact iadd_int ⟨.int _,H,I.tok _,⟨_,rfl⟩,q⟩
end
section
variable {X:Cx} {pos:Pos}
noncomputable def OU (c:TT)(tb:TS):TS:=fun D σ H=>∃W:Nat->St->Hp->Prop,(∃m,W m σ H)/\∀m σ H,W m σ H ->
 c σ H fun b H1=>if b=true then ∃N:St->Hp->Prop,(∀σ' H',N σ' H'->∃m',m'<m/\W m' σ' H')/\tb {D with nx:=N,ct:=N,bk:=D.nx} σ H1 else D.nx σ H1
theorem Dj     (hp:PassesOwn (model X.prog X.w) X.A X.env X.xe)(hc:PT X c tc)(hb:PSs X body tb):PS X (.While c body [] pos) (OU tc tb):=by
 intro pins s σ H D I h
 obtain⟨W,⟨m0,w0⟩,turn⟩:=h
 refine wpAny_While (codeAny_whileLoop (fun n s'=>∃σ' H',Inv X pins σ' H' s'/\W n σ' H') ?_ m0 ⟨σ,H,I,w0⟩)
 rintro n s1 ⟨σ1,H1,I1,w1⟩
 refine q4_ hp (thn (hc pins s1 σ1 H1 _ I1 (turn n σ1 H1 w1)) fun b s2 ⟨H2,I2,q2⟩=>?_)
 cases b with
 |true=>
  obtain⟨N,hN,q2⟩:=q2
  rw[if_pos rfl]
  refine q4_ hp (thn (hb pins s2 σ1 H2 _ I2 q2) fun f s3 q3=>?_)
  cases f with
  |next=>
   obtain⟨σ3,H3,I3,n3⟩:=q3
   obtain⟨m',hm,w3⟩:=hN σ3 H3 n3
   exact⟨m',hm,σ3,H3,I3,w3⟩
  |cont=>
   obtain⟨σ3,H3,I3,n3⟩:=q3
   obtain⟨m',hm,w3⟩:=hN σ3 H3 n3
   exact⟨m',hm,σ3,H3,I3,w3⟩
  |brk=>exact q3
  |ret v=>exact q3
 |false=>
  rw[if_neg jn_]
  exact xC_ ⟨σ1,H2,I2,q2⟩
end
structure It where
 go:Nat->Hp->Prop
 yld:Nat->Hp->V->Hp->Prop
 stop:Nat->Hp->Prop
noncomputable def FpOk (X:Cx)(pins:α7)(H:Hp)(b:Addr):Prop:=
 H b=none/\b≠X.env.locals/\b∉X.fs/\(b∈X.ex\/X.s₀.heap.objs.size<=b)/\(∀x c,X.env.cells.lookup x=some c->c≠b)/\∀p∈X.pn++pins,p.1≠b
theorem Inv.fpOk       (I:Inv X pins σ H s)(hb:s.heap.objs.size<=b)(hn:H' b=none):FpOk X pins H' b:=by
 refine⟨hn,xQ_ (jG_ I.lt hb),I.nofs hb,.inr (qG_ I.sz hb),fun x c e z=>?_,fun p hp z=>?_⟩
 ·obtain⟨v,q⟩:=I.cell x c e
  exact absurd (jG_ q.lt (by rw[z];exact hb)) (qi_ _)
 ·exact absurd (jG_ (jy_ (I.pin p hp).1) (by rw[z];exact hb)) (qi_ _)
structure Turn (P:Program)(w:World)(K:α3)(tg:Expr)(J:It)(fp:List Addr)(it:Addr)(tn:Nat->Heap->Prop):Prop where
 mem:it∈fp
 obj:∀i h,tn i h->∀b∈fp,∃o,h.get? b=some o/\∀v,o.data ≠ .cell v
 keep:∀i h h',tn i h->(∀b∈fp,∀o,h.get? b=some o->h'.get? b=some o)->tn i h'
 item:∀(X:Cx),X.prog=P->X.w=w->X.K=K->X.calm=true->∀(i:Nat) (pins:α7) (s:Shared) (σ:St) (H:Hp) (E:Value->Shared->Prop),Inv X pins σ H s->(∀b∈fp,FpOk X pins H b)->tn i s.heap->J.go i H ->
  wpAny (model P w) X.A (pyNext (.ref it)) (fun r s1=>∃u,r=some u /\
   wpAny (model P w) X.A (letOwnedTupleGo tg (.ref it) u) (fun _ s2=>∃x H',Inv X pins σ H' s2/\RelV x u/\J.yld i H x H'/\tn (i+1) s2.heap/\∀b∈fp,H' b=none) E s1) E s
 done:∀(X:Cx),X.prog=P->X.w=w->X.K=K->X.calm=true->∀(i:Nat) (pins:α7) (s:Shared) (σ:St) (H:Hp) (E:Value->Shared->Prop),Inv X pins σ H s->(∀b∈fp,FpOk X pins H b)->tn i s.heap->J.stop i H ->
  wpAny (model P w) X.A (pyNext (.ref it)) (fun r s1=>r=none/\Inv X pins σ H s1) E s
 self:∀(A:Around) (i:Nat) (s:Shared) (Q:Value->Shared->Prop) (E:Value->Shared->Prop),tn i s.heap->Q (.ref it) s->wpAny (model P w) A (pyIter (.ref it)) Q E s
noncomputable abbrev TI:=St->Hp->(It->Hp->Prop)->Prop
noncomputable def PIE (X:Cx)(pins:α7)(σ:St)(tg:Expr)(R:It->Hp->Prop)(itv:Value)(s2:Shared):Prop:=
 ∃(it:Addr) (fp:List Addr) (tn:Nat->Heap->Prop) (J:It) (H':Hp),itv=.ref it/\Inv X pins σ H' s2/\Turn X.prog X.w X.K tg J fp it tn/\tn 0 s2.heap/\(∀b∈fp,FpOk X pins H' b)/\R J H'
noncomputable def PI (X:Cx)(tg iter:Expr)(wi:TI):Prop:=
 ∀(pins:α7) (s:Shared) (σ:St) (H:Hp) (R:It->Hp->Prop),Inv X pins σ H s->wi σ H R ->
  wpAny (model X.prog X.w) X.A (eval iter X.env) (fun v s1=>wpAny (model X.prog X.w) X.A (pyIter v) (PIE X pins σ tg R) X.xe s1) X.xe s
theorem LN      {it:Addr}      (ho:s.heap.get? it=some o)(hc:o.cls=.type n)(hd:o.data=.fields vs)
    (hn:["enumerate","zip","dict_itemiterator","dict_reverseitemiterator","odict_iterator","itertools.zip_longest","itertools.pairwise"].contains n=false) (hQ:Q () s):wpAny M A (letOwnedTupleGo tg (.ref it) u) Q E s:=by
  unfold letOwnedTupleGo
  cases tg<;>first
    | exact jo_ hQ
    | (cases u<;>first
        | exact jo_ hQ
        | (refine je_ (wpAny_load ho ?_)
           rw[hc,hd]
           show wpAny M A (if (["enumerate","zip","dict_itemiterator","dict_reverseitemiterator","odict_iterator","itertools.zip_longest","itertools.pairwise"].contains n&&vs[0]? == some (rawInt _))=true then _ else _) Q E s
           rw[if_neg (by intro h;rw[hn,Bool.false_and]at h;cases h)]
           exact jo_ hQ))
noncomputable def Itl (K:α3)(a:Addr):It:=
 ⟨fun i H=>∃xs x,SqL K H a xs/\xs[i]?=some x,fun i H x H'=>H'=H/\∀xs,SqL K H a xs->xs[i]?=some x,fun i H=>∃xs,SqL K H a xs/\xs.length<=i⟩
noncomputable def Itt (K:α3)(a:Addr):It:=
 ⟨fun i H=>∃xs x,SqT K H a xs/\xs[i]?=some x,fun i H x H'=>H'=H/\∀xs,SqT K H a xs->xs[i]?=some x,fun i H=>∃xs,SqT K H a xs/\xs.length<=i⟩
noncomputable def Itr (lo:Int)(n:Nat):It:=⟨fun i _=>i<n,fun i H x H'=>H'=H/\x=.int (lo+i),fun i _=>n<=i⟩
theorem IM {P:Program}{w:World}{K:α3}{tg:Expr}(a it:Addr):Turn P w K tg (Itl K a) [it] it (fun i h=>h.IsListIter it a i) where
 mem:=by simp
 obj:=fun i h st b hb=>by
  have e:b=it:=by simpa using hb
  subst e
  obtain⟨o,e,c,d⟩:=st
  exact⟨o,e,fun v z=>by rw[d]at z;cases z⟩
 keep:=fun i h h' st k=>st.at fun o e=>k it (by simp) o e
 item:=by
  intro X hP hw hK hc i pins s σ H E I hf st hg
  subst hP hw hK
  obtain⟨xs,x,hq,hx⟩:=hg
  obtain⟨its,rv,p,hz⟩:=I.list hq
  obtain⟨u,hu,ru⟩:=rv.get hx
  obtain⟨f0,f1,f2,f3,f4,f5⟩:=hf it (by simp)
  refine qV_ st p.isList (x:=u) (by simpa using hu) fun h' st' sb=>?_
  have I1:Inv X pins σ H {s with heap:=h' }:=I.turned (t':=s.toks) (fun b o hb e=>(sb.2 b hb).trans e) f0 f1 f3 f4 f5
  obtain⟨o,e,c,d⟩:=id st'
  exact⟨u,rfl,LN (s:={s with heap:=h' }) e c d (by decide) ⟨x,H,I1,ru,⟨rfl,fun ys hy=>by rw[I.list_inj hy hq];exact hx⟩,st',fun b hb=>(hf b hb).1⟩⟩
 done:=by
  intro X hP hw hK hc i pins s σ H E I hf st hg
  subst hP hw hK
  obtain⟨xs,hq,hx⟩:=hg
  obtain⟨its,rv,p,hz⟩:=I.list hq
  obtain⟨f0,f1,f2,f3,f4,f5⟩:=hf it (by simp)
  have hl:=rv.length
  exact qZ_ (I.ok.hd hc) st p.isList (by simp;lia) fun h' eb=>⟨rfl,I.turned (t':=s.toks) (fun b o hb e=>eb b o hb e) f0 f1 f3 f4 f5⟩
 self:=fun _ _ _ _ _ st h=>wpAny_pyIter_listiter st h
theorem Hq {P:Program}{w:World}{K:α3}{tg:Expr}(a it:Addr):Turn P w K tg (Itt K a) [it] it (fun i h=>h.IsTupleIter it a i) where
 mem:=by simp
 obj:=fun i h st b hb=>by
  have e:b=it:=by simpa using hb
  subst e
  obtain⟨o,e,c,d⟩:=st
  exact⟨o,e,fun v z=>by rw[d]at z;cases z⟩
 keep:=fun i h h' st k=>st.at fun o e=>k it (by simp) o e
 item:=by
  intro X hP hw hK hc i pins s σ H E I hf st hg
  subst hP hw hK
  obtain⟨xs,x,hq,hx⟩:=hg
  obtain⟨its,rv,p,hz⟩:=I.tuple hq
  obtain⟨u,hu,ru⟩:=rv.get hx
  obtain⟨f0,f1,f2,f3,f4,f5⟩:=hf it (by simp)
  refine wpAny_pyNext_tuple_item st (show s.heap.IsTuple a its.toArray from p) (x:=u) (by simpa using hu) fun h' st' sb=>?_
  have I1:Inv X pins σ H {s with heap:=h' }:=I.turned (t':=s.toks) (fun b o hb e=>(sb.2 b hb).trans e) f0 f1 f3 f4 f5
  obtain⟨o,e,c,d⟩:=id st'
  exact⟨u,rfl,LN (s:={s with heap:=h' }) e c d (by decide) ⟨x,H,I1,ru,⟨rfl,fun ys hy=>by rw[I.tuple_inj hy hq];exact hx⟩,st',fun b hb=>(hf b hb).1⟩⟩
 done:=by
  intro X hP hw hK hc i pins s σ H E I hf st hg
  subst hP hw hK
  obtain⟨xs,hq,hx⟩:=hg
  obtain⟨its,rv,p,hz⟩:=I.tuple hq
  obtain⟨f0,f1,f2,f3,f4,f5⟩:=hf it (by simp)
  have hl:=rv.length
  exact wpAny_pyNext_tuple_end (I.ok.hd hc) st (show s.heap.IsTuple a its.toArray from p) (by simp;lia) fun h' eb=>⟨rfl,I.turned (t':=s.toks) (fun b o hb e=>eb b o hb e) f0 f1 f3 f4 f5⟩
 self:=fun _ _ _ _ _ st h=>wpAny_pyIter_tupleiter st h
theorem Le {P:Program}{w:World}{K:α3}{tg:Expr}(it:Addr)(lo:Int)(n:Nat):Turn P w K tg (Itr lo n) [it] it (fun i h=>IsRangeIter h it (lo+(i:Nat)*1) ((n:Int)-(i:Nat)) 1) where
 mem:=by simp
 obj:=fun i h st b hb=>by
  have e:b=it:=by simpa using hb
  subst e
  exact⟨_,st,fun v z=>by
   have z':Data.fields _=Data.cell v:=z
   cases z'⟩
 keep:=fun i h h' st k=>k it (by simp) _ st
 item:=by
  intro X hP hw hK hc i pins s σ H E I hf st hg
  subst hP hw hK
  obtain⟨f0,f1,f2,f3,f4,f5⟩:=hf it (by simp)
  have W:=Walks.range (prog:=X.prog) (w:=X.w) (I.ok.hd hc) it lo 1 n
  refine W.item i s _ _ hg st fun v h' tk hv st' kk=>?_
  obtain⟨t,rfl⟩:=hv
  have I1:Inv X pins σ H {s with heap:=h',toks:=tk}:=I.turned (fun b o hb e=>kk b o (by simpa using hb) e) f0 f1 f3 f4 f5
  refine⟨_,rfl,LN (s:={s with heap:=h',toks:=tk}) (n := "range_iterator") st' rfl rfl (by decide) ⟨.int (lo+i),H,I1,⟨t,?_⟩,⟨rfl,rfl⟩,st',fun b hb=>(hf b hb).1⟩⟩
  rw[Int.mul_one]
 done:=by
  intro X hP hw hK hc i pins s σ H E I hf st hg
  subst hP hw hK
  obtain⟨f0,f1,f2,f3,f4,f5⟩:=hf it (by simp)
  exact wpAny_pyNext_range_end (I.ok.hd hc) st (by have:n<=i:=hg;lia) fun h' eb=>⟨rfl,I.turned (t':=s.toks) (fun b o hb e=>eb b o hb e) f0 f1 f3 f4 f5⟩
 self:=fun _ _ _ _ _ st h=>wpAny_pyIter_rangeiter st h
end L2
namespace L2
open PySem PySem.Spec PyProof.Rows
section
variable {X:Cx} {tg:Expr}
noncomputable def RC (K:α3)(tl:TE):TI:=fun σ H R=>tl σ H fun x H1=>∃a,x=.ref a/\(∃xs,SqL K H1 a xs)/\R (Itl K a) H1
noncomputable def iTup (K:α3)(tl:TE):TI:=fun σ H R=>tl σ H fun x H1=>∃a,x=.ref a/\(∃xs,SqT K H1 a xs)/\R (Itt K a) H1
theorem BI   (hl:PE X l tl):PI X tg l (RC X.K tl):=by
 intro pins s σ H R I h
 refine thn (hl pins s σ H _ I h) fun v s1 ⟨x,H1,I1,r1,q1⟩=>?_
 obtain⟨a,e,⟨xs,hq⟩,q⟩:=q1
 subst e
 cases r1
 obtain⟨its,rv,p,hz⟩:=I1.list hq
 refine xM_ p.isList ?_
 refine⟨s1.heap.objs.size,[s1.heap.objs.size],_,_,H1,rfl,I1.kept (t':=s1.toks) fun b o e=>jm_ _ e,IM a _,⟨_,jE_ _ rfl,rfl,rfl⟩,fun b hb=>?_,q⟩
 have e:b=s1.heap.objs.size:=by simpa using hb
 subst e
 exact I1.fpOk (jh_ _) (I1.hok.fresh (jh_ _))
theorem IP   (hl:PE X l tl):PI X tg l (iTup X.K tl):=by
 intro pins s σ H R I h
 refine thn (hl pins s σ H _ I h) fun v s1 ⟨x,H1,I1,r1,q1⟩=>?_
 obtain⟨a,e,⟨xs,hq⟩,q⟩:=q1
 subst e
 cases r1
 obtain⟨its,rv,p,hz⟩:=I1.tuple hq
 refine wpAny_pyIter_tuple (show s1.heap.IsTuple a its.toArray from p) ?_
 refine⟨s1.heap.objs.size,[s1.heap.objs.size],_,_,H1,rfl,I1.kept (t':=s1.toks) fun b o e=>jm_ _ e,Hq a _,⟨_,jE_ _ rfl,rfl,rfl⟩,fun b hb=>?_,q⟩
 have e:b=s1.heap.objs.size:=by simpa using hb
 subst e
 exact I1.fpOk (jh_ _) (I1.hok.fresh (jh_ _))
theorem N5       {lo hi:Int}   (I:Inv X pins σ H s)(h1 : -(2 ^ 62)<=lo)(h2:lo<2 ^ 62)(h3 : -(2 ^ 62)<=hi)(h4:hi<2 ^ 62)
  (q:R (Itr lo (hi-lo).toNat) H):wpAny (model X.prog X.w) X.A (pyIter (.ref s.heap.objs.size)) (PIE X pins σ tg R) E {s with heap:=s.heap.push {cls:=.type "range",data:=.fields #[.int lo t,.int hi u,.int 1 v]},toks:=tk}:=by
 refine wpAny_pyIter_range (IsRange.new ..) (small_one h1 h2 h3 h4) ?_
 have I1:Inv X pins σ H {s with heap:=s.heap.push {cls:=.type "range",data:=.fields #[.int lo t,.int hi u,.int 1 v]},toks:=tk}:=I.kept fun b o e=>jm_ _ e
 refine⟨(s.heap.push {cls:=.type "range",data:=.fields #[.int lo t,.int hi u,.int 1 v]}).objs.size,[(s.heap.push {cls:=.type "range",data:=.fields #[.int lo t,.int hi u,.int 1 v]}).objs.size],_,_,H,rfl,
  I1.kept (t':=tk) fun b o e=>jm_ _ e,Le _ lo (hi-lo).toNat,?_,fun b hb=>?_,q⟩
 ·have e1:lo+((0:Nat):Int)*1=lo:=by simp
  have e2:(((hi-lo).toNat:Nat):Int)-((0:Nat):Int)=Builtin.Range.rangeSize lo hi 1:=by rw[rangeSize_one];split<;>lia
  show IsRangeIter _ _ (lo+((0:Nat):Int)*1) ((((hi-lo).toNat:Nat):Int)-((0:Nat):Int)) 1
  rw[e1,e2]
  exact jE_ _ rfl
 ·have e:b=(s.heap.push {cls:=.type "range",data:=.fields #[.int lo t,.int hi u,.int 1 v]}).objs.size:=by simpa using hb
  subst e
  exact I1.fpOk (jh_ _) (I1.hok.fresh (jh_ _))
noncomputable def RD (ta:TA):TI:=fun σ H R=>ta σ H fun vs H1=>∃j:Int,vs=[.int j] /\ -(2 ^ 62)<=j/\j<2 ^ 62/\R (Itr 0 j.toNat) H1
theorem Bn    (hg:Gl X "range")(hm:X.mg "range"=none)(ha:PA X [a] ta)(hs:starEach [a] X.env=[(false,eval a X.env)]:=by rfl):PI X tg (.Call (.Name "range" p) [a] [] pos) (RD ta):=by
 intro pins s σ H R I h
 refine Call_ (DB I hg hm boot_range (j7_ (thn (ha pos pins s σ H _ I h) fun us s1 ⟨vs,H1,I1,r1,q1⟩=>?_) hs rfl))
 obtain⟨j,e,q1,q2,q⟩:=q1
 subst e
 cases r1 with
 |cons r rr=>
  cases rr
  obtain⟨t,rfl⟩:=r
  exact call_range_1 (N5 I1 s!"" s!"" q1 q2 (by simpa using q))
noncomputable def tFor (wi:TI)(g:TG)(tb:TS):TS:=fun D σ H=>wi σ H fun J H1=>∃W:Nat->Nat->St->Hp->Prop,(∃m,W 0 m σ H1)/\∀i m σ H,W i m σ H ->
 (J.stop i H/\D.nx σ H)\/(J.go i H/\∃N:St->Hp->Prop,(∀σ' H',N σ' H'->∃m',m'<m/\W (i+1) m' σ' H')/\∀x H',J.yld i H x H'->g x σ H' fun σ2 H2=>tb {D with nx:=N,ct:=N,bk:=D.nx} σ2 H2)
noncomputable def IQ (fp:List Addr)(h:Heap):α7:=fp.filterMap fun b=>(h.get? b).map fun o=>(b,o)
theorem BE     (hb:b∈fp)(e:h.get? b=some o):(b,o)∈IQ fp h:=zc_.mpr ⟨b,hb,by rw[e];rfl⟩
theorem LO    (hp:p∈IQ fp h):p.1∈fp/\h.get? p.1=some p.2:=by
 obtain⟨b,hb,e⟩:=zc_.mp hp
 cases q:h.get? b with
 |none=>rw[q]at e;cases e
 |some o=>
  rw[q]at e
  have e':(b,o)=p:=jH_ e
  subst e'
  exact⟨hb,q⟩
theorem Inv.pinned      (I:Inv X pins σ H s)(hf:∀b∈fp,FpOk X pins H b)(ho:∀b∈fp,∃o,s.heap.get? b=some o/\∀v,o.data ≠ .cell v):Inv X (pins++IQ fp s.heap) σ H s:=
 I.pins_of fun p hp=>(jj_.mp hp).elim (fun z=>I.pin p (jk_ _ z)) fun z=>by
  obtain⟨hb,e⟩:=LO z
  obtain⟨f0,f1,f2,_⟩:=hf p.1 hb
  obtain⟨o,e',d⟩:=ho p.1 hb
  rw[e]at e';cases e'
  exact⟨e,f0,f1,f2,d⟩
theorem Inv.unpinned     (I:Inv X (pins++pl) σ H s):Inv X pins σ H s:=I.pins_of fun p hp=>I.pin p (jk_ _ (jr_ _ hp))
theorem A0 {iter:Expr}  {wi:TI}    (hp:PassesOwn (model X.prog X.w) X.A X.env X.xe)(hc:X.calm=true)(hi:PI X tg iter wi)(hg:PG X tg g)(hb:PSs X body tb)
  (hs:∀x,foldedSetIterable iter X.env x=pure x:=by intro _;rfl):PS X (.For tg iter body [] pos) (tFor wi g tb):=by
 intro pins s σ H D I h
 refine wpAny_For (thn (hi pins s σ H _ I h) fun v s1 h1=>thn h1 fun itv s2 h2=>?_) hs
 obtain⟨it,fp,tn,J,H2,e,I2,T,st2,f2,W,⟨m0,w0⟩,turn⟩:=h2
 subst e
 -- what stays true of the iterator's objects through the loop
 have stat:∀{H':Hp},(∀b∈fp,H' b=none)->∀b∈fp,FpOk X pins H' b:=fun hn b hb=>⟨hn b hb,(f2 b hb).2⟩
 refine codeAny_forLoop_any (fun n s'=>∃i σ' H',Inv X pins σ' H' s'/\tn i s'.heap/\(∀b∈fp,H' b=none)/\W i n σ' H') ?_ m0 ⟨0,σ,H2,I2,st2,fun b hb=>(f2 b hb).1,w0⟩
 rintro n s3 ⟨i,σ3,H3,I3,st3,fr3,w3⟩
 rcases turn i n σ3 H3 w3 with ⟨stop,qn⟩|⟨go,N,hN,step⟩
 ·refine q4_ hp (thn (T.done X rfl rfl rfl hc i pins s3 σ3 H3 X.xe I3 (stat fr3) st3 stop) fun r s4 ⟨hr,I4⟩=>?_)
  subst hr
  exact xC_ ⟨σ3,H3,I4,qn⟩
 ·refine q4_ hp (thn (T.item X rfl rfl rfl hc i pins s3 σ3 H3 X.xe I3 (stat fr3) st3 go) fun r s4 ⟨u,hr,h4⟩=>?_)
  subst hr
  refine q4_ hp (thn h4 fun _ s5 ⟨x,H5,I5,r5,y5,st5,fr5⟩=>?_)
  have I5':=I5.pinned (stat fr5) (T.obj _ _ st5)
  refine q4_ hp (thn (hg _ s5 σ3 H5 x u _ I5' r5 (step x H5 y5)) fun _ s6 ⟨σ6,H6,I6,q6⟩=>?_)
  refine q4_ hp (thn (hb _ s6 σ6 H6 _ I6 q6) fun f s7 q7=>?_)
  have again:∀{σ7:St} {H7:Hp},Inv X (pins++IQ fp s5.heap) σ7 H7 s7->N σ7 H7->∃m,m<n/\∃i σ' H',Inv X pins σ' H' s7/\tn i s7.heap/\(∀b∈fp,H' b=none)/\W i m σ' H':=fun {σ7 H7} I7 n7=>by
   obtain⟨m',hm,w7⟩:=hN σ7 H7 n7
   refine⟨m',hm,i+1,σ7,H7,I7.unpinned,T.keep _ _ _ st5 fun b hb o e=>(I7.pin (b,o) (jk_ _ (jk_ _ (BE hb e)))).1,fun b hb=>?_,w7⟩
   obtain⟨o,e,d⟩:=T.obj _ _ st5 b hb
   exact (I7.pin (b,o) (jk_ _ (jk_ _ (BE hb e)))).2.1
  cases f with
  |next=>obtain⟨σ7,H7,I7,n7⟩:=q7;exact again I7 n7
  |cont=>obtain⟨σ7,H7,I7,n7⟩:=q7;exact again I7 n7
  |brk=>obtain⟨σ7,H7,I7,q7⟩:=q7;exact⟨σ7,H7,I7.unpinned,q7⟩
  |ret v=>obtain⟨x7,σ7,H7,I7,r7,q7⟩:=q7;exact⟨x7,σ7,H7,I7.unpinned,r7,q7⟩
end
theorem N6 {K:α3}{a:Addr}{xs:List V}{g:TG}{tb:TS}{D:Ends}{σ:St}{H:Hp}(Pv:Nat->St->Hp->Prop)(h0:Pv 0 σ H)(hl:∀i σ H,i<=xs.length->Pv i σ H->SqL K H a xs)
  (hs:∀i x σ H,xs[i]?=some x->Pv i σ H->g x σ H fun σ2 H2=>tb {D with nx:=Pv (i+1),ct:=Pv (i+1),bk:=D.nx} σ2 H2) (hd:∀σ H,Pv xs.length σ H->D.nx σ H):
  ∃W:Nat->Nat->St->Hp->Prop,(∃m,W 0 m σ H)/\∀i m σ H,W i m σ H ->
   ((Itl K a).stop i H/\D.nx σ H)\/((Itl K a).go i H/\∃N:St->Hp->Prop,(∀σ' H',N σ' H'->∃m',m'<m/\W (i+1) m' σ' H')/\∀x H',(Itl K a).yld i H x H'->g x σ H' fun σ2 H2=>tb {D with nx:=N,ct:=N,bk:=D.nx} σ2 H2):=by
 refine⟨fun i m σ H=>m=xs.length-i/\i<=xs.length/\Pv i σ H,⟨xs.length,by simp,j1_ _,h0⟩,?_⟩
 rintro i m σ H ⟨rfl,hi,p⟩
 have q:=hl i σ H hi p
 by_cases hlt:i<xs.length
 ·refine .inr ⟨⟨xs,xs[i],q,by simp[hlt]⟩,Pv (i+1),fun σ' H' p'=>⟨xs.length-(i+1),by lia,rfl,hlt,p'⟩,fun x H' y=>?_⟩
  obtain⟨e,y⟩:=y
  subst e
  exact hs i x σ _ (y xs q) p
 ·have e:i=xs.length:=by lia
  subst e
  exact .inl ⟨⟨xs,q,jh_ _⟩,hd σ H p⟩
theorem Qo {K:α3}{a:Addr}{xs:List V}{g:TG}{tb:TS}{D:Ends}{σ:St}{H:Hp}(Pv:Nat->St->Hp->Prop)(h0:Pv 0 σ H)(hl:∀i σ H,i<=xs.length->Pv i σ H->SqT K H a xs)
  (hs:∀i x σ H,xs[i]?=some x->Pv i σ H->g x σ H fun σ2 H2=>tb {D with nx:=Pv (i+1),ct:=Pv (i+1),bk:=D.nx} σ2 H2) (hd:∀σ H,Pv xs.length σ H->D.nx σ H):
  ∃W:Nat->Nat->St->Hp->Prop,(∃m,W 0 m σ H)/\∀i m σ H,W i m σ H ->
   ((Itt K a).stop i H/\D.nx σ H)\/((Itt K a).go i H/\∃N:St->Hp->Prop,(∀σ' H',N σ' H'->∃m',m'<m/\W (i+1) m' σ' H')/\∀x H',(Itt K a).yld i H x H'->g x σ H' fun σ2 H2=>tb {D with nx:=N,ct:=N,bk:=D.nx} σ2 H2):=by
 refine⟨fun i m σ H=>m=xs.length-i/\i<=xs.length/\Pv i σ H,⟨xs.length,by simp,j1_ _,h0⟩,?_⟩
 rintro i m σ H ⟨rfl,hi,p⟩
 have q:=hl i σ H hi p
 by_cases hlt:i<xs.length
 ·refine .inr ⟨⟨xs,xs[i],q,by simp[hlt]⟩,Pv (i+1),fun σ' H' p'=>⟨xs.length-(i+1),by lia,rfl,hlt,p'⟩,fun x H' y=>?_⟩
  obtain⟨e,y⟩:=y
  subst e
  exact hs i x σ _ (y xs q) p
 ·have e:i=xs.length:=by lia
  subst e
  exact .inl ⟨⟨xs,q,jh_ _⟩,hd σ H p⟩
theorem LP {lo:Int}{n:Nat}{g:TG}{tb:TS}{D:Ends}{σ:St}{H:Hp}(Pv:Nat->St->Hp->Prop)(h0:Pv 0 σ H)
  (hs:∀i σ H,i<n->Pv i σ H->g (.int (lo+i)) σ H fun σ2 H2=>tb {D with nx:=Pv (i+1),ct:=Pv (i+1),bk:=D.nx} σ2 H2) (hd:∀σ H,Pv n σ H->D.nx σ H):
  ∃W:Nat->Nat->St->Hp->Prop,(∃m,W 0 m σ H)/\∀i m σ H,W i m σ H ->
   ((Itr lo n).stop i H/\D.nx σ H)\/((Itr lo n).go i H/\∃N:St->Hp->Prop,(∀σ' H',N σ' H'->∃m',m'<m/\W (i+1) m' σ' H')/\∀x H',(Itr lo n).yld i H x H'->g x σ H' fun σ2 H2=>tb {D with nx:=N,ct:=N,bk:=D.nx} σ2 H2):=by
 refine⟨fun i m σ H=>m=n-i/\i<=n/\Pv i σ H,⟨n,by simp,j1_ _,h0⟩,?_⟩
 rintro i m σ H ⟨rfl,hi,p⟩
 by_cases hlt:i<n
 ·refine .inr ⟨hlt,Pv (i+1),fun σ' H' p'=>⟨n-(i+1),by lia,rfl,hlt,p'⟩,fun x H' y=>?_⟩
  obtain⟨e,y⟩:=y
  subst e y
  exact hs i σ _ hlt p
 ·have e:i=n:=by lia
  subst e
  exact .inl ⟨jh_ _,hd σ H p⟩
end L2
namespace L2
open PySem PySem.Spec PyProof.Rows
noncomputable abbrev R2:=V->V->Hp->VK->Prop
noncomputable def OpR (X:Cx)(f:Value->Value->Sem Value)(r:R2):Prop:=
 ∀(pins:α7) (s:Shared) (σ:St) (H:Hp) (x y:V) (v u:Value) (Q:VK),Inv X pins σ H s->RelV x v->RelV y u->r x y H Q ->
  wpAny (model X.prog X.w) X.A (f v u) (EP X pins σ Q) X.xe s
noncomputable def UnR (X:Cx)(f:Value->Sem Value)(r:V->Hp->VK->Prop):Prop:=
 ∀(pins:α7) (s:Shared) (σ:St) (H:Hp) (x:V) (v:Value) (Q:VK),Inv X pins σ H s->RelV x v->r x H Q ->
  wpAny (model X.prog X.w) X.A (f v) (EP X pins σ Q) X.xe s
noncomputable def Dk (X:Cx)(f:Value)(r:List V->Hp->VK->Prop):Prop:=
 ∀(pins:α7) (s:Shared) (σ:St) (H:Hp) (xs:List V) (us:List Value) (Q:VK),Inv X pins σ H s->Vals xs us->r xs H Q ->
  wpAny (model X.prog X.w) X.A (call f us) (EP X pins σ Q) X.xe s
noncomputable def tOp (r:R2)(ta tb:TE):TE:=fun σ H Q=>ta σ H fun x H1=>tb σ H1 fun y H2=>r x y H2 Q
noncomputable def tUn (r:V->Hp->VK->Prop)(ta:TE):TE:=fun σ H Q=>ta σ H fun x H1=>r x H1 Q
noncomputable def rI (C:Int->Int->Prop)(g:Int->Int->V):R2:=fun x y H Q=>∃i j,x=.int i/\y=.int j/\C i j/\Q (g i j) H
noncomputable def rI0 (g:Int->Int->V):R2:=fun x y H Q=>∃i j,x=.int i/\y=.int j/\Q (g i j) H
noncomputable def rU (g:Int->V):V->Hp->VK->Prop:=fun x H Q=>∃i,x=.int i/\Q (g i) H
section
variable {X:Cx} {a b c:Expr} {ta tb tc:TE} {pos:Pos}
theorem binT (ha:PE X a ta)(hb:PE X b tb){pins:α7}{s:Shared}{σ:St}{H:Hp}{R:V->V->Hp->Prop}(I:Inv X pins σ H s)
  (h:ta σ H fun x H1=>tb σ H1 fun y H2=>R x y H2) {Q:Value->Shared->Prop} {f:Value->Value->Sem Value}
  (hf:∀v u s2 x y H2,Inv X pins σ H2 s2->RelV x v->RelV y u->R x y H2->wpAny (model X.prog X.w) X.A (f v u) Q X.xe s2):
  wpAny (model X.prog X.w) X.A (eval a X.env) (fun v s₁=>wpAny (model X.prog X.w) X.A (eval b X.env) (fun u s₂=>wpAny (model X.prog X.w) X.A (f v u) Q X.xe s₂) X.xe s₁) X.xe s:=by
 refine thn (ha pins s σ H _ I h) fun v s1 ⟨x,H1,I1,r1,q1⟩=>?_
 refine thn (hb pins s1 σ H1 _ I1 q1) fun u s2 ⟨y,H2,I2,r2,q2⟩=>?_
 exact hf v u s2 x y H2 I2 r1 r2 q2
theorem Av   (ho:OpR X (binaryOp op) r)(ha:PE X a ta)(hb:PE X b tb):PE X (.BinOp a op b pos) (tOp r ta tb):=by
 intro pins s σ H Q I h
 exact wpAny_BinOp (binT ha hb I h fun v u s2 x y H2 I2 rx ry q=>ho pins s2 σ H2 x y v u Q I2 rx ry q)
theorem S6   (ho:UnR X (unaryOp op) r)(ha:PE X a ta):PE X (.UnaryOp op a pos) (tUn r ta):=by
 intro pins s σ H Q I h
 exact UnaryOp_ (thn (ha pins s σ H _ I h) fun v s1 ⟨x,H1,I1,r1,q1⟩=>ho pins s1 σ H1 x v Q I1 r1 q1)
theorem opI {f:Value->Value->Sem Value}{C:Int->Int->Prop}{g:Int->Int->Int}
  (rule:∀(i j:Int) (t u:Tok) (s:Shared) (Q:Value->Shared->Prop) (E:Value->Shared->Prop),C i j->Q (.int (g i j) s.toks) {s with toks:=s.toks+1}->wpAny (model X.prog X.w) X.A (f (.int i t) (.int j u)) Q E s):
  OpR X f (rI C fun i j=>.int (g i j)):=by
 intro pins s σ H x y v u Q I rx ry h
 obtain⟨i,j,rfl,rfl,hc,q⟩:=h
 obtain⟨t,rfl⟩:=rx
 obtain⟨t',rfl⟩:=ry
 exact rule i j t t' s _ _ hc ⟨.int (g i j),H,I.tok _,⟨_,rfl⟩,q⟩
theorem opI0 {f:Value->Value->Sem Value}{g:Int->Int->Int}
  (rule:∀(i j:Int) (t u:Tok) (s:Shared) (Q:Value->Shared->Prop) (E:Value->Shared->Prop),Q (.int (g i j) s.toks) {s with toks:=s.toks+1}->wpAny (model X.prog X.w) X.A (f (.int i t) (.int j u)) Q E s):
  OpR X f (rI0 fun i j=>.int (g i j)):=by
 intro pins s σ H x y v u Q I rx ry h
 obtain⟨i,j,rfl,rfl,q⟩:=h
 obtain⟨t,rfl⟩:=rx
 obtain⟨t',rfl⟩:=ry
 exact rule i j t t' s _ _ ⟨.int (g i j),H,I.tok _,⟨_,rfl⟩,q⟩
theorem opB0 {f:Value->Value->Sem Value}{g:Int->Int->Bool}
  (rule:∀(i j:Int) (t u:Tok) (s:Shared) (Q:Value->Shared->Prop) (E:Value->Shared->Prop),Q (.bool (g i j)) s->wpAny (model X.prog X.w) X.A (f (.int i t) (.int j u)) Q E s):
  OpR X f (rI0 fun i j=>.bl (g i j)):=by
 intro pins s σ H x y v u Q I rx ry h
 obtain⟨i,j,rfl,rfl,q⟩:=h
 obtain⟨t,rfl⟩:=rx
 obtain⟨t',rfl⟩:=ry
 exact rule i j t t' s _ _ ⟨.bl (g i j),H,I,rfl,q⟩
noncomputable def CDiv (i j:Int):Prop:=0<j/\j<1073741824
noncomputable def CMul (i j:Int):Prop:=(-(2 ^ 64)<i/\i<2 ^ 64)\/(-(2 ^ 64)<j/\j<2 ^ 64)
theorem CMul.ok  (h:CMul i j):IntMulOk i j:=by
 rcases h with ⟨h1,h2⟩|⟨h1,h2⟩
 ·exact .of_left (intBits_le_64 h1 h2)
 ·exact .of_right (intBits_le_64 h1 h2)
theorem AN:OpR X (binaryOp .Add) (rI0 fun i j=>.int (i+j)):=opI0 fun _ _ _ _ _ _ _ q=>add_int q
theorem Gq:OpR X (binaryOp .Sub) (rI0 fun i j=>.int (i-j)):=opI0 fun _ _ _ _ _ _ _ q=>sub_int q
theorem IS:OpR X (binaryOp .Mult) (rI CMul fun i j=>.int (i*j)):=opI fun _ _ _ _ _ _ _ hc q=>mul_int q hc.ok
theorem DM:OpR X (binaryOp .FloorDiv) (rI CDiv fun i j=>.int (i / j)):=opI fun i j _ _ _ _ _ hc q=>by
 have h1:(0:Int)<j:=hc.1
 have h2:j<1073741824:=hc.2
 exact floordiv_int s!"" (by rw[Int.fdiv_eq_ediv_of_nonneg i s!""];exact q) (.inl (PyProof.noPylong_small s!""))
theorem Bo:OpR X (binaryOp .Mod) (rI (fun _ j=>0<j) fun i j=>.int (i%j)):=opI fun i j _ _ _ _ _ hc q=>by
 have h1:(0:Int)<j:=hc
 exact mod_int' s!"" (by rw[Int.fmod_eq_emod_of_nonneg i s!""];exact q)
theorem unI {f:Value->Sem Value}{g:Int->Int}
  (rule:∀(i:Int) (t:Tok) (s:Shared) (Q:Value->Shared->Prop) (E:Value->Shared->Prop),Q (.int (g i) s.toks) {s with toks:=s.toks+1}->wpAny (model X.prog X.w) X.A (f (.int i t)) Q E s):
  UnR X f (rU fun i=>.int (g i)):=by
 intro pins s σ H x v Q I rx h
 obtain⟨i,rfl,q⟩:=h
 obtain⟨t,rfl⟩:=rx
 exact rule i t s _ _ ⟨.int (g i),H,I.tok _,⟨_,rfl⟩,q⟩
theorem RE:UnR X (unaryOp .USub) (rU fun i=>.int (-i)):=unI fun _ _ _ _ _ q=>neg_int q
end
noncomputable def scal:V->V->Bool
 |.non,.non=>true | .non,.int _=>true | .int _,.non=>true | .non,.bl _=>true | .bl _,.non=>true | .non,.str _=>true | .str _,.non=>true
 |.int _,.int _=>true | .bl _,.bl _=>true | .str _,.str _=>true | .byt _,.byt _=>true
 |.int _,.str _=>true | .str _,.int _=>true | .bl _,.str _=>true | .str _,.bl _=>true
 |_,_=>false
noncomputable def rEq:R2:=fun x y H Q=>scal x y=true/\Q (.bl (decide (x=y))) H
noncomputable def rNe:R2:=fun x y H Q=>scal x y=true/\Q (.bl (!decide (x=y))) H
theorem LQ  : decide (V.int i=V.int j)=(i==j):=by
 rw[qj_]
 simp
theorem OV  : decide (V.bl i=V.bl j)=(i==j):=by
 rw[qj_]
 simp
theorem LR  : decide (V.str i=V.str j)=(i==j):=by
 rw[qj_]
 simp
theorem LS  : decide (V.byt i=V.byt j)=(i.toList==j.toList):=by
 rw[qj_]
 cases i
 cases j
 simp
section
variable {X:Cx} {a b c:Expr} {ta tb tc:TE} {pos:Pos}
theorem AW       (I:Inv X pins σ H s)(q:Q (.bl k) H)(e:k=k'):EP X pins σ Q (.bool k') s:=by
 subst e
 exact⟨.bl k,H,I,rfl,q⟩
theorem C3:OpR X (compareOp .Eq) rEq:=by
 intro pins s σ H x y v u Q I rx ry h
 obtain⟨hs,q⟩:=h
 cases x with
 |non=>
  cases rx
  cases y with
  |non=>cases ry;exact PySem.EqNone.eq_none_none (AW I q (by simp))
  |bl j=>cases ry;exact PySem.EqNone.eq_none_bool (AW I q (by simp))
  |int j=>obtain⟨t',rfl⟩:=ry;exact PySem.EqNone.eq_none_int (AW I q (by simp))
  |str j=>obtain⟨t',rfl⟩:=ry;exact PySem.EqNone.eq_none_str (AW I q (by simp))
  |_=>exact absurd (show false=true from hs) jn_
 |bl i=>
  cases rx
  cases y with
  |non=>cases ry;exact PySem.EqNone.eq_bool_none (AW I q (by simp))
  |bl j=>cases ry;exact eq_bool (AW I q OV)
  |str j=>obtain⟨t',rfl⟩:=ry;exact PySem.EqMixed.eq_bool_str (AW I q (by simp))
  |_=>exact absurd (show false=true from hs) jn_
 |int i=>
  obtain⟨t,rfl⟩:=rx
  cases y with
  |non=>cases ry;exact PySem.EqNone.eq_int_none (AW I q (by simp))
  |int j=>obtain⟨t',rfl⟩:=ry;exact eq_int (AW I q LQ)
  |str j=>obtain⟨t',rfl⟩:=ry;exact PySem.EqMixed.eq_int_str (AW I q (by simp))
  |_=>exact absurd (show false=true from hs) jn_
 |str i=>
  obtain⟨t,rfl⟩:=rx
  cases y with
  |non=>cases ry;exact PySem.EqNone.eq_str_none (AW I q (by simp))
  |bl j=>cases ry;exact PySem.EqMixed.eq_str_bool (AW I q (by simp))
  |int j=>obtain⟨t',rfl⟩:=ry;exact PySem.EqMixed.eq_str_int (AW I q (by simp))
  |str j=>obtain⟨t',rfl⟩:=ry;exact eq_str (AW I q LR)
  |_=>exact absurd (show false=true from hs) jn_
 |byt i=>
  obtain⟨t,rfl⟩:=rx
  cases y with
  |byt j=>obtain⟨t',rfl⟩:=ry;exact PySem.W.eq_bytes (AW I q LS)
  |_=>exact absurd (show false=true from hs) jn_
 |_=>cases y<;>exact absurd (show false=true from hs) jn_
theorem Gr:OpR X (compareOp .NotEq) rNe:=by
 intro pins s σ H x y v u Q I rx ry h
 obtain⟨hs,q⟩:=h
 cases x with
 |non=>
  cases rx
  cases y with
  |non=>cases ry;exact PySem.EqNone.ne_none_none (AW I q (by simp))
  |bl j=>cases ry;exact PySem.EqNone.ne_none_bool (AW I q (by simp))
  |int j=>obtain⟨t',rfl⟩:=ry;exact PySem.EqNone.ne_none_int (AW I q (by simp))
  |str j=>obtain⟨t',rfl⟩:=ry;exact PySem.EqNone.ne_none_str (AW I q (by simp))
  |_=>exact absurd (show false=true from hs) jn_
 |bl i=>
  cases rx
  cases y with
  |non=>cases ry;exact PySem.EqNone.ne_bool_none (AW I q (by simp))
  |bl j=>cases ry;exact ne_bool (AW I q (qR_ not OV))
  |str j=>obtain⟨t',rfl⟩:=ry;exact PySem.EqMixed.ne_bool_str (AW I q (by simp))
  |_=>exact absurd (show false=true from hs) jn_
 |int i=>
  obtain⟨t,rfl⟩:=rx
  cases y with
  |non=>cases ry;exact PySem.EqNone.ne_int_none (AW I q (by simp))
  |int j=>obtain⟨t',rfl⟩:=ry;exact ne_int (AW I q (qR_ not LQ))
  |str j=>obtain⟨t',rfl⟩:=ry;exact PySem.EqMixed.ne_int_str (AW I q (by simp))
  |_=>exact absurd (show false=true from hs) jn_
 |str i=>
  obtain⟨t,rfl⟩:=rx
  cases y with
  |non=>cases ry;exact PySem.EqNone.ne_str_none (AW I q (by simp))
  |bl j=>cases ry;exact PySem.EqMixed.ne_str_bool (AW I q (by simp))
  |int j=>obtain⟨t',rfl⟩:=ry;exact PySem.EqMixed.ne_str_int (AW I q (by simp))
  |str j=>obtain⟨t',rfl⟩:=ry;exact ne_str (AW I q (qR_ not LR))
  |_=>exact absurd (show false=true from hs) jn_
 |byt i=>
  obtain⟨t,rfl⟩:=rx
  cases y with
  |byt j=>obtain⟨t',rfl⟩:=ry;exact PySem.W.ne_bytes (AW I q (qR_ not LS))
  |_=>exact absurd (show false=true from hs) jn_
 |_=>cases y<;>exact absurd (show false=true from hs) jn_
theorem HK:OpR X (compareOp .Lt) (rI0 fun i j=>.bl (decide (i<j))):=opB0 fun _ _ _ _ _ _ _ q=>lt_int q
theorem RF:OpR X (compareOp .Gt) (rI0 fun i j=>.bl (decide (j<i))):=opB0 fun _ _ _ _ _ _ _ q=>gt_int q
theorem LU:OpR X (compareOp .GtE) (rI0 fun i j=>.bl (decide (j<=i))):=opB0 fun _ _ _ _ _ _ _ q=>ge_int q
theorem Ej:OpR X (compareOp .Is) (fun x y H Q=>y=.non/\Q (.bl (decide (x=.non))) H):=by
 intro pins s σ H x y v u Q I rx ry h
 obtain⟨rfl,q⟩:=h
 cases ry
 refine is_none_gen (AW I q ?_)
 cases x<;>first
  | (cases rx;rfl)
  | (obtain⟨t,rfl⟩:=rx;rfl)
theorem Dm:OpR X (compareOp .IsNot) (fun x y H Q=>y=.non/\Q (.bl (!decide (x=.non))) H):=by
 intro pins s σ H x y v u Q I rx ry h
 obtain⟨rfl,q⟩:=h
 cases ry
 refine isnot_none_gen (AW I q ?_)
 cases x<;>first
  | (cases rx;rfl)
  | (obtain⟨t,rfl⟩:=rx;rfl)
theorem Ar (b:Expr)  (h:op ≠ .In:=by decide)(h2:op ≠ .NotIn:=by decide):behindInMarks op b=false:=by
 have e1:(op==CmpOp.In)=false:=by cases op<;>first|rfl|exact absurd rfl h
 have e2:(op==CmpOp.NotIn)=false:=by cases op<;>first|rfl|exact absurd rfl h2
 cases b<;>simp[behindInMarks,e1,e2]
theorem CB   (ho:OpR X (compareOp op) r)(ha:PE X a ta)(hb:PE X b tb)(hm:behindInMarks op b=false):PE X (.Compare a [op] [b] pos) (tOp r ta tb):=by
 intro pins s σ H Q I h
 exact wpAny_Compare1 (binT ha hb I h fun v u s2 x y H2 I2 rx ry q=>ho pins s2 σ H2 x y v u Q I2 rx ry q) hm
noncomputable def N7 (t:TE):TT:=fun σ H Q=>t σ H fun x H'=>∃k,x=.bl k/\Q k H'
theorem Ap   (ho:OpR X (compareOp op) r)(ha:PE X a ta)(hb:PE X b tb)(hm:behindInMarks op b=false):PT X (.Compare a [op] [b] pos) (N7 (tOp r ta tb)):=by
 intro pins s σ H Q I h
 refine wpAny_isTrue_Compare1 (thn (ha pins s σ H _ I h) fun v s1 ⟨x,H1,I1,r1,q1⟩=>thn (hb pins s1 σ H1 _ I1 q1) fun u s2 ⟨y,H2,I2,r2,q2⟩ =>
  thn (ho pins s2 σ H2 x y v u _ I2 r1 r2 q2) fun c s3 ⟨z,H3,I3,r3,k,e,q3⟩=>?_) hm
 subst e
 cases r3
 exact qS_ ⟨H3,I3,q3⟩
theorem Kl:(sizeLine:Nat)<2 ^ 63:=by rw[sizeLine_eq];decide
theorem vals1   (r:Vals [x] us):∃u,us=[u]/\RelV x u:=by
 cases r with
 |cons r1 r2=>cases r2;exact⟨_,rfl,r1⟩
theorem vals2   (r:Vals [x,y] us):∃u w',us=[u,w']/\RelV x u/\RelV y w':=by
 cases r with
 |cons r1 r2=>
  cases r2 with
  |cons r3 r4=>cases r4;exact⟨_,_,rfl,r1,r3⟩
theorem LV (hc:X.calm=true):Dk X (.builtin "max") (fun xs H Q=>∃i j,xs=[.int i,.int j]/\Q (.int (if j > i then j else i)) H):=by
 intro pins s σ H xs us Q I r h
 obtain⟨i,j,rfl,q⟩:=h
 obtain⟨u,w',rfl,⟨t,rfl⟩,⟨t',rfl⟩⟩:=vals2 r
 refine max_two_ints (I.ok.hd hc) fun h' tk k=>⟨_,H,I.kept k,?_,q⟩
 by_cases hj:j > i
 ·rw[if_pos hj,if_pos hj];exact⟨_,rfl⟩
 ·rw[if_neg hj,if_neg hj];exact⟨_,rfl⟩
theorem LW (hc:X.calm=true):Dk X (.builtin "min") (fun xs H Q=>∃i j,xs=[.int i,.int j]/\Q (.int (if j<i then j else i)) H):=by
 intro pins s σ H xs us Q I r h
 obtain⟨i,j,rfl,q⟩:=h
 obtain⟨u,w',rfl,⟨t,rfl⟩,⟨t',rfl⟩⟩:=vals2 r
 refine min_two_ints (I.ok.hd hc) fun h' tk k=>⟨_,H,I.kept k,?_,q⟩
 by_cases hj:j<i
 ·rw[if_pos hj,if_pos hj];exact⟨_,rfl⟩
 ·rw[if_neg hj,if_neg hj];exact⟨_,rfl⟩
theorem LX:Dk X (.type "int") (fun xs H Q=>(∃i,xs=[.int i]/\Q (.int i) H) \/ ∃k,xs=[.bl k]/\Q (.int (if k then 1 else 0)) H):=by
 intro pins s σ H xs us Q I r h
 rcases h with ⟨i,rfl,q⟩|⟨k,rfl,q⟩
 ·obtain⟨u,rfl,t,rfl⟩:=vals1 r
  exact call_int_int ⟨.int i,H,I,⟨_,rfl⟩,q⟩
 ·obtain⟨u,rfl,r1⟩:=vals1 r
  cases r1
  exact call_int_bool ⟨.int (if k then 1 else 0),H,I.tok _,⟨_,rfl⟩,q⟩
end
end L2
namespace L2
open PySem PySem.Spec PyProof.Rows
structure ObjM (h:Heap)(x dx C:Addr)(mA:Str->α5):Prop where
 obj:h.get? x=some (PySem.W.instObj C dx)
 ns:h.Ns1 dx mA
 ne:dx≠x
theorem LY {h:Heap}{dx:Addr}{mA:Str->α5}(n:h.Ns1 dx mA):∃od,h.get? dx=some od/\∀name,PySem.W.lookIn name od=some (mA name):=by
 obtain⟨o,es,ep,ho,hd,hk,_,hm⟩:=n
 refine⟨o,ho,fun name=>?_⟩
 have e:=hm name
 unfold nsFind findBy at e
 rw[<-Array.find?_toList]at e
 unfold PySem.W.lookIn
 rw[hd]
 dsimp only
 split
 ·rename_i y q
  rw[q]at e
  exact qR_ some e
 ·rename_i q
  rw[q]at e
  have a:es.toList.any (·.refKey)=false:=by
   rw[List.any_eq_false]
   intro y hy
   obtain⟨z,t,hkey⟩:=hk y (Array.mem_toList_iff.mp hy)
   simp[DictEntry.refKey,hkey]
  have a':¬ es.toList.any (·.refKey)=true:=by rw[a];exact jn_
  rw[if_neg a']
  exact qR_ some e
theorem ObjM.look    (I:ObjM h x dx C mA):∃od,PySem.W.InstAt h x (PySem.W.instObj C dx) C (some od)/\∀name,PySem.W.lookIn name od=some (mA name):=
 let ⟨od,ho,hl⟩:=LY I.ns
 ⟨od,⟨I.obj,rfl,rfl,ho⟩,hl⟩
theorem RelO.some_of   (r:RelO (some v) o):∃u,o=some u/\RelV v u:=by
 cases o with
 |none=>exact (show False from r).elim
 |some u=>exact⟨u,rfl,r⟩
section
variable {P:Program} {w:World} {H H':Hp} {h h':Heap} {a C dx:Addr} {fs fs':List (Str×V)}
theorem Qp (hok:HOk P w H h)(e:H a=some (.ins C dx fs)):∃mA,ObjM h a dx C mA/\(∀f,RelO (fs.lookup f) (mA f))/\PySem.Within mA (fs.map (·.1))/\fs.length<=1000/\H dx=some (.own a):=by
 obtain⟨d,z,ne,ob,mA,n,r,q⟩:=(show AX P w H h a (.ins C dx fs) from hok a _ e)
 exact⟨mA,⟨ob,n,ne⟩,r,q,z,d⟩
end
structure Cls (K:α3)(C:Addr):Prop where
 pg:PySem.W.plainGet K C Str.empty=true
 hd:PySem.W.hasDictIn K C=true
 po:PySem.W.plainOver K C=true
 sa:PySem.W.findIn K (.ref C) "__setattr__"=some (some (.builtin "object.__setattr__"))
theorem Cls.get {K:α3}  (c:Cls K C)(f:Str):PySem.W.plainGet K C f=true:=c.pg
section
variable {X:Cx} {pins:α7} {σ:St} {H:Hp} {s:Shared} {A:Around} {E:Value->Shared->Prop} {Q:Value->Shared->Prop} {c:Value} {b:Bool}
inductive TyOf (K:α3)(H:Hp):V->Value->Prop where
 | non:TyOf K H .non (.type "NoneType")
 | bl (x:Bool):TyOf K H (.bl x) (.type "bool")
 | int (i:Int):TyOf K H (.int i) (.type "int")
 | str (x:Str):TyOf K H (.str x) (.type "str")
 | flt (x:UInt64):TyOf K H (.flt x) (.type "float")
 | lst {a:Addr} {xs:List V} (e:H a=some (.lst xs)):TyOf K H (.ref a) (.type "list")
 | frz {a:Addr} {o:Obj} {xs:List V} (e:H a=some (.frz o (.lst xs))):TyOf K H (.ref a) (.type "list")
 | tup {a:Addr} {xs:List V} (e:H a=some (.tup xs)):TyOf K H (.ref a) (.type "tuple")
 | dK {a:Addr} {kvs:List (Key×V)} (e:H a=some (.dK kvs)):TyOf K H (.ref a) (.type "dict")
 | dT {a:Addr} {kvs:List (List Key×V)} (e:H a=some (.dT kvs)):TyOf K H (.ref a) (.type "dict")
 | ins {a C dx:Addr} {fs:List (Str×V)} (e:H a=some (.ins C dx fs)) (cl:Cls K C) (ha:PySem.W.findIn K (.ref C) "__class__"=some (some (.builtin "object.__class__")))
   (hn:PySem.W.specialIn K (.builtin "object.__class__") "__get__"=some (some (.builtin "getset_descriptor.__get__"))) (htk:PySem.W.takesIn K (.builtin "object.__class__")=some true)
   (hm:PySem.W.mroIn K C (.type "object")=some true):TyOf K H (.ref a) (.ref C)
theorem LZ   (I:Inv X pins σ H s)(rx:RelV x u)(ty:TyOf X.K H x t)(e:kitOne X.K t c=some b)(h:∀tk,Q (.bool b) {s with toks:=tk}):
  wpAny (model X.prog X.w) A (call (.builtin "isinstance") [u,c]) Q E s:=by
 cases ty with
 |non=>cases (show u=Value.none from rx);exact qk_ PySem.W.kitx_none I.kIn True.intro e (fun z=>nomatch z) h
 |bl y=>cases (show u=Value.bool y from rx);exact qk_ PySem.W.kitx_bool I.kIn True.intro e (fun z=>nomatch z) h
 |int i=>obtain⟨t,q⟩:=(show ∃t,u=Value.int i t from rx);cases q;exact qk_ PySem.W.kitx_int I.kIn True.intro e (fun z=>nomatch z) h
 |str y=>obtain⟨t,q⟩:=(show ∃t,u=Value.str y t from rx);cases q;exact qk_ PySem.W.kitx_str I.kIn True.intro e (fun z=>nomatch z) h
 |flt y=>obtain⟨t,q⟩:=(show ∃t,u=Value.float y t from rx);cases q;exact qk_ PySem.W.kitx_float I.kIn True.intro e (fun z=>nomatch z) h
 |@lst a xs ea=>
  cases (show u=Value.ref a from rx)
  obtain⟨_,_,n,_,h1⟩:=(show AX X.prog X.w H s.heap a (.lst xs) from I.hok a _ ea)
  exact qk_ ze_ I.kIn ⟨_,h1,rfl⟩ e (fun z=>nomatch z) h
 |@frz a ob xs ea=>
  cases (show u=Value.ref a from rx)
  obtain⟨_,_,_,n,_,h1⟩:=(show AX X.prog X.w H s.heap a (.frz ob (.lst xs)) from I.hok a _ ea)
  exact qk_ ze_ I.kIn ⟨_,h1,rfl⟩ e (fun z=>nomatch z) h
 |@tup a xs ea=>
  cases (show u=Value.ref a from rx)
  obtain⟨_,_,_,p⟩:=(show AX X.prog X.w H s.heap a (.tup xs) from I.hok a _ ea)
  obtain⟨o,h1,h2,_⟩:=p
  exact qk_ PySem.W.kitx_tuple I.kIn ⟨o,h1,h2⟩ e (fun z=>nomatch z) h
 |@dK a kvs ea=>
  cases (show u=Value.ref a from rx)
  obtain⟨_,_,vs,_,p⟩:=(show AX X.prog X.w H s.heap a (.dK kvs) from I.hok a _ ea)
  obtain⟨o,es,ep,h1,h2,_⟩:=p
  exact qk_ PySem.W.kitx_dict I.kIn ⟨o,h1,h2.1⟩ e (fun z=>nomatch z) h
 |@dT a kvs ea=>
  cases (show u=Value.ref a from rx)
  obtain⟨_,_,xs,_,o,es,ep,h1,h2,_⟩:=(show AX X.prog X.w H s.heap a (.dT kvs) from I.hok a _ ea)
  exact qk_ PySem.W.kitx_dict I.kIn ⟨o,h1,h2.1⟩ e (fun z=>nomatch z) h
 |@ins a C dx fs ea cl ha hn htk hm=>
  cases (show u=Value.ref a from rx)
  obtain⟨mA,O,_⟩:=Qp I.hok ea
  obtain⟨od,J,_⟩:=O.look
  exact qk_ (PySem.W.kitx_own (cl.get _) cl.hd ha hn htk hm) I.kIn J e (fun z=>nomatch z) h
end
end L2
namespace L2
open PySem PySem.Spec PyProof.Rows
structure Room (k:Nat)(A:Around):Prop where
 hd:A.handled=none
 dp:A.depth+3*k+5<recursionLimit
 un:A.units+16*k+200<cLine
theorem Room.mono   (r:Room k A)(h:j<=k):Room j A:=⟨r.hd,by have:=r.dp;lia,by have:=r.un;lia⟩
theorem Room.deeper   (r:Room (k+1) A)(env:Env):Room k (A.deeper env):=
 ⟨r.hd,by have:=r.dp;show A.depth+1+3*k+5<_;lia,by have:=r.un;show A.units+3+16*k+200<_;lia⟩
theorem Room.in1   (r:Room (k+1) A):Room k A.in1:=
 ⟨r.hd,by have:=r.dp;show A.depth+3*k+5<_;lia,by have:=r.un;show A.units+1+16*k+200<_;lia⟩
theorem Room.depth   (r:Room k A):A.depth<recursionLimit:=by have:=r.dp;lia
theorem Room.units   (r:Room k A):A.units+64<cLine:=by have:=r.un;lia
theorem Room.units0   (r:Room k A):A.units<cLine:=by have:=r.un;lia
noncomputable def tNil:TA:=fun _ H Q=>Q [] H
noncomputable def RG (ta:TE)(tr:TA):TA:=fun σ H Q=>ta σ H fun x H1=>tr σ H1 fun xs H2=>Q (x::xs) H2
section
variable {X:Cx} {e:Expr} {es:List Expr} {te:TE} {t:TA} {pos:Pos}
theorem Ad:PA X [] tNil:=fun _ _ _ _ H Q I h=>Calls.spliced_nil ⟨[],H,I,.nil,h⟩
theorem Aa (ha:PE X e te)(hr:PA X es t)(hs:starEach (e::es) X.env=(false,eval e X.env)::starEach es X.env:=by rfl):PA X (e::es) (RG te t):=by
 intro pos pins s σ H Q I h
 rw[hs]
 show wpAny _ _ (spliced ((false,eval e X.env)::backTo pos (starEach es X.env))) _ _ s
 refine Calls.spliced_cons (thn (ha pins s σ H _ I h) fun u s1 ⟨x,H1,I1,r1,q1⟩=>?_)
 exact thn (hr pos pins s1 σ H1 _ I1 q1) fun us s2 ⟨xs,H2,I2,r2,q2⟩=>⟨x::xs,H2,I2,.cons r1 r2,q2⟩
noncomputable def tTup (t:TA):TE:=fun σ H Q=>t σ H fun xs H1=>xs.length<=sizeLine/\∀p,H1 p=none->Q (.ref p) (upd H1 p (.tup xs))
noncomputable def tLst (t:TA):TE:=fun σ H Q=>t σ H fun xs H1=>xs.length<=sizeLine/\∀p,H1 p=none->Q (.ref p) (upd H1 p (.lst xs))
theorem AL {x1}(h:PA X es t):PE X (.Tuple es x1 pos) (tTup t):=by
 intro pins s σ H Q I hq
 refine wpAny_Tuple_spliced (thn (h pos pins s σ H _ I hq) fun us s1 ⟨xs,H1,I1,r,z,q⟩=>⟨by rw[<-r.length];exact z,?_⟩)
 have hf:H1 s1.heap.objs.size=none:=I1.hok.fresh (jh_ _)
 refine⟨.ref s1.heap.objs.size,upd H1 s1.heap.objs.size (.tup xs),I1.laid (t':=s1.toks) (fun b u e=>jm_ _ e) (jh_ _) ?_,rfl,q _ hf⟩
 exact⟨z,us,r,⟨_,jE_ _ rfl,rfl,_,rfl⟩⟩
theorem A8 (h:PA X es t):PE X (.List es pos) (tLst t):=by
 intro pins s σ H Q I hq
 refine wpAny_List_spliced (thn (h pos pins s σ H _ I hq) fun us s1 ⟨xs,H1,I1,r,z,q⟩=>⟨by rw[<-r.length];exact z,?_⟩)
 have hf:H1 s1.heap.objs.size=none:=I1.hok.fresh (jh_ _)
 refine⟨.ref s1.heap.objs.size,upd H1 s1.heap.objs.size (.lst xs),I1.laid (t':=s1.toks) (fun b u e=>jm_ _ e) (jh_ _) ?_,rfl,q _ hf⟩
 exact⟨z,us,0,r,jE_ _ rfl⟩
end
noncomputable abbrev Sp:=List V->Hp->VK->XK->Prop
noncomputable abbrev CXT:=List Env->Hp->Shared->XK->Value->Shared->Prop
structure Env0 (P:Program)(w:World)(K:α3)(mg:Str->α5)(base:Heap)(A:Around)(outer:List Env)(s:Shared)(H:Hp):Prop where
 frames:A.frames=some outer
 mod:Mod K mg base
 bs:∀b o,base.get? b=some o->s.heap.get? b=some o/\H b=none
 bsz:base.objs.size<=s.heap.objs.size
 funs:s.heap.FunFrames base outer
 frf:∀b∈frs outer,H b=none
 hok:HOk P w H s.heap
 bare:AllBare s.gens
noncomputable def CE (outer:List Env)(P:Program)(w:World)(H:Hp)(s:Shared)(Q:VK)(u:Value)(s':Shared):Prop:=
 ∃v H',s'.os=s.os/\AllBare s'.gens/\Un (frs outer) [] H H' s.heap s'.heap/\HOk P w H' s'.heap/\RelV v u/\Q v H'
noncomputable def CR (CX:CXT)(outer:List Env)(P:Program)(w:World)(H:Hp)(s:Shared)(Q:VK)(E:XK)(r:Result)(s':Shared):Prop:=
 match r with
 |.ok (.ret u)=>CE outer P w H s Q u s'
 |.ok _=>False
 |.error e=>CX outer H s E e s'
structure FnOk (P:Program)(w:World)(K:α3)(mg:Str->α5)(base:Heap)(CX:CXT)(k:Nat)(f:Addr)(fd:α6)(ps:List Str)(sp:Sp):Prop where
 len:∀vs H Q E,sp vs H Q E->vs.length=ps.length
 run:∀(A:Around) (outer:List Env) (s:Shared) (H:Hp) (args:Args) (us:List Value) (vs:List V) (Q:VK) (E:XK),Room k A->Env0 P w K mg base A outer s H->BindsTo s fd args (ps.zip us)->Vals vs us->sp vs H Q E ->
  codeAny (model P w) A (.call (.ref f) args) (CR CX outer P w H s Q E) s
theorem Env0.in1   {K:α3}       (e:Env0 P w K mg base A outer s H):
  Env0 P w K mg base A.in1 outer s H:=⟨e.frames,e.mod,e.bs,e.bsz,e.funs,e.frf,e.hok,e.bare⟩
section
variable {X:Cx} {pins:α7} {σ:St} {H:Hp} {s s':Shared}
theorem Inv.env0 (I:Inv X pins σ H s):Env0 X.prog X.w X.K X.mg X.base X.A X.stack s H:=
 ⟨I.ok.frames,I.ok.mod,I.bs,qG_ I.ok.bsz I.sz,I.stack,I.stkFree,I.hok,I.bare⟩
theorem Inv.after   (I:Inv X pins σ H s)(h:CE X.stack X.prog X.w H s Q u s'):EP X pins σ Q u s':=by
 obtain⟨v,H',os,bare,un,hok,r,q⟩:=h
 obtain⟨hh,g,d,t,os'⟩:=s'
 obtain rfl:os'=s.os:=os
 exact⟨v,H',I.call (h':=hh) (g':=g) (d':=d) (t':=t) (ch:=[]) un hok bare (fun b z=>absurd z (by simp)),r,q⟩
end
noncomputable def Qq (sp:Sp)(dvs:List V)(E:XK)(t:TA):TE:=fun σ H Q=>t σ H fun vs H1=>sp (vs++dvs) H1 Q E
noncomputable def IT (K:α3)(fd:α6)(ps:List Str)(ds:List Value):Prop:=
 ∀(s:Shared) (us:List Value),K.In s.heap->(us++ds).length=ps.length->BindsTo s fd ⟨us,[]⟩ (ps.zip (us++ds))
theorem IT.all {K:α3}   (h:∀us:List Value,us.length=ps.length->bindArgs fd ⟨us,[]⟩=pure (ps.zip us)):IT K fd ps []:=fun s us _ hl=>by
 rw[q5_]at hl ⊢
 exact .of_eq (h us hl)
noncomputable def IU (CX:CXT)(X:Cx)(E:XK):Prop:=∀(pins:α7) (σ:St) (H:Hp) (s:Shared) (e:Value) (s':Shared),Inv X pins σ H s->CX X.stack H s E e s'->X.xe e s'
section
variable {X:Cx} {CX:CXT} {k:Nat} {f C:Addr} {fd:α6} {ps:List Str} {sp:Sp} {dvs:List V} {ds:List Value} {E:XK} {x m:Str} {p pos apos:Pos} {e o:Expr} {es:List Expr} {ta:TE} {t:TA}
theorem RH        (F:FnOk X.prog X.w X.K X.mg X.base CX k f fd ps sp)(hr:Room k X.A)(hb:IT X.K fd ps ds)(hd:Vals dvs ds)(hx:IU CX X E)
  (I:Inv X pins σ H s) (r:Vals vs us) (h:sp (vs++dvs) H Q E):wpAny (model X.prog X.w) X.A (call (.ref f) us) (EP X pins σ Q) X.xe s:=by
 have r2:Vals (vs++dvs) (us++ds):=r.append hd
 have hl:(us++ds).length=ps.length:=by rw[<-r2.length];exact F.len _ _ _ _ h
 refine zf_ (xR_ (F.run X.A X.stack s H ⟨us,[]⟩ (us++ds) (vs++dvs) Q E hr I.env0 (hb s us I.kIn hl) r2 h) fun r s' hq=>?_)
 cases r with
 |error e=>exact hx pins σ H s e s' I hq
 |ok fl=>
  cases fl with
  |ret u=>exact I.after hq
  |next=>exact False.elim hq
  |brk=>exact False.elim hq
  |cont=>exact False.elim hq
theorem Qr (F:FnOk X.prog X.w X.K X.mg X.base CX k f fd ps sp)(hr:Room k X.A)(hg:Gl X x)(hm:X.mg x=some (.ref f))(hk:keepIn X.K (.ref f)=true)(hb:IT X.K fd ps ds)(hd:Vals dvs ds)(hx:IU CX X E)
  (ha:PA X (e::es) t) (hdb:(x==("__debug__" : Str))=false:=by decide) (he:starEach (e::es) X.env=(false,eval e X.env)::starEach es X.env:=by rfl) (hpl:(backTo pos (starEach es X.env)).any (·.1)=false:=by rfl):
  PE X (.Call (.Name x p) (e::es) [] pos) (Qq sp dvs E t):=by
 intro pins s σ H Q I h
 refine qE_ (Gn I hg hm ?_ hdb)
 refine PySem.W.callWith_K (h₀:=X.base) I.ok.mod.kin hk (thn (ha pos pins s σ H _ I h) fun us s1 ⟨vs,H1,I1,r,q⟩=>⟨I1.kIn,?_⟩) he hpl
 exact RH F hr hb hd hx I1 r q
end
structure FnScope (N P:List Str)(sc:Scope):Prop where
 kind:sc.kind=.function
 co:sc.isCoroutine=false
 gen:sc.isGenerator=false
 nd:N.Nodup
 pre:N.take P.length=P
 par:∀x∈P,sc.names.lookup x=some .local\/sc.names.lookup x=some .cell
 nofree:∀y∈sc.names,y.2 ≠ .free
theorem IV {kindOf:Str->Option NameKind}{x:Str}:∀{binds:List (Str×Value)} {m:Str->α5},(∀v,(x,v)∉binds)->bindL kindOf binds m x=m x
 |[],_,_=>rfl
 | (n,v)::r,m,h=>by
  unfold bindL
  rw[IV fun w hw=>h w (jx_ _ hw)]
  split
  ·have:x≠n:=by rintro rfl;exact h v jv_
   simp[this]
  ·rfl
theorem IW {kindOf:Str->Option NameKind}{x:Str}:∀{binds:List (Str×Value)} {m:Str->α5},(∀v,(x,v)∉binds)->bindC kindOf binds m x=m x
 |[],_,_=>rfl
 | (n,v)::r,m,h=>by
  unfold bindC
  rw[IW fun w hw=>h w (jx_ _ hw)]
  split
  ·rfl
  ·have:x≠n:=by rintro rfl;exact h v jv_
   simp[this]
theorem IX {kindOf:Str->Option NameKind}{x:Str}{v:Value}:∀{P:List Str} {vs:List Value} {i:Nat} {m:Str->α5},P.Nodup->P[i]?=some x->vs[i]?=some v->kindOf x=some .local ->
  bindL kindOf (P.zip vs) m x=some v
 |[],_,_,_,_,h,_,_=>by simp at h
 |_::_,[],_,_,_,_,h,_=>by simp at h
 |p::P,w::vs,0,m,nd,h1,h2,hk=>by
  simp at h1 h2;subst h1;subst h2
  show bindL kindOf ((p,w)::P.zip vs) m p=_
  unfold bindL
  rw[IV fun v hv=>(q6_.mp nd).1 (x6_ hv).1,if_pos hk]
  simp
 |p::P,w::vs,i+1,m,nd,h1,h2,hk=>by
  show bindL kindOf ((p,w)::P.zip vs) m x=_
  unfold bindL
  exact IX (i:=i) (q6_.mp nd).2 (by simpa using h1) (by simpa using h2) hk
theorem IY {kindOf:Str->Option NameKind}{x:Str}{v:Value}:∀{P:List Str} {vs:List Value} {i:Nat} {m:Str->α5},P.Nodup->P[i]?=some x->vs[i]?=some v->kindOf x≠some .local ->
  bindC kindOf (P.zip vs) m x=some v
 |[],_,_,_,_,h,_,_=>by simp at h
 |_::_,[],_,_,_,_,h,_=>by simp at h
 |p::P,w::vs,0,m,nd,h1,h2,hk=>by
  simp at h1 h2;subst h1;subst h2
  show bindC kindOf ((p,w)::P.zip vs) m p=_
  unfold bindC
  rw[IW fun v hv=>(q6_.mp nd).1 (x6_ hv).1,if_neg hk]
  simp
 |p::P,w::vs,i+1,m,nd,h1,h2,hk=>by
  show bindC kindOf ((p,w)::P.zip vs) m x=_
  unfold bindC
  exact IY (i:=i) (q6_.mp nd).2 (by simpa using h1) (by simpa using h2) hk
noncomputable def start (N:List Str)(vs:List V):St:=vs.map some++List.replicate (N.length-vs.length) none
noncomputable def cxOf (CX:CXT)(P:Program)(w:World)(K:α3)(mg:Str->α5)(base:Heap)(N:List Str)(qual:Str)(scope:Scope)(f:Addr)(cd:Value)(A:Around)(outer:List Env)(s:Shared)(H:Hp)(E:XK):Cx where
 prog:=P
 w:=w
 K:=K
 mg:=mg
 base:=base
 A:=A.deeper (envOfC qual scope s.heap.objs.size f cd)
 N:=N
 s₀:=s
 H₀:=H
 env:=envOfC qual scope s.heap.objs.size f cd
 outer:=outer
 stack:=envOfC qual scope s.heap.objs.size f cd::outer
 ex:=[]
 calm:=true
 fn:=fun _=>true
 pn:=[]
 xe:=fun e s'=>wpAny (model P w) (A.deeper (envOfC qual scope s.heap.objs.size f cd)) (leaving (envOfC qual scope s.heap.objs.size f cd) e) (fun _ s''=>CX outer H s E e s'') (fun e' s''=>CX outer H s E e' s'') s'
theorem Km {sc:Scope}{n:Nat}{x:Str}(h:sc.names.lookup x=some .cell):∃c,(cellsFrom n sc.names []).lookup x=some c:=by
 have q:=xI_ sc.names n [] (.inl h)
 exact q7_.mp q
theorem IZ    {K:α3}
  (S:FnScope N ps scope) (hd:A.handled=none) (e0:Env0 P w K mg base A outer s H) (hl:vs.length=ps.length) (r:Vals vs us)
  (x:InCallC s s.heap.objs.size (bindL (envOfC qual scope s.heap.objs.size f cd).kindOf (ps.zip us) fun _=>none) (cellsFrom (s.heap.objs.size+1) scope.names []) (bindC (envOfC qual scope s.heap.objs.size f cd).kindOf (ps.zip us) fun _=>none) s1):
  Inv (cxOf CX P w K mg base N qual scope f cd A outer s H E) [] (start N vs) H s1:=by
 have hpl:ps.length<=N.length:=by have:=qR_ List.length S.pre;rw[j5_]at this;lia
 obtain⟨h1,tk,rfl,hk⟩:=x.done
 have noA:∀b:Addr,b∉(cxOf CX P w K mg base N qual scope f cd A outer s H E).ex:=fun b z=>absurd (show b∈([]:List Addr) from z) (by simp)
 refine⟨⟨e0.mod,S.kind,rfl,rfl,jh_ _,fun y z c h1 h2=>?_,fun y hy=>?_,fun y c _ h=>?_,fun _=>hd,Around.frames_deeper e0.frames,.inr ⟨rfl,rfl⟩,fun b z=>absurd z (noA b),e0.bs,e0.bsz,fun b _ _=>noA b,fun b z=>absurd z (noA b),e0.funs,e0.frf⟩,
  rfl,e0.bare,Un.kept hk,⟨_,x.toInCall.ns,fun i y v h1 h2 h3=>?_⟩,fun y c h=>⟨_,x.cell y c h⟩,e0.hok.fresh (jh_ _),fun y c h=>?_,fun p hp=>absurd (show p∈([]:α7) from hp) (by simp),e0.hok.kept hk,?_⟩
 ·exact name_of_addr x.apart (qx_ h1) (qx_ h2)
 ·have hy:scope.names.lookup y=some .cell\/scope.names.lookup y=some .free:=hy
  rcases hy with hy|hy
  ·exact Km hy
  ·exact absurd rfl (S.nofree _ (qx_ hy))
 ·exact qY_ (x.above y c (qx_ h))
 ·have hi:i<vs.length:=by
   unfold start at h2
   by_cases hi:i<vs.length
   ·exact hi
   ·rw[jp_ (by simpa using hi)]at h2
    rw[xc_]at h2
    split at h2<;>cases h2
  have ha:vs[i]?=some v:=by
   unfold start at h2
   rw[jg_ (by simpa using hi),jw_]at h2
   cases e:vs[i]? with
   |none=>rw[e]at h2;cases h2
   |some a=>rw[e]at h2;cases h2;rfl
  obtain⟨u,hu,rv⟩:=r.get ha
  have hp:ps[i]?=some y:=by
   rw[<-S.pre,List.getElem?_take_of_lt s!""];exact h1
  have ndP:ps.Nodup:=by rw[<-S.pre];exact S.nd.sublist (List.take_sublist _ _)
  refine⟨u,rv,?_⟩
  rcases S.par y (jl_ hp) with k|k
  ·exact .inl ⟨k,IX ndP hp hu k⟩
  ·obtain⟨c,e⟩:=Km (n:=s.heap.objs.size+1) k
   refine .inr ⟨.inl k,c,e,?_⟩
   have q:=x.cell y c e
   rw[IY ndP hp hu (by show scope.names.lookup y≠_;rw[k];decide)]at q
   exact q
 ·exact e0.hok.fresh (qY_ (x.above y c (qx_ h)))
 ·unfold start
  show _=N.length
  rw[jf_,jd_,qA_]
  lia
theorem Qs    {K:α3}         {dV kV doc pm cdv ct oc:Value}
       (lk:K.lookup f=some ⟨oc,od,.func (fnOf name qual params body scope dV kV doc pm an cdv ct),osl⟩) (hcd:codeIn K cdv qual=true) (S:FnScope N ps scope)
    (len:∀vs H Q E,sp vs H Q E->vs.length=ps.length)
    (hbody:∀(A:Around) (outer:List Env) (s:Shared) (H:Hp) (vs:List V) (Q:VK) (E:XK),Room k (A.deeper (envOfC qual scope s.heap.objs.size f cdv))->sp vs H Q E ->
      ∃t,PSs (cxOf CX P w K mg base N qual scope f cdv A outer s H E) body t/\t {nx:=fun _ H'=>Q .non H',rt:=Q} (start N vs) H):
    FnOk P w K mg base CX (k+1) f (fnOf name qual params body scope dV kV doc pm an cdv ct) ps sp:=by
  refine⟨len,fun A outer s H args us vs Q E hr e0 hb r hsp=>?_⟩
  have hl:=len _ _ _ _ hsp
  have KX:K.In s.heap:=e0.mod.kin.keeps fun b o e=>(e0.bs b o e).1
  have lim:s.heap.NoLimit:=e0.mod.nolimit.keeps fun b o e=>(e0.bs b o e).1
  have hkind:∀y∈ps.zip us,scope.names.lookup y.1=some .local\/(scope.names.lookup y.1=some .cell/\((cellsFrom (s.heap.objs.size+1) scope.names []).lookup y.1).isSome=true):=fun ⟨n,v⟩ hy=>by
    rcases S.par n (x6_ hy).1 with q|q
    . exact .inl q
    . exact .inr ⟨q,xI_ _ _ _ (.inl q)⟩
  refine codeAny_call_function hr.depth (KX _ _ lk) rfl S.co S.gen rfl (PySem.W.codeRec_of KX hcd) (hb _ _ _ _ ?_)
  refine wpAny_newFunctionEnv_cells S.kind hkind fun env he s1 x=>?_
  subst he
  refine⟨lim.keeps x.toInCall.keep,codeAny_func ?_⟩
  obtain⟨t,ht,hq⟩:=hbody A outer s H vs Q E (hr.deeper _) hsp
  have I:Inv (cxOf CX P w K mg base N qual scope f cdv A outer s H E) [] (start N vs) H s1:=IZ S hr.hd e0 hl r x
  refine qz_ (ht [] s1 (start N vs) H _ I hq) (fun fl s' hs=>?_) fun e s' hs=>hs
  have fin:∀{σ':St} {H':Hp} {v:V} {u:Value},Inv (cxOf CX P w K mg base N qual scope f cdv A outer s H E) [] σ' H' s'->RelV v u->Q v H'->CE outer P w H s Q u s' :=
    fun {σ' H' v u} J rv q=>⟨v,H',J.os,J.bare,J.base,J.hok,rv,q⟩
  cases fl with
  |ret u=>
    obtain⟨v,σ',H',J,rv,q⟩:=hs
    exact fin J rv q
  |next=>
    obtain⟨σ',H',J,q⟩:=hs
    exact fin (v:=V.non) (u:=Value.none) J rfl q
  |brk=>
    obtain⟨_,_,_,q⟩:=hs
    exact False.elim q
  |cont=>
    obtain⟨_,_,_,q⟩:=hs
    exact False.elim q
end L2
namespace L2
open PySem PySem.Spec PyProof.Rows
section
variable {X:Cx} {x:Str} {p pos:Pos} {e:Expr} {es:List Expr} {t:TA} {id T:String} {r:List V->Hp->VK->Prop}
noncomputable def tCB (r:List V->Hp->VK->Prop)(t:TA):TE:=fun σ H Q=>t σ H fun vs H1=>r vs H1 Q
theorem Aq (hc:Dk X (.builtin id) r)(hg:Gl X x)(hm:X.mg x=none)(hv:bootBuiltins x=some (.builtin id))(ha:PA X (e::es) t)(hn:x ≠ "__name__" := by decide)(hdb:(x==("__debug__" : Str))=false:=by decide)
  (he:starEach (e::es) X.env=(false,eval e X.env)::starEach es X.env:=by rfl) (hpl:(backTo pos (starEach es X.env)).any (·.1)=false:=by rfl):PE X (.Call (.Name x p) (e::es) [] pos) (tCB r t):=by
 intro pins s σ H Q I h
 refine qE_ (DB I hg hm hv ?_ hn hdb)
 exact PyProof.Rows.callWith_builtin1 (thn (ha pos pins s σ H _ I h) fun us s1 ⟨vs,H1,I1,r1,q1⟩=>hc pins s1 σ H1 vs us Q I1 r1 q1) he hpl
theorem AJ (hc:Dk X (.type T) r)(hg:Gl X x)(hm:X.mg x=none)(hv:bootBuiltins x=some (.type T))(ha:PA X (e::es) t)(hn:x ≠ "__name__" := by decide)(hdb:(x==("__debug__" : Str))=false:=by decide)
  (he:starEach (e::es) X.env=(false,eval e X.env)::starEach es X.env:=by rfl) (hpl:(backTo pos (starEach es X.env)).any (·.1)=false:=by rfl):PE X (.Call (.Name x p) (e::es) [] pos) (tCB r t):=by
 intro pins s σ H Q I h
 refine qE_ (DB I hg hm hv ?_ hn hdb)
 exact j7_ (thn (ha pos pins s σ H _ I h) fun us s1 ⟨vs,H1,I1,r1,q1⟩=>hc pins s1 σ H1 vs us Q I1 r1 q1) he hpl
end
end L2
namespace HT
open PySem PyProof.Rows
noncomputable def lexLt:α2->α2->Bool
 |[],[]=>false
 |[],_::_=>true
 |_::_,[]=>false
 |x::xs,y::ys=>if x=y then lexLt xs ys else decide (x<y)
theorem lexLt_cons (x y:Int)(xs ys:α2):lexLt (x::xs) (y::ys)=if x=y then lexLt xs ys else decide (x<y):=rfl
theorem HN:lexLt [] []=false:=rfl
theorem Hc (y:Int)(ys:α2):lexLt [] (y::ys)=true:=rfl
theorem Hd (x:Int)(xs:α2):lexLt (x::xs) []=false:=rfl
theorem eqAt_int (A:Around)(s:Shared)(a:Int)(t:Tok)(c:Int)(u:Tok):∃e,SeqAt.EqAt A s (.int a t) (.int c u) e/\(e=true↔a=c):=
 ⟨(a==c),SeqAt.EqAt.int_int a t c u,by simp⟩
theorem N8 (A:Around)(s:Shared)(a:Int)(t:Tok)(c:Int)(u:Tok)(prog:Program)(w:World)(E:Value->Shared->Prop)(Q:Value->Shared->Prop)(h:Q (.bool (decide (a<c))) s):
  wpAny (model prog w) A (richCompare .Lt (.int a t) (.int c u)) Q E s:=
 (PyProof.Rows.lt_int h:wpAny (model prog w) A (compareOp .Lt (.int a t) (.int c u)) Q E s)
section
open PySem.SeqAt
open PySem.AutoSeq1 (wpAny_loadPart')
open PySem.MeetsSeq PySem.MeetsSeq2 PySem.MeetsSeq3
theorem HR (l b:Addr)(items items2:Array Value)(n n2:Nat)(dd dd2:Option Addr)(sl sl2:Array (α5))(ns ms:α2)(hi:IntsAre items.toList ns)(hj:IntsAre items2.toList ms):
  Meets (Builtin.«tuple.__lt__» ⟨[.ref l,.ref b],[]⟩)
   (fun _ R s=>s.heap.get? l=some {cls:=.type "tuple",dict:=dd,data:=.seq items n,slots:=sl}/\s.heap.get? b=some {cls:=.type "tuple",dict:=dd2,data:=.seq items2 n2,slots:=sl2} /\
    R (.ok (.ret (.bool (lexLt ns ms)))) s):=
 .of_wp fun prog w A R s h=>by
  obtain⟨hp,g,d,tk,os⟩:=s;obtain⟨hl,hb,h⟩:=h
  have f2:=xy_
  have z1:items.size=ns.length:=by rw[<-hi.length];simp
  have z2:items2.size=ms.length:=by rw[<-hj.length];simp
  wp_walk using jU_ hl,jU_ hb,wpAny_forIn_list _ (fun rest b s'=>b.1=none/\s'=⟨hp,g,d,tk,os⟩/\∃(vs ws:List Value) (ns' ms':α2),rest=vs.zip ws /\
   IntsAre vs ns'/\IntsAre ws ms'/\ns'.length+items2.size=ms'.length+items.size/\R (.ok (.ret (.bool (lexLt ns' ms')))) ⟨hp,g,d,tk,os⟩) _
  case turn=>
   rintro⟨y,x⟩ rest b s' ⟨hb',rfl,vs,ws,ns',ms',hz,hvi,hwi,hlen,hR⟩
   cases hvi with
   |nil=>rw[List.zip_nil_left]at hz;cases hz
   |cons a t hvi' =>
    cases hwi with
    |nil=>rw[List.zip_nil_right]at hz;cases hz
    |cons c u hwi' =>
     rw[qr_]at hz
     injection hz with hyx hrest
     injection hyx with hy hx
     subst hy hx
     rw[lexLt_cons]at hR
     simp only[jR_]at hlen
     obtain⟨e,he,hiff⟩:=eqAt_int A.in1 ⟨hp,g,d,tk,os⟩ a t c u
     refine je_ (he prog w _ _ ?_)
     cases e with
     |true=>
      rw[if_pos (hiff.mp rfl)]at hR
      wp_walk
      exact⟨rfl,rfl,_,_,_,_,hrest,hvi',hwi',by lia,hR⟩
     |false=>
      rw[if_neg (fun q=>absurd (hiff.mpr q) jn_)]at hR
      have hri:=N8 A.in1 ⟨hp,g,d,tk,os⟩ a t c u prog w
      wp_walk using hri
      exact⟨_,rfl,by simpa using hR⟩
  case fin=>
   rintro⟨b1,b2⟩ s' ⟨hb',rfl,vs,ws,ns',ms',hz,hvi,hwi,hlen,hR⟩
   simp only at hb'
   subst hb'
   have hv:lexLt ns' ms'=decide (items.size<items2.size):=by
    cases hvi with
    |nil=>
     cases hwi with
     |nil=>
      simp only[q8_]at hlen
      rw[HN]
      exact (j3_ s!"").symm
     |cons c u hw=>
      simp only[q8_,jR_]at hlen
      rw[Hc]
      exact (qv_ s!"").symm
    |cons a t hv=>
     cases hwi with
     |nil=>
      simp only[q8_,jR_]at hlen
      rw[Hd]
      exact (j3_ s!"").symm
     |cons c u hw=>
      rw[qr_]at hz
      cases hz
   rw[hv]at hR
   wp_walk
   exact⟨_,rfl,by simpa [Builtin.Tuple.tupleCompareSizes] using hR⟩
  case h=>
   exact⟨rfl,rfl,items.toList,items2.toList,ns,ms,rfl,hi,hj,by lia,h⟩
end
section
variable {prog:Program} {w:World} {A:Around} {E:Value->Shared->Prop} {s:Shared}
theorem lt_tupInts     (hl:IsTup s.heap l items)(hb:IsTup s.heap b items2)(hi:IntsAre items.toList ns)(hj:IntsAre items2.toList ms)
  (hu:A.units<cLine) (h:Q (.bool (lexLt ns ms)) s):wpAny (model prog w) A (compareOp .Lt (.ref l) (.ref b)) Q E s:=by
 obtain⟨⟨cls,dd,data,sl⟩,ho,hc,n,hd⟩:=id hl
 obtain⟨⟨cls2,dd2,data2,sl2⟩,ho2,hc2,n2,hd2⟩:=id hb
 simp only at hc hd hc2 hd2
 subst hc hd hc2 hd2
 exact xJ_ (op:=.Lt) ⟨_,ho,rfl⟩ ⟨_,ho2,rfl⟩ xS_ xK_ (xD_ _ _) (HR l b items items2 n n2 dd dd2 sl sl2 ns ms hi hj)
  ⟨ho,ho2,show Value.bool (lexLt ns ms)≠Value.notImplemented/\Q (.bool (lexLt ns ms)) s from ⟨(fun x=>nomatch x),h⟩⟩ hu
theorem cat_tup    (ht:IsTup s.heap t vs.toArray)(hb:IsTup s.heap b ws.toArray)(hv:vs ≠ [])
  (h1:ws=[]->Q (.ref t) s) (h2:ws ≠ []->Q (.ref s.heap.objs.size) {s with heap:=s.heap.push {cls:=.type "tuple",data:=.seq (vs++ws).toArray} })
  (hsz:vs.length+ws.length<=sizeLine):wpAny (model prog w) A (binaryOp .Add (.ref t) (.ref b)) Q E s:=by
 obtain⟨⟨cls,dd,data,sl⟩,ho,hc,n,hd⟩:=id ht
 obtain⟨⟨cls2,dd2,data2,sl2⟩,ho2,hc2,n2,hd2⟩:=id hb
 simp only at hc hd hc2 hd2
 subst hc hd hc2 hd2
 have e:vs.toArray++ws.toArray=(vs++ws).toArray:=by simp
 by_cases hw:ws=[]
 ·exact concat_meets ⟨_,ho,rfl⟩ ⟨_,ho2,rfl⟩ noFill_tuple_add seq_tuple_add xL_ xE_ (xz_ _ _)
   (tuple_addW1 t b vs.toArray ws.toArray n n2 dd dd2 sl sl2 (by simpa using hv) (by simp[hw])) ⟨ho,ho2,h1 hw⟩
 ·refine concat_meets ⟨_,ho,rfl⟩ ⟨_,ho2,rfl⟩ noFill_tuple_add seq_tuple_add xL_ xE_ (xz_ _ _)
   (tuple_addW2 t b vs.toArray ws.toArray n n2 dd dd2 sl sl2 (by simpa using hv) (by simpa using hw) (by rw[ji_,ji_];exact hsz)) ⟨ho,ho2,?_⟩
  rw[e]
  exact h2 hw
noncomputable def sIx (n d:Nat):Option Int->Nat
 |none=>d
 |some v=>if v<0 then (v+(n:Int)).toNat else min v.toNat n
theorem sIx_nat (n d k:Nat):sIx n d (some (k:Int))=min k n:=by
 show (if (k:Int)<0 then ((k:Int)+(n:Int)).toNat else min (k:Int).toNat n)=min k n
 rw[if_neg s!"",ju_]
theorem RI (n d:Nat)(hd:d<=n)(o:Option Int):sIx n d o<=n:=by
 cases o with
 |none=>exact hd
 |some v=>
  show (if v<0 then (v+(n:Int)).toNat else min v.toNat n)<=n
  by_cases hv:v<0
  ·rw[if_pos hv];lia
  ·rw[if_neg hv];exact Nat.min_le_right _ _
theorem L3 (v:Int)(n d:Nat):(if v<0 then max (v+(n:Int)) 0 else min v (n:Int))=((sIx n d (some v):Nat):Int):=by
 show (if v<0 then max (v+(n:Int)) 0 else min v (n:Int))=(((if v<0 then (v+(n:Int)).toNat else min v.toNat n):Nat):Int)
 by_cases hv:v<0
 ·simp only[if_pos hv];lia
 ·simp only[if_neg hv];lia
theorem Lf (lo hi:Option Int)(n:Nat):Builtin.Slice.sliceAdjust lo hi 1 (n:Int)=(((sIx n 0 lo:Nat):Int),((sIx n n hi:Nat):Int)):=by
 have h1:¬ ((1:Int)<0):=by lia
 unfold Builtin.Slice.sliceAdjust
 simp only[h1,xO_]
 refine Prod.ext ?_ ?_
 ·cases lo with
  |none=>rfl
  |some v=>exact L3 v n 0
 ·cases hi with
  |none=>rfl
  |some v=>exact L3 v n n
theorem Lg (i j:Nat):Builtin.Slice.slicePlaces (i:Int) (j:Int) 1=j-i:=by
 unfold Builtin.Slice.slicePlaces
 have h1:(1:Int) > 0:=by lia
 simp only[h1,zi_,Int.ediv_one]
 split<;>lia
theorem Hr    (p:IsPart v o)(h:Q o s):wpAny (model prog w) A (Builtin.Slice.slicePartIndex v) Q E s:=by
 cases p with
 |none=>exact slicePart_none h
 |int i t=>exact slicePart_int h
theorem DC {sl:Addr}{vl vu:Value}{lo hi:Option Int}{n:Nat}{Q:Int×Int×Nat->Shared->Prop}(hs:s.heap.IsSliceOf sl vl vu .none)(pl:IsPart vl lo)(pu:IsPart vu hi)
  (h:Q (((sIx n 0 lo:Nat):Int),1,sIx n n hi-sIx n 0 lo) s):wpAny (model prog w) A (Builtin.Slice.sliceApplied (.ref sl) (pure (n:Int))) Q E s:=by
 obtain⟨os,hos,hcs,hds⟩:=id hs
 unfold Builtin.Slice.sliceApplied Builtin.Slice.sliceFields
 refine je_ (je_ (wpAny_field hos hds (x:=vl) rfl (je_ (wpAny_field hos hds (x:=vu) rfl (je_ (wpAny_field hos hds (x:=.none) rfl (jo_ ?_)))))))
 refine je_ (slicePart_none ?_)
 show wpAny _ _ (if ((1:Int)==0)=true then _ else _) _ _ s
 rw[if_neg (by decide)]
 refine je_ (Hr pl (je_ (Hr pu (je_ (jo_ ?_)))))
 show wpAny _ _ (match Builtin.Slice.sliceAdjust lo hi 1 (n:Int) with|(lo,hi)=>pure (lo,(1:Int),Builtin.Slice.slicePlaces lo hi 1)) _ _ s
 rw[Lf lo hi n]
 show wpAny _ _ (pure (((sIx n 0 lo:Nat):Int),(1:Int),Builtin.Slice.slicePlaces ((sIx n 0 lo:Nat):Int) ((sIx n n hi:Nat):Int) 1)) _ _ s
 rw[Lg]
 exact jo_ h
theorem N9 (xs:Array Value)(i k:Nat):((List.range k).filterMap fun (m:Nat)=>xs[((i:Int)+(m:Int)*1).toNat]?).toArray=((xs.toList.drop i).take k).toArray:=by
 have e:(fun (m:Nat)=>xs[((i:Int)+(m:Int)*1).toNat]?)=fun m=>xs[i+m]?:=by
  funext m
  have:((i:Int)+(m:Int)*1).toNat=i+m:=by lia
  rw[this]
 rw[e]
 have:=pick_run xs i k
 rw[List.filterMap_map]at this
 have e2:((fun x=>xs[x]?) ∘ fun x=>i+x)=fun m=>xs[i+m]?:=rfl
 rw[e2]at this
 rw[this]
theorem getItem_tuple_cut {t sl:Addr}   {lo hi:Option Int}  (ht:IsTup s.heap t items)(hs:s.heap.IsSliceOf sl vl vu .none)(pl:IsPart vl lo)(pu:IsPart vu hi)
  (hw:¬ (sIx items.size 0 lo=0/\sIx items.size items.size hi=items.size))
  (h:Q (.ref s.heap.objs.size) {s with heap:=s.heap.push {cls:=.type "tuple",data:=.seq ((items.toList.drop (sIx items.size 0 lo)).take (sIx items.size items.size hi-sIx items.size 0 lo)).toArray} })
  (hsz:items.size<=sizeLine):wpAny (model prog w) A (getItem (.ref t) (.ref sl)) Q E s:=by
 have htake:sizeOk (.seq ((items.toList.drop (sIx items.size 0 lo)).take (sIx items.size items.size hi-sIx items.size 0 lo)).toArray):=by
  show ((items.toList.drop (sIx items.size 0 lo)).take (sIx items.size items.size hi-sIx items.size 0 lo)).toArray.size<=sizeLine
  rw[ji_,j5_,xe_,xb_]
  lia
 have hj:sIx items.size items.size hi<=items.size:=RI _ _ (jh_ _) hi
 obtain⟨os,hos,hcs,hds⟩:=id hs
 have hTs:s.TypeIs (.ref sl) "slice" := ⟨os,hos,hcs⟩
 unfold getItem
 try with_reducible refine qd_ ?_
 first|refine je_ (jo_ ?_)|skip
 refine je_ (wpAny_sequenceKey ht.typeIs (by decide) ?_)
 refine je_ (qF_ (name:=Str.ofString "__getitem__") ht.typeIs ql_
  (qX_ ql_ ht.typeIs entry_tuple_getitem ?_ (args_tuple_getitem _ _)))
 show wpAny _ _ (Builtin.Tuple.tupleItemsOf (.ref t) >>= _) _ _ s
 refine je_ (tupleItemsOf_ ht ?_)
 refine je_ (xT_ hTs ?_)
 rw[if_pos (by decide)]
 refine je_ (DC hs pl pu ?_)
 have hno:¬ ((((sIx items.size 0 lo:Nat):Int)==0&&(1:Int)==1&&(sIx items.size items.size hi-sIx items.size 0 lo)==items.size)=true):=by
  intro q
  rw[qn_,qn_]at q
  have q1:((sIx items.size 0 lo:Nat):Int)=0:=eq_of_beq q.1.1
  have q2:sIx items.size items.size hi-sIx items.size 0 lo=items.size:=eq_of_beq q.2
  exact hw ⟨by lia,by lia⟩
 show wpAny _ _ (if (((sIx items.size 0 lo:Nat):Int)==0&&(1:Int)==1&&(sIx items.size items.size hi-sIx items.size 0 lo)==items.size)=true then _ else _) _ _ s
 rw[if_neg hno,N9]
 first
  | exact je_ (m:=Builtin.Tuple.tupleExact _) (qJ_ (jo_ ⟨_,rfl,jo_ h⟩) htake)
  | exact je_ (m:=Builtin.Tuple.tupleExact _) (qJ_ (je_ (jo_ (jo_ ⟨_,rfl,jo_ h⟩))) htake)
  | exact je_ (je_ (m:=Builtin.Tuple.tupleExact _) (qJ_ (jo_ (jo_ ⟨_,rfl,jo_ h⟩)) htake))
  | exact je_ (je_ (m:=Builtin.Tuple.tupleExact _) (qJ_ (jo_ ⟨_,rfl,jo_ h⟩) htake))
end
end HT
namespace L2
open PySem PySem.Spec PyProof.Rows
noncomputable abbrev TO:=St->Hp->(Option Int->Hp->Prop)->Prop
noncomputable def PO (X:Cx)(e:Option Expr)(t:TO):Prop:=
 ∀(pins:α7) (s:Shared) (σ:St) (H:Hp) (Q:Option Int->Hp->Prop),Inv X pins σ H s->t σ H Q ->
  wpAny (model X.prog X.w) X.A (evalPart e X.env) (fun u s'=>∃o H',Inv X pins σ H' s'/\IsPart u o/\Q o H') X.xe s
noncomputable def L4:TO:=fun _ H Q=>Q none H
noncomputable def RJ (t:TE):TO:=fun σ H Q=>t σ H fun x H1=>∃i,x=.int i/\Q (some i) H1
theorem intsAre_of  : ∀{us:List Value},Vals (ns.map V.int) us->IntsAre us ns:=by
 induction ns with
 |nil=>intro us r;rw[xA_]at r;cases r;exact .nil
 |cons n ns ih=>
  intro us r
  rw[jS_]at r
  cases r with
  |cons r1 r2=>
   obtain⟨t,e⟩:=r1
   subst e
   exact .cons n t (ih r2)
section
variable {X:Cx} {e:Expr} {te:TE} {lo hi:Option Expr} {tl th:TO} {pos p2:Pos}
theorem JJ:PO X none L4:=by
 intro pins s σ H Q I h
 rw[evalPart_none]
 exact jo_ ⟨none,H,I,.none,h⟩
theorem Eu (h:PE X e te):PO X (some e) (RJ te):=by
 intro pins s σ H Q I hw
 rw[evalPart_some]
 refine thn (h pins s σ H _ I hw) fun u s1 ⟨x,H1,I1,r1,q1⟩=>?_
 obtain⟨i,rfl,q⟩:=q1
 obtain⟨t,rfl⟩:=r1
 exact⟨some i,H1,I1,.int i t,q⟩
noncomputable def SlR (X:Cx)(r:V->Option Int->Option Int->Hp->VK->Prop):Prop:=
 ∀(pins:α7) (s:Shared) (σ:St) (H:Hp) (x:V) (v vl vu:Value) (lo hi:Option Int) (sl:Addr) (Q:VK),Inv X pins σ H s->RelV x v->s.heap.IsSliceOf sl vl vu .none->IsPart vl lo->IsPart vu hi->r x lo hi H Q ->
  ∃T id,typeLookup (.type T) "__getitem__"=pure (some (.builtin id))/\s.TypeIs v T/\wpAny (model X.prog X.w) X.A (getItem v (.ref sl)) (EP X pins σ Q) X.xe s
noncomputable def tSl (r:V->Option Int->Option Int->Hp->VK->Prop)(te:TE)(tl th:TO):TE:=fun σ H Q=>te σ H fun x H1=>tl σ H1 fun l H2=>th σ H2 fun u H3=>r x l u H3 Q
theorem EJ  (hr:SlR X r)(he:PE X e te)(hl:PO X lo tl)(hu:PO X hi th):PE X (.Subscript e (.Slice lo hi none p2) pos) (tSl r te tl th):=by
 intro pins s σ H Q I h
 refine Subscript_ (thn (he pins s σ H _ I h) fun v s1 ⟨x,H1,I1,r1,q1⟩=>?_)
 refine wpAny_Slice (thn (hl pins s1 σ H1 _ I1 q1) fun vl s2 ⟨l,H2,I2,pl,q2⟩=>thn (hu pins s2 σ H2 _ I2 q2) fun vu s3 ⟨u,H3,I3,pu,q3⟩=>?_)
 rw[evalPart_none]
 refine jo_ ?_
 have I4:Inv X pins σ H3 {s3 with heap:=s3.heap.push {cls:=.type "slice",data:=.fields #[vl,vu,.none]} }:=I3.kept (t':=s3.toks) fun b ob q=>jm_ _ q
 obtain⟨T,id,hT,ht,hg⟩:=hr pins {s3 with heap:=s3.heap.push {cls:=.type "slice",data:=.fields #[vl,vu,.none]} } σ H3 x v vl vu l u s3.heap.objs.size Q I4 r1 (Heap.IsSliceOf.new ..) pl pu q3
 show wpAny (model X.prog X.w) X.A (subscriptTail e (.Slice lo hi none p2) v (.ref s3.heap.objs.size)) (EP X pins σ Q) X.xe {s3 with heap:=s3.heap.push {cls:=.type "slice",data:=.fields #[vl,vu,.none]} }
 exact tail_any (ops:=[.ref s3.heap.objs.size,v]) ht hT hg (by with_unfolding_all rfl)
noncomputable def cutV (xs:List V)(lo hi:Option Int):List V:=(xs.drop (HT.sIx xs.length 0 lo)).take (HT.sIx xs.length xs.length hi-HT.sIx xs.length 0 lo)
theorem Ew (xs:List V)(lo hi:Option Int):(cutV xs lo hi).length<=xs.length:=by
 unfold cutV
 rw[j5_,xe_]
 lia
noncomputable def rSlT (K:α3):V->Option Int->Option Int->Hp->VK->Prop:=fun x lo hi H Q=>∃a xs,x=.ref a/\SqT K H a xs /\
 ¬ (HT.sIx xs.length 0 lo=0/\HT.sIx xs.length xs.length hi=xs.length)/\∀p,H p=none->Q (.ref p) (upd H p (.tup (cutV xs lo hi)))
theorem RK:SlR X (rSlT X.K):=by
 intro pins s σ H x v vl vu lo hi sl Q I rx hs pl pu h
 obtain⟨a,xs,rfl,hx,hw,q⟩:=h
 cases rx
 obtain⟨its,r,ht,hz⟩:=I.tuple hx
 have hlen:its.toArray.size=xs.length:=by rw[ji_];exact r.length.symm
 refine⟨"tuple",_,ql_.lookup,ht.typeIs,?_⟩
 refine HT.getItem_tuple_cut ht hs pl pu (by rw[hlen];exact hw) ?_ (by rw[hlen];exact hz)
 rw[hlen]
 refine⟨.ref s.heap.objs.size,_,I.laid (t':=s.toks) (o:=.tup (cutV xs lo hi)) (fun b ob q=>jm_ _ q) (jh_ _) ?_,rfl,q _ (I.hok.fresh (jh_ _))⟩
 exact⟨qG_ (Ew xs lo hi) hz,_,(r.drop (HT.sIx xs.length 0 lo)).take (HT.sIx xs.length xs.length hi-HT.sIx xs.length 0 lo),IsTup.new _ _⟩
noncomputable def rLtT (K:α3):R2:=fun x y H Q=>∃a b ns ms,x=.ref a/\y=.ref b/\SqT K H a (ns.map V.int)/\SqT K H b (ms.map V.int)/\Q (.bl (HT.lexLt ns ms)) H
theorem RL (hu:X.A.units<cLine):OpR X (compareOp .Lt) (rLtT X.K):=by
 intro pins s σ H x y v u Q I rx ry h
 obtain⟨a,b,ns,ms,rfl,rfl,ha,hb,q⟩:=h
 cases rx
 cases ry
 obtain⟨its,r1,p1,_⟩:=I.tuple ha
 obtain⟨its2,r2,p2,_⟩:=I.tuple hb
 have i1:IntsAre its.toArray.toList ns:=intsAre_of r1
 have i2:IntsAre its2.toArray.toList ms:=intsAre_of r2
 exact HT.lt_tupInts p1 p2 i1 i2 hu ⟨.bl (HT.lexLt ns ms),H,I,rfl,q⟩
noncomputable def S7 (K:α3):R2:=fun x y H Q=>∃a b xs ys,x=.ref a/\y=.ref b/\SqT K H a xs/\SqT K H b ys/\xs ≠ []/\xs.length+ys.length<=sizeLine /\
 (ys=[]->Q (.ref a) H)/\(ys ≠ []->∀p,H p=none->Q (.ref p) (upd H p (.tup (xs++ys))))
theorem Vals.nil_iff   (r:Vals xs us):us=[]↔xs=[]:=by
 cases r with
 |nil=>simp
 |cons _ _=>simp
theorem Qt:OpR X (binaryOp .Add) (S7 X.K):=by
 intro pins s σ H x y v u Q I rx ry h
 obtain⟨a,b,xs,ys,rfl,rfl,ha,hb,hx,hz,q1,q2⟩:=h
 cases rx
 cases ry
 obtain⟨its,r1,p1,_⟩:=I.tuple ha
 obtain⟨its2,r2,p2,_⟩:=I.tuple hb
 refine HT.cat_tup p1 p2 (fun z=>hx (r1.nil_iff.mp z)) (fun z=>⟨.ref a,H,I,rfl,q1 (r2.nil_iff.mp z)⟩) (fun z=>?_) (by rw[<-r1.length,<-r2.length];exact hz)
 refine⟨.ref s.heap.objs.size,_,I.laid (t':=s.toks) (o:=.tup (xs++ys)) (fun b ob q=>jm_ _ q) (jh_ _) ?_,rfl,q2 (fun w=>z (r2.nil_iff.mpr w)) _ (I.hok.fresh (jh_ _))⟩
 exact⟨by rw[jf_];exact hz,_,r1.append r2,IsTup.new _ _⟩
end
end L2
namespace L2
open PySem PySem.Spec PyProof.Rows
noncomputable def ixN (n:Nat)(i:Int):Option Nat:=if 0<=i then (if i<n then some i.toNat else none) else if -(n:Int)<=i then some (i+n).toNat else none
noncomputable def atI {α:Type}(xs:List α)(i:Int):Option α:=(ixN xs.length i).bind fun j=>xs[j]?
theorem L5    (h:ixN n i=some j):seqIndex? i n=some j/\j<n /\ -(n:Int)<=i/\i<n:=by
 unfold ixN at h
 by_cases h0:0<=i
 ·rw[if_pos h0]at h
  by_cases h1:i<n
  ·rw[if_pos h1]at h
   have e:i.toNat=j:=jH_ h
   exact⟨by rw[seqIndex_of h0 h1,e],by lia,by lia,h1⟩
  ·rw[if_neg h1]at h;cases h
 ·rw[if_neg h0]at h
  by_cases h1 : -(n:Int)<=i
  ·rw[if_pos h1]at h
   have e:(i+n).toNat=j:=jH_ h
   exact⟨by rw[seqIndex_neg s!"" h1,e],by lia,h1,by lia⟩
  ·rw[if_neg h1]at h;cases h
theorem L6     (h:atI xs i=some v):∃j,seqIndex? i xs.length=some j/\xs[j]?=some v/\j<xs.length /\ -(xs.length:Int)<=i/\i<xs.length:=by
 unfold atI at h
 cases e:ixN xs.length i with
 |none=>rw[e]at h;cases h
 |some j=>
  rw[e]at h
  obtain⟨h1,h2,h3,h4⟩:=L5 e
  exact⟨j,h1,h,h2,h3,h4⟩
theorem AE {α:Type}{xs:List α}{j:Nat}{v:α}(h:xs[j]?=some v):atI xs (j:Int)=some v:=by
 have hj:j<xs.length:=(jc_.mp h).1
 have e:ixN xs.length (j:Int)=some j:=by
  unfold ixN
  rw[if_pos s!"",if_pos s!""];simp
 unfold atI;rw[e];exact h
noncomputable def L7 (b:Expr):Prop:=∀o i,subscripted b false o i=operate [o,i] (getItem o i)
noncomputable def IxR (X:Cx)(r:R2):Prop:=
 ∀(value slice:Expr) (pins:α7) (s:Shared) (σ:St) (H:Hp) (x y:V) (v u:Value) (Q:VK),Inv X pins σ H s->RelV x v->RelV y u->r x y H Q ->
  subscripted slice false v u=operate [v,u] (getItem v u)->wpAny (model X.prog X.w) X.A (subscriptTail value slice v u) (EP X pins σ Q) X.xe s
noncomputable def MtR (X:Cx)(id:String)(r:V->List V->Hp->VK->Prop):Prop:=
 ∀(pins:α7) (s:Shared) (σ:St) (H:Hp) (x:V) (xs:List V) (v:Value) (us:List Value) (Q:VK),Inv X pins σ H s->RelV x v->Vals xs us->r x xs H Q ->
  wpAny (model X.prog X.w) X.A (call (.builtin id) (v::us)) (EP X pins σ Q) X.xe s
section
variable {X:Cx} {a b:Expr} {ta tb:TE} {pos:Pos}
theorem Qu  (hr:IxR X r)(ha:PE X a ta)(hb:PE X b tb)(hs:L7 b):PE X (.Subscript a b pos) (tOp r ta tb):=by
 intro pins s σ H Q I h
 exact Subscript_ (binT ha hb I h fun v u s2 x y H2 I2 rx ry q=>hr a b pins s2 σ H2 x y v u Q I2 rx ry q (hs _ _))
noncomputable def rIxL (K:α3):R2:=fun x y H Q=>∃p xs i v,x=.ref p/\y=.int i/\SqL K H p xs/\atI xs i=some v/\Q v H
noncomputable def rIxT (K:α3):R2:=fun x y H Q=>∃p xs i v,x=.ref p/\y=.int i/\SqT K H p xs/\atI xs i=some v/\Q v H
theorem AS:IxR X (rIxL X.K):=by
 intro value slice pins s σ H x y v u Q I rx ry h hs
 obtain⟨p,xs,i,z,rfl,rfl,hq,he,q⟩:=h
 cases rx
 obtain⟨t,rfl⟩:=ry
 obtain⟨its,r,pl,hz⟩:=I.list hq
 obtain⟨j,h1,h2,h3,h4,h5⟩:=L6 he
 obtain⟨w,ew,rw'⟩:=r.get h2
 have hl:=r.length
 have hn:=Kl
 have fin:EP X pins σ Q w s:=⟨z,H,I,rw',q⟩
 by_cases h0:0<=i
 ·have hj:i.toNat=j:=by
   rw[seqIndex_of h0 h5]at h1
   exact jH_ h1
  exact item_listR pl.isList h0 s!"" (by rw[hj];simpa using ew) fin hs
 ·have hj:(i+(its.toArray.size:Int)).toNat=j:=by
   rw[seqIndex_neg s!"" h4]at h1
   rw[ji_,<-hl]
   exact jH_ h1
  exact subscriptTail_builtinR (x:=w) pl.isList.typeIs slot_list_getitem.lookup
   (wpAny_getItem_list_neg (Q:=fun r s'=>r=w/\EP X pins σ Q r s') pl.isList s!"" (by rw[ji_]<;>lia) s!"" (by rw[hj];simpa using ew) ⟨rfl,fin⟩) hs
theorem Am:IxR X (rIxT X.K):=by
 intro value slice pins s σ H x y v u Q I rx ry h hs
 obtain⟨p,xs,i,z,rfl,rfl,hq,he,q⟩:=h
 cases rx
 obtain⟨t,rfl⟩:=ry
 obtain⟨its,r,pl,hz⟩:=I.tuple hq
 obtain⟨j,h1,h2,h3,h4,h5⟩:=L6 he
 obtain⟨w,ew,rw'⟩:=r.get h2
 have hl:=r.length
 have hn:=Kl
 have fin:EP X pins σ Q w s:=⟨z,H,I,rw',q⟩
 exact subscriptTail_builtinR (x:=w) pl.typeIs slot_tuple_getitem.lookup
  (getItem_tuple (j:=j) (Q:=fun r s'=>r=w/\EP X pins σ Q r s') pl s!"" s!"" (by rw[ji_,<-hl];exact h1) (by simpa using ew) ⟨rfl,fin⟩) hs
theorem Lh (its:List Value)(n j:Nat)(u:Value):Obj.mapSeq (·.setIfInBounds j u) {cls:=.type "list",data:=.seq its.toArray n}={cls:=.type "list",data:=.seq (its.set j u).toArray n}:=by
 simp[Obj.mapSeq]
theorem Inv.lst {pins:α7}{σ:St}{H:Hp}{s:Shared}{p:Addr}{xs:List V}(I:Inv X pins σ H s)(h:H p=some (.lst xs)):
  ∃(its:List Value) (n:Nat),Vals xs its/\s.heap.get? p=some {cls:=.type "list",data:=.seq its.toArray n}/\xs.length<=sizeLine:=by
 obtain⟨z,its,n,r,e⟩:=I.hok p _ h
 exact⟨its,n,r,e,z⟩
theorem Inv.lstUpd       {its its':List Value}   (I:Inv X pins σ H s)(h:H p=some (.lst xs))
  (ho:s.heap.get? p=some {cls:=.type "list",data:=.seq its.toArray n}) (hf:f {cls:=.type "list",data:=.seq its.toArray n}={cls:=.type "list",data:=.seq its'.toArray n' }) (r:Vals ys its') (hz:ys.length<=sizeLine) (t:Nat):
  Inv X pins σ (upd H p (.lst ys)) {s with heap:=s.heap.update p f,toks:=t}:=by
 have e:(s.heap.update p f).get? p=some {cls:=.type "list",data:=.seq its'.toArray n' }:=by
  rw[qO_ f ho (by rw[hf]<;>rfl),hf]
 refine I.write (x:=p) (e:=p) (by rw[h];trivial) (.inl rfl) (fun b u hb q=>(j9_ _ _ (qf_ hb)).trans q) ⟨_,e⟩ ?_
 exact⟨hz,its',n',r,e⟩
noncomputable def RM:V->V->V->Hp->(Hp->Prop)->Prop:=fun o i v H Q=>∃p xs k j,o=.ref p/\i=.int k/\H p=some (.lst xs)/\ixN xs.length k=some j/\Q (upd H p (.lst (xs.set j v)))
theorem set_list:PSet X RM:=by
 intro pins s σ H o i v ov iv u Q I ro ri rv h
 obtain⟨p,xs,k,j,rfl,rfl,hp,hj,q⟩:=h
 cases ro
 obtain⟨t,rfl⟩:=ri
 obtain⟨its,n,r,ho,hz⟩:=I.lst hp
 obtain⟨h1,h2,h3,h4⟩:=L5 hj
 have hl:=r.length
 have hn:=Kl
 have I':Inv X pins σ (upd H p (.lst (xs.set j v))) {s with heap:=s.heap.update p (Obj.mapSeq (·.setIfInBounds j u))}:=
  I.lstUpd hp ho (Lh its n j u) (r.set rv j) (by rw[j8_];exact hz) s.toks
 by_cases h0:0<=k
 ·have hk:k.toNat=j:=by
   rw[seqIndex_of h0 h4]at h1
   exact jH_ h1
  exact PySem.W.ki_setAt ho h0 s!"" (by rw[ji_,<-hl];exact h4) (by rw[hk];exact⟨_,I',q⟩)
 ·have hk:(k+(its.toArray.size:Int)).toNat=j:=by
   rw[seqIndex_neg s!"" h3]at h1
   rw[ji_,<-hl]
   exact jH_ h1
  exact PySem.W.ki_setBack ho s!"" (by rw[ji_,<-hl];exact h3) s!"" (by rw[hk];exact⟨_,I',q⟩)
theorem I0 (lo hi:Option Int)(n:Nat):(sliceBounds lo hi none n).1=((HT.sIx n 0 lo:Nat):Int)/\(sliceBounds lo hi none n).2.1=((HT.sIx n n hi:Nat):Int)/\(sliceBounds lo hi none n).2.2=1:=by
 refine⟨?_,?_,rfl⟩
 ·cases lo with
  |none=>simp[sliceBounds,HT.sIx]
  |some i=>
   simp only[sliceBounds,HT.sIx,Option.getD_none,show (1:Int) > 0 by decide,zi_]
   by_cases h:i<0
   ·simp only[h,zi_]<;>lia
   ·simp only[h,xO_]<;>lia
 ·cases hi with
  |none=>simp[sliceBounds,HT.sIx]
  |some i=>
   simp only[sliceBounds,HT.sIx,Option.getD_none,show (1:Int) > 0 by decide,zi_]
   by_cases h:i<0
   ·simp only[h,zi_]<;>lia
   ·simp only[h,xO_]<;>lia
theorem HS (its:List Value)(lo hi:Option Int):slicePick its.toArray lo hi none=((its.drop (HT.sIx its.length 0 lo)).take (HT.sIx its.length its.length hi-HT.sIx its.length 0 lo)).toArray:=by
 obtain⟨h1,h2,h3⟩:=I0 lo hi its.toArray.size
 unfold slicePick
 rw[h1,h2,h3]
 simp only[sliceRange_one,pick_run,ji_]<;>rfl
noncomputable def rSlL (K:α3):V->Option Int->Option Int->Hp->VK->Prop:=fun x lo hi H Q=>∃a xs,x=.ref a/\SqL K H a xs/\∀p,H p=none->Q (.ref p) (upd H p (.lst (cutV xs lo hi)))
theorem JK:SlR X (rSlL X.K):=by
 intro pins s σ H x v vl vu lo hi sl Q I rx hs pl pu h
 obtain⟨a,xs,rfl,hx,q⟩:=h
 cases rx
 obtain⟨its,r,ht,hz⟩:=I.list hx
 have hlen:=r.length
 refine⟨"list",_,slot_list_getitem.lookup,ht.isList.typeIs,?_⟩
 refine wpAny_getItem_list_slice ht.isList hs pl pu .none (by simp) ?_ (by rw[ji_]<;>lia)
 rw[HS,<-hlen]
 refine⟨.ref s.heap.objs.size,_,I.laid (t':=s.toks) (o:=.lst (cutV xs lo hi)) (fun b ob q=>jm_ _ q) (jh_ _) ?_,rfl,q _ (I.hok.fresh (jh_ _))⟩
 exact⟨qG_ (Ew xs lo hi) hz,_,0,(r.drop (HT.sIx xs.length 0 lo)).take (HT.sIx xs.length xs.length hi-HT.sIx xs.length 0 lo),jE_ _ rfl⟩
noncomputable def B7:V->Bool
 |.non=>true
 |.bl _=>true
 |.int _=>true
 |.str _=>true
 |_=>false
noncomputable def eqV:V->V->Bool
 |.non,.non=>true
 |.bl a,.bl b=>a==b
 |.bl a,.int b=>(if a then 1 else 0)==b
 |.int a,.bl b=>a==(if b then 1 else 0)
 |.int a,.int b=>a==b
 |.str a,.str b=>a==b
 |_,_=>false
theorem L8     (ry:RelV y u)(rx:RelV x v)(fy:B7 y=true)(fx:B7 x=true):SeqAt.EqAt A s u v (eqV y x):=by
 cases y with
 |non=>
  cases ry
  cases x with
  |non=>cases rx;exact SeqAt.EqAt.same _
  |bl b=>cases rx;exact SeqAt.EqAt.none_bool b
  |int b=>obtain⟨t,rfl⟩:=rx;exact SeqAt.EqAt.none_int b t
  |str b=>obtain⟨t,rfl⟩:=rx;exact SeqAt.EqAt.none_str b t
  |_=>exact absurd (show false=true from fx) jn_
 |bl a=>
  cases ry
  cases x with
  |non=>cases rx;exact SeqAt.EqAt.bool_none a
  |bl b=>cases rx;exact SeqAt.EqAt.bool_bool a b
  |int b=>obtain⟨t,rfl⟩:=rx;exact SeqAt.EqAt.bool_int a b t
  |str b=>obtain⟨t,rfl⟩:=rx;exact SeqAt.EqAt.bool_str a b t
  |_=>exact absurd (show false=true from fx) jn_
 |int a=>
  obtain⟨t',rfl⟩:=ry
  cases x with
  |non=>cases rx;exact SeqAt.EqAt.int_none a t'
  |bl b=>cases rx;exact SeqAt.EqAt.int_bool a t' b
  |int b=>obtain⟨t,rfl⟩:=rx;exact SeqAt.EqAt.int_int a t' b t
  |str b=>obtain⟨t,rfl⟩:=rx;exact SeqAt.EqAt.int_str a t' b t
  |_=>exact absurd (show false=true from fx) jn_
 |str a=>
  obtain⟨t',rfl⟩:=ry
  cases x with
  |non=>cases rx;exact SeqAt.EqAt.str_none a t'
  |bl b=>cases rx;exact SeqAt.EqAt.str_bool a t' b
  |int b=>obtain⟨t,rfl⟩:=rx;exact SeqAt.EqAt.str_int a t' b t
  |str b=>obtain⟨t,rfl⟩:=rx;exact SeqAt.EqAt.str_str a t' b t
  |_=>exact absurd (show false=true from fx) jn_
 |_=>exact absurd (show false=true from fy) jn_
noncomputable def eqU (x:V)(u:Value):Bool:=match u with
 |.none=>eqV .non x
 |.bool b=>eqV (.bl b) x
 |.int i _=>eqV (.int i) x
 |.str z _=>eqV (.str z) x
 |_=>false
theorem OW   (r:RelV y u)(f:B7 y=true):eqU x u=eqV y x:=by
 cases y with
 |non=>cases r;rfl
 |bl b=>cases r;rfl
 |int i=>obtain⟨t,rfl⟩:=r;rfl
 |str z=>obtain⟨t,rfl⟩:=r;rfl
 |_=>exact absurd (show false=true from f) jn_
theorem Gu {x:V}:∀{xs:List V} {us:List Value},Vals xs us->xs.all B7=true->us.any (eqU x)=xs.any fun y=>eqV y x
 |_,_,.nil,_=>rfl
 |y::xs,u::us,.cons r t,f=>by
  rw[zj_,qn_]at f
  rw[x2_,x2_,OW r f.1,Gu t f.2]
theorem EK {A:Around}{s:Shared}{x:V}{v:Value}(rx:RelV x v)(fx:B7 x=true):∀{xs:List V} {us:List Value},Vals xs us->xs.all B7=true->∀u∈us,SeqAt.EqAt A s u v (eqU x u)
 |_,_,.nil,_=>fun u hu=>by cases hu
 |y::xs,u::us,.cons r t,f=>fun u' hu=>by
  rw[zj_,qn_]at f
  rcases jJ_.mp hu with rfl|hu
  ·rw[OW r f.1];exact L8 r rx f.1 fx
  ·exact EK rx fx t f.2 u' hu
noncomputable def inV (x:V)(xs:List V):Bool:=xs.any fun y=>eqV y x
noncomputable def rIn (K:α3)(neg:Bool):R2:=fun x y H Q=>∃p xs,y=.ref p/\(SqL K H p xs\/SqT K H p xs)/\B7 x=true/\xs.all B7=true/\Q (.bl (if neg then !inV x xs else inV x xs)) H
theorem Gv:OpR X (compareOp .In) (rIn X.K false):=by
 intro pins s σ H x y v u Q I rx ry h
 obtain⟨p,xs,rfl,hq,fx,fs,q⟩:=h
 cases ry
 rcases hq with hq|hq
 ·obtain⟨its,r,pl,hz⟩:=I.list hq
  refine SeqAt.in_listAt (eqU x) pl.isList (fun w hw=>EK rx fx r fs w (by simpa using hw)) ⟨.bl _,H,I,rfl,?_⟩
  rw[show its.toArray.any (eqU x)=its.any (eqU x) by simp,Gu r fs]
  exact q
 ·obtain⟨its,r,pl,hz⟩:=I.tuple hq
  refine SeqAt.in_tupleAt (eqU x) pl (fun w hw=>EK rx fx r fs w (by simpa using hw)) ⟨.bl _,H,I,rfl,?_⟩
  rw[show its.toArray.any (eqU x)=its.any (eqU x) by simp,Gu r fs]
  exact q
theorem B1:OpR X (compareOp .NotIn) (rIn X.K true):=by
 intro pins s σ H x y v u Q I rx ry h
 obtain⟨p,xs,rfl,hq,fx,fs,q⟩:=h
 cases ry
 rcases hq with hq|hq
 ·obtain⟨its,r,pl,hz⟩:=I.list hq
  refine SeqAt.notIn_listAt (eqU x) pl.isList (fun w hw=>EK rx fx r fs w (by simpa using hw)) ⟨.bl _,H,I,rfl,?_⟩
  rw[show its.toArray.any (eqU x)=its.any (eqU x) by simp,Gu r fs]
  exact q
 ·obtain⟨its,r,pl,hz⟩:=I.tuple hq
  refine SeqAt.notIn_tupleAt (eqU x) pl (fun w hw=>EK rx fx r fs w (by simpa using hw)) ⟨.bl _,H,I,rfl,?_⟩
  rw[show its.toArray.any (eqU x)=its.any (eqU x) by simp,Gu r fs]
  exact q
theorem Ai:Dk X (.builtin "len") (fun xs H Q=>∃p ys,xs=[.ref p]/\(SqL X.K H p ys\/SqT X.K H p ys)/\Q (.int ys.length) H):=by
 intro pins s σ H xs us Q I r h
 obtain⟨p,ys,rfl,hq,q⟩:=h
 obtain⟨u,rfl,rx⟩:=vals1 r
 cases rx
 have hn:=Kl
 rcases hq with hq|hq
 ·obtain⟨its,r',pl,hz⟩:=I.list hq
  have hlen:=r'.length
  exact Calls.call_len_list pl.isList (by simp only[ji_]<;>lia) ⟨.int ys.length,H,I.tok _,⟨s.toks+1,by rw[ji_,hlen]⟩,q⟩
 ·obtain⟨its,r',pl,hz⟩:=I.tuple hq
  have hlen:=r'.length
  exact len_tuple pl (by simp only[ji_]<;>lia) ⟨.int ys.length,H,I.tok _,⟨s.toks+1,by rw[ji_,hlen]⟩,q⟩
theorem CP:Dk X (.type "list") (fun xs H Q=>∃p ys,xs=[.ref p]/\(SqL X.K H p ys\/SqT X.K H p ys)/\∀l,H l=none->Q (.ref l) (upd H l (.lst ys))):=by
 intro pins s σ H xs us Q I r h
 obtain⟨p,ys,rfl,hq,q⟩:=h
 obtain⟨u,rfl,rx⟩:=vals1 r
 cases rx
 have fin:∀(its:List Value),Vals ys its->ys.length<=sizeLine->∀(h':Heap) (c':Nat),(∀b o',s.heap.get? b=some o'->h'.get? b=some o') ->
   h'.get? s.heap.objs.size=some {cls:=.type "list",dict:=none,data:=.seq its.toArray c',slots := #[]}->EP X pins σ Q (.ref s.heap.objs.size) {s with heap:=h' }:=fun its r' hz h' c' kp e=>
  ⟨.ref s.heap.objs.size,_,I.laid (t':=s.toks) kp (jh_ _) (show AX X.prog X.w _ h' _ (.lst ys) from ⟨hz,its,c',r',e⟩),rfl,q _ (I.hok.fresh (jh_ _))⟩
 rcases hq with hq|hq
 ·obtain⟨its,r',pl,hz⟩:=I.list hq
  have hlen:=r'.length
  obtain⟨o,ho,hc,n,hd⟩:=pl.isList
  exact call_list_seq p (.inl rfl) ho hc hd (fun h' c' kp e=>fin its r' hz h' c' kp e) (by simp only[ji_]<;>lia)
 ·obtain⟨its,r',pl,hz⟩:=I.tuple hq
  have hlen:=r'.length
  obtain⟨o,ho,hc,n,hd⟩:=pl
  exact call_list_seq p (.inr rfl) ho hc hd (fun h' c' kp e=>fin its r' hz h' c' kp e) (by simp only[ji_]<;>lia)
theorem HV:Dk X (.type "tuple") (fun xs H Q=>∃p ys,xs=[.ref p]/\((SqL X.K H p ys/\∀l,H l=none->Q (.ref l) (upd H l (.tup ys)))\/(SqT X.K H p ys/\Q (.ref p) H))):=by
 intro pins s σ H xs us Q I r h
 obtain⟨p,ys,rfl,h⟩:=h
 obtain⟨u,rfl,rx⟩:=vals1 r
 cases rx
 rcases h with ⟨hq,q⟩|⟨hq,q⟩
 ·obtain⟨its,r',pl,hz⟩:=I.list hq
  have hlen:=r'.length
  refine call_tuple_list pl.isList (fun h' kp=>?_) (by simp only[ji_]<;>lia)
  have I1:Inv X pins σ H {s with heap:=h' }:=I.kept (t':=s.toks) kp
  have I2:Inv X pins σ (upd H h'.objs.size (.tup ys)) {s with heap:=h'.push {cls:=.type "tuple",data:=.seq its.toArray} }:=
   I1.laid (t':=s.toks) (fun b o e=>jm_ _ e) (jh_ _) (show AX X.prog X.w _ _ _ (.tup ys) from ⟨hz,its,r',IsTup.new _ _⟩)
  exact⟨.ref h'.objs.size,_,I2,rfl,q _ (I1.hok.fresh (jh_ _))⟩
 ·obtain⟨its,r',pl,hz⟩:=I.tuple hq
  exact call_tuple_same pl ⟨.ref p,H,I,rfl,q⟩
noncomputable def tyV (K:α3)(T:String)(x:V)(H:Hp):Prop:=match x with
 |.str _=>T = "str"
 |.int _=>T = "int"
 |.ref p=>(T = "list" /\ ∃xs,SqL K H p xs)\/(T = "tuple" /\ ∃o,K.lookup p=some o/\o.cls=.type "tuple" /\ o.dict=none) \/
   (T = "dict" /\ ((∃kvs,H p=some (.dK kvs)) \/ ∃kvs,H p=some (.dT kvs)))\/(T = "set" /\ ∃S n,H p=some (.set S n))
 |_=>False
theorem OX        (I:Inv X pins σ H s)(r:RelV x v)(ty:tyV X.K T x H):
  s.TypeIs v T/\∀a,v=.ref a->∃ob,s.heap.get? a=some ob/\ob.dict=none:=by
 cases x with
 |str z=>
  obtain⟨t,rfl⟩:=r
  cases (show T = "str" from ty)
  exact⟨typeIs_str s z t,fun _ e=>nomatch e⟩
 |int i=>
  obtain⟨t,rfl⟩:=r
  cases (show T = "int" from ty)
  exact⟨typeIs_int s i t,fun _ e=>nomatch e⟩
 |ref p=>
  cases r
  rcases ty with ⟨rfl,xs,hq⟩|⟨rfl,o,hk,hc,hd⟩|⟨rfl,hk⟩|⟨rfl,S,n,hk⟩
  ·obtain⟨its,_,pl,_⟩:=I.list hq
   refine⟨pl.isList.typeIs,fun a e=>?_⟩
   cases e
   obtain⟨o,n,e,c,hd,_⟩:=pl
   exact⟨o,e,hd⟩
  ·refine⟨⟨o,I.kIn p o hk,hc⟩,fun a e=>?_⟩
   cases e
   exact⟨o,I.kIn _ o hk,hd⟩
  ·have z:∃o,s.heap.get? p=some o/\o.ExactDict:=by
    rcases hk with ⟨kvs,hk⟩|⟨kvs,hk⟩
    ·obtain⟨_,_,_,_,o,_,_,e,ex,_⟩:=I.hok p _ hk
     exact⟨o,e,ex⟩
    ·obtain⟨_,_,_,_,o,_,_,e,ex,_⟩:=I.hok p _ hk
     exact⟨o,e,ex⟩
   obtain⟨o,e,ex⟩:=z
   refine⟨⟨o,e,ex.1⟩,fun a e2=>?_⟩
   cases e2
   exact⟨o,e,ex.2.1⟩
  ·obtain⟨o,_,_,_,e,ex,_⟩:=I.hok p _ hk
   refine⟨⟨o,e,ex.1⟩,fun a e2=>?_⟩
   cases e2
   exact⟨o,e,ex.2.1⟩
 |_=>exact False.elim ty
noncomputable def tBM0 (K:α3)(T:String)(r:V->List V->Hp->VK->Prop)(to:TE):TE:=fun σ H Q=>to σ H fun x H1=>tyV K T x H1/\r x [] H1 Q
noncomputable def tBM (K:α3)(T:String)(r:V->List V->Hp->VK->Prop)(to:TE)(t:TA):TE:=fun σ H Q=>to σ H fun x H1=>tyV K T x H1/\t σ H1 fun xs H2=>r x xs H2 Q
variable {o e:Expr} {es:List Expr} {to:TE} {t:TA} {name:Str} {apos cpos:Pos} {T id:String} {r:V->List V->Hp->VK->Prop}
theorem L9 (pa:PlainAttrs T)(slot:Slot T name id)(hty:typeOf (.builtin id)=pure (.type "method_descriptor"))(hm:MtR X id r)(ho:PE X o to)
  (hbase:attributeBase o name X.env (eval o X.env)=eval o X.env:=by rfl) (hline:(apos.endLine==cpos.line)=true:=by rfl):PE X (.Call (.Attribute o name apos) [] [] cpos) (tBM0 X.K T r to):=by
 intro pins s σ H Q I h
 refine wpAny_Call_method0_late hbase hline (thn (ho pins s σ H _ I h) fun v s1 ⟨x,H1,I1,r1,ty,q1⟩=>?_)
 obtain⟨h1,h2⟩:=OX I1 r1 ty
 exact⟨T,id,pa,slot,hty,h1,h2,Calls.callWith_builtin rfl (PySem.evalArgs_none (hm pins s1 σ H1 x [] v [] Q I1 r1 .nil q1))⟩
theorem B2 (pa:PlainAttrs T)(slot:Slot T name id)(hty:typeOf (.builtin id)=pure (.type "method_descriptor"))(hm:MtR X id r)(ho:PE X o to)(ha:PA X (e::es) t)
  (hbase:attributeBase o name X.env (eval o X.env)=eval o X.env:=by rfl)
  (hfew:((backTo cpos (starEach (e::es) X.env)).all (fun x => !x.1)&&(backToKw cpos (keywordEach [] X.env)).all (fun x=>x.1.isSome)
   && decide ((e::es).length+([]:List Keyword).length+(if ([]:List Keyword).isEmpty then 0 else 1)<30))=true:=by rfl)
  (hline:(apos.endLine==cpos.line)=true:=by rfl) (hs:starEach (e::es) X.env=(false,eval e X.env)::starEach es X.env:=by rfl) (hplain:(backTo cpos (starEach es X.env)).any (·.1)=false:=by rfl):
  PE X (.Call (.Attribute o name apos) (e::es) [] cpos) (tBM X.K T r to t):=by
 intro pins s σ H Q I h
 refine wpAny_Call_method_late hbase hfew hline rfl (thn (ho pins s σ H _ I h) fun v s1 ⟨x,H1,I1,r1,ty,q1⟩=>?_)
 obtain⟨h1,h2⟩:=OX I1 r1 ty
 refine⟨T,id,pa,slot,hty,h1,h2,?_⟩
 have hA:=ha cpos pins s1 σ H1 _ I1 q1
 rw[hs]at hA ⊢
 refine Calls.callWith_builtin (by show (false||(backTo cpos (starEach es X.env)).any (·.1))=false;rw[hplain]<;>rfl) (Calls.evalArgs_plain ?_)
 exact thn hA fun us s2 ⟨vs,H2,I2,r2,q2⟩=>hm pins s2 σ H2 x vs v us Q I2 r1 r2 q2
/- xs.append(e),list.index on a module's tuple .. are MtR facts of 06m -/
end
end L2
namespace L2
open PySem PySem.Spec PyProof.Rows
noncomputable def MtM (X:Cx)(id:String)(r:V->List V->Hp->VK->Prop):Prop:=
 ∀(pins:α7) (s:Shared) (σ:St) (H:Hp) (x:V) (xs:List V) (v:Value) (us:List Value) (Q:VK),Inv X pins σ H s->RelV x v->Vals xs us->r x xs H Q ->
  wpAny (model X.prog X.w) X.A (call (.builtin id) (v::us)) (EP X pins σ Q) X.xe s
theorem Vals.one:∀{x:V} {us:List Value},Vals [x] us->∃u,us=[u]/\RelV x u
 |_,_,.cons r .nil=>⟨_,rfl,r⟩
theorem Vals.zero:∀{us:List Value},Vals [] us->us=[]
 |_,.nil=>rfl
theorem Vals.dropLast   (h:Vals xs us):Vals xs.dropLast us.dropLast:=by
 induction h with
 |nil=>exact .nil
 |cons r t ih=>
  cases t with
  |nil=>exact .nil
  |cons q t'=>exact .cons r ih
theorem Vals.reverse   (h:Vals xs us):Vals xs.reverse us.reverse:=by
 induction h with
 |nil=>exact .nil
 |cons r t ih=>rw[qu_,qu_];exact Vals.append ih (.cons r .nil)
theorem Vals.rep {xs:List V}{us:List Value}(h:Vals xs us):∀k:Nat,Vals (List.replicate k xs).flatten (List.replicate k us).flatten
 |0=>.nil
 |k+1=>by
  rw[qy_,qy_,xm_,xm_]
  exact Vals.append h (Vals.rep h k)
theorem Li {α:Type}(l:List α):l.eraseIdx (l.length-1)=l.dropLast:=by
 induction l with
 |nil=>rfl
 |cons a r ih=>
  cases r with
  |nil=>rfl
  |cons b r=>
   have e:(a::b::r).length-1=((b::r).length-1)+1:=by
    have h1:(a::b::r).length=r.length+2:=rfl
    have h2:(b::r).length=r.length+1:=rfl
    lia
   rw[e,List.eraseIdx_cons_succ,ih]
   all_goals rfl
theorem foldl_rep (its:List Value):∀(k:Nat) (acc:List Value),
  List.foldl (fun x1 x2=>x1++x2) acc.toArray (List.replicate k its.toArray)=(acc++(List.replicate k its).flatten).toArray
 |0,acc=>by simp
 |k+1,acc=>by
  have e:acc.toArray++its.toArray=(acc++its).toArray:=by simp
  have e2:(acc++its)++(List.replicate k its).flatten=acc++(List.replicate (k+1) its).flatten:=by
   rw[qy_,xm_,jX_]
  rw[<-e2,<-foldl_rep its k (acc++its),<-e,qy_,qo_]
section
variable {X:Cx} {pins:α7} {σ:St} {H:Hp} {s:Shared} {l b:Addr} {xs ys zs:List V}
theorem Inv.lset {its its':List Value}    (I:Inv X pins σ H s)(hH:H l=some (.lst xs))
  (e:s.heap.get? l=some {cls:=.type "list",data:=.seq its.toArray n}) (hf:f its.toArray=its'.toArray) (hv:Vals ys its') (hz:ys.length<=sizeLine):
  Inv X pins σ (upd H l (.lst ys)) {s with heap:=s.heap.update l (Obj.mapSeq f),toks:=t' }:=by
 have q:=PySem.IsL.update e f
 rw[hf]at q
 refine I.write (x:=l) (e:=l) (by rw[hH];exact trivial) (.inl rfl) (fun b' u hb hu=>(j9_ s.heap (Obj.mapSeq f) (qf_ hb)).trans hu) ⟨_,q⟩ ?_
 exact⟨hz,its',_,hv,q⟩
theorem Inv.lnew {its:List Value}  (I:Inv X pins σ H s)(hv:Vals ys its)(hz:ys.length<=sizeLine):
  Inv X pins σ (upd H s.heap.objs.size (.lst ys)) {s with heap:=s.heap.push {cls:=.type "list",data:=.seq its.toArray},toks:=t' }:=
 I.laid (fun _ _ q=>jm_ _ q) (jh_ _) ⟨hz,its,0,hv,jE_ _ rfl⟩
theorem Inv.fresh (I:Inv X pins σ H s):H s.heap.objs.size=none:=I.hok.fresh (jh_ _)
theorem Inv.lstM (I:Inv X pins σ H s)(hH:H l=some (.lst xs)):xs.length<=sizeLine/\∃(its:List Value) (n:Nat),Vals xs its/\xs.length=its.length/\s.heap.get? l=some {cls:=.type "list",data:=.seq its.toArray n}:=by
 obtain⟨z,its,n,r,e⟩:=I.hok l _ hH
 exact⟨z,its,n,r,r.length,e⟩
theorem HW  (h:n<=sizeLine):Builtin.List.listTooLong n=false:=by
 unfold Builtin.List.listTooLong
 exact j3_ s!""
end
section
variable {X:Cx}
noncomputable def Ma:V->List V->Hp->VK->Prop:=fun x vs H Q=>∃l xs y,x=.ref l/\vs=[y]/\H l=some (.lst xs)/\xs.length<sizeLine/\Q .non (upd H l (.lst (xs++[y])))
theorem AA:MtM X "list.append" Ma:=by
 intro pins s σ H x vs v us Q I rx rv h
 obtain⟨l,xs,y,rfl,rfl,hH,hz,q⟩:=h
 cases rx
 obtain⟨u,rfl,ru⟩:=rv.one
 obtain⟨z,its,n,r,hl,e⟩:=I.lstM hH
 refine xf_ F.slot_list_append ⟨_,e,rfl⟩ F.entry_list_append (F.args_list_append_2 _ _) (PySem.list_append l its.toArray n u (by rw[ji_];lia)) ⟨e,?_⟩
 refine⟨.non,_,I.lset (its':=its++[u]) hH e (by simp) (r.append (.cons ru .nil)) ?_,rfl,q⟩
 rw[jf_,jq_]
 lia
noncomputable def Mb:V->List V->Hp->VK->Prop:=fun x vs H Q=>∃l b xs zs,x=.ref l/\vs=[.ref b]/\H l=some (.lst xs)/\H b=some (.lst zs)/\xs.length+zs.length<=sizeLine/\Q .non (upd H l (.lst (xs++zs)))
theorem Mc:MtM X "list.extend" Mb:=by
 intro pins s σ H x vs v us Q I rx rv h
 obtain⟨l,b,xs,zs,rfl,rfl,hH,hB,hz,q⟩:=h
 cases rx
 obtain⟨u,rfl,ru⟩:=rv.one
 cases ru
 obtain⟨z,its,n,r,hl,e⟩:=I.lstM hH
 obtain⟨z2,its2,n2,r2,hl2,e2⟩:=I.lstM hB
 have hsz:its.toArray.size+its2.toArray.size<=sizeLine:=by rw[ji_,ji_];lia
 have hlong:¬ (!its.toArray.isEmpty&&Builtin.List.listTooLong (its.toArray.size+its2.toArray.size))=true:=by
  rw[HW hsz,Bool.and_false]
  exact jn_
 refine xf_ F.slot_list_extend ⟨_,e,rfl⟩ F.entry_list_extend (F.args_list_extend_2 _ _)
  (AutoSeq1.list_extend_list_list_0 l its.toArray n b its2.toArray n2 hlong (by rw[ji_];lia) s!"") ⟨e,e2,?_⟩
 refine⟨.non,_,I.lset (its':=its++its2) hH e (by simp) (r.append r2) ?_,rfl,q⟩
 rw[jf_]
 lia
noncomputable def rPop:V->List V->Hp->VK->Prop:=fun x vs H Q=>∃l xs y,x=.ref l/\vs=[]/\H l=some (.lst xs)/\xs[xs.length-1]?=some y/\Q y (upd H l (.lst xs.dropLast))
theorem Md:MtM X "list.pop" rPop:=by
 intro pins s σ H x vs v us Q I rx rv h
 obtain⟨l,xs,y,rfl,rfl,hH,hy,q⟩:=h
 cases rx
 have hus:=rv.zero
 subst hus
 obtain⟨z,its,n,r,hl,e⟩:=I.lstM hH
 obtain⟨u,hu,ru⟩:=r.get hy
 have hy':its.toArray[its.toArray.size-1]?=some u:=by
  show its.toArray[its.length-1]?=some u
  rw[<-Array.getElem?_toList,<-hl]
  exact hu
 refine xf_ F.slot_list_pop ⟨_,e,rfl⟩ F.entry_list_pop (F.args_list_pop_1 _) (MeetsSeq.list_pop_last l its.toArray n u hy' (by rw[ji_];lia)) ⟨e,?_⟩
 refine⟨y,_,I.lset (its':=its.dropLast) hH e ?_ r.dropLast ?_,ru,q⟩
 ·show its.toArray.eraseIdxIfInBounds (its.toArray.size-1)=its.dropLast.toArray
  rw[ji_,List.eraseIdxIfInBounds_toArray,Li]
 ·rw[x1_]
  lia
noncomputable def rCat:R2:=fun x y H Q=>∃l b xs zs,x=.ref l/\y=.ref b/\H l=some (.lst xs)/\H b=some (.lst zs)/\xs.length+zs.length<=sizeLine/\∀p,H p=none->Q (.ref p) (upd H p (.lst (xs++zs)))
theorem RP:OpR X (binaryOp .Add) rCat:=by
 intro pins s σ H x y v u Q I rx ry h
 obtain⟨l,b,xs,zs,rfl,rfl,hH,hB,hz,q⟩:=h
 cases rx
 cases ry
 obtain⟨z,its,n,r,hl,e⟩:=I.lstM hH
 obtain⟨z2,its2,n2,r2,hl2,e2⟩:=I.lstM hB
 refine PySem.P.add_list e e2 ?_ (by rw[ji_,ji_];lia)
 have ea:its.toArray++its2.toArray=(its++its2).toArray:=by simp
 rw[ea]
 exact⟨.ref _,_,I.lnew (t':=s.toks) (r.append r2) (by rw[jf_];lia),rfl,q _ I.fresh⟩
noncomputable def rRep:R2:=fun x y H Q=>∃l k xs,x=.ref l/\y=.int k/\H l=some (.lst xs) /\ -(2 ^ 63)<=k/\k<2 ^ 63/\xs.length*k.toNat<=sizeLine /\
 ∀p,H p=none->Q (.ref p) (upd H p (.lst (List.replicate k.toNat xs).flatten))
theorem len_rep {α:Type}(xs:List α)(k:Nat):(List.replicate k xs).flatten.length=k*xs.length:=by
 induction k with
 |zero=>simp
 |succ k ih=>rw[qy_,xm_,jf_,ih,Nat.succ_mul,Nat.add_comm]
theorem Ja:OpR X (binaryOp .Mult) rRep:=by
 intro pins s σ H x y v u Q I rx ry h
 obtain⟨l,k,xs,rfl,rfl,hH,h1,h2,hz,q⟩:=h
 cases rx
 obtain⟨t,rfl⟩:=ry
 obtain⟨z,its,n,r,hl,e⟩:=I.lstM hH
 have hlen:its.toArray.size*k.toNat<=sizeLine:=by rw[ji_,<-hl];exact hz
 have hcap:¬ its.toArray.size*k.toNat > (2 ^ 63-1) / 8:=by
  have:(sizeLine:Nat)<=(2 ^ 63-1) / 8:=by decide
  lia
 have hfit:¬ (!Builtin.List.listFitsIndex k)=true:=by
  rw[fitsIndex_both h1 h2]
  exact jn_
 have hlong:¬ Builtin.List.listTooLong (its.toArray.size*k.toNat)=true:=by
  rw[HW hlen]
  exact jn_
 have hnew:List.foldl (fun x1 x2=>x1++x2) #[] (List.replicate (if its.toArray.isEmpty=true then 0 else k.toNat) its.toArray)=(List.replicate k.toNat its).flatten.toArray:=by
  have f0:∀m:Nat,List.foldl (fun x1 x2=>x1++x2) #[] (List.replicate m its.toArray)=(List.replicate m its).flatten.toArray:=fun m=>by
   have:=foldl_rep its m []
   rw[qw_]at this
   exact this
  rw[f0]
  cases its with
  |nil=>simp
  |cons a r'=>rw[if_neg (by simp)]
 refine wpAny_binaryOp_repeat_ref (T := "list") (U := "int") (by decide) ⟨_,e,rfl⟩ (fun s'=>typeIs_int s' k t) noFill_list_mul F.fills_int_mul x7_ repeat_list F.slot_int_index.lookup
  (xf_ x7_ (typeIs_int s k t) F.entry_int_rmul (F.args_int_rmul_2 _ _) (int___rmul___int_list k t l its.toArray n)
   ⟨e,rfl,⟨_,e,rfl⟩,xf_ F.slot_list_mul ⟨_,e,rfl⟩ F.entry_list_mul (F.args_list_mul_2 _ _) (AutoListH.list___mul___list_int_3 l its.toArray n k t hfit hcap hlong) ⟨e,?_⟩⟩)
 rw[hnew]
 exact⟨.ref _,_,I.lnew (t':=s.toks) (r.rep k.toNat) (by rw[len_rep,Nat.mul_comm];exact hz),rfl,q _ I.fresh⟩
end
end L2
namespace Att
open PySem PySem.W PySem.Calls PyProof.Rows
theorem Gw   : ∀(ns:α2) (vs:List Value),WellAll P h vs (ns.map WData.int)->IntsAre vs ns:=by
 intro ns
 induction ns with
 |nil=>
  intro vs w
  rw[xA_]at w
  cases w
  exact .nil
 |cons n ns ih=>
  intro vs w
  rw[jS_]at w
  cases w with
  |cons a b=>
   cases a
   exact .cons _ _ (ih _ b)
theorem Me {l:OpenLaw}{n:Nat}(hn:l.most=some n){P:Params}{h:Heap}{args:List WData}{vals:List Value}
  (hpre:l.row.toRowW.claim.pre args=true) (hwl:WellAll P h vals args):
  ∃a vs ns,vals=[Value.ref a]/\args=[WData.list (ns.map WData.int)]/\h.get? a=some {cls:=.type "list",data:=.seq vs.toArray}/\IntsAre vs ns/\ns.length<=n:=by
 have hsh:WShape.hasAll [] args [.list .int]=true:=(pre_splitW hpre).1
 have hc:l.pre.holds [] {args:=args}=true:=(pre_splitW hpre).2
 obtain⟨d,r,rfl,h1,h2⟩:=hasAllW_cons hsh
 obtain rfl:=hasAllW_nil h2
 obtain⟨xs,rfl,h3⟩:=hasW_list h1
 obtain⟨ns,rfl⟩:=items_int h3
 have hlen:ns.length<=n:=by
  unfold OpenLaw.pre at hc
  have h4:(WTm.not (.lt (.lit (.int (n:Int))) (.len (.arg 0)))).holds [] {args:=[.list (ns.map .int)]}=true:=by
   have h4:=(holds_andW hc).1
   rw[hn]at h4
   exact h4
  have h5:=condW_of h4 (w_not (w_lt w_lit (w_len_list (w_arg rfl))))
  rw[jd_]at h5
  refine Nat.le_of_not_lt fun q=>?_
  have q':(n:Int)<((ns.length:Nat):Int):=by lia
  first
   | (rw[qv_ q']at h5;exact absurd h5 (by decide))
   | (simp at h5;lia)
 cases hwl with
 |cons w1 w2=>
  cases w2
  cases w1 with
  |list ho hall=>exact⟨_,_,ns,rfl,rfl,ho,Gw ns _ hall,hlen⟩
theorem Mf (l:OpenLaw)(args:List WData):l.row.toRowW.claim.post args (.bool true) args=true:=
 postW_of (r:=l.row.toRowW) (X:=(true==true))
  (show WShape.has [] (.bool true) .bool=true by first|rfl|decide|simp[WShape.has,WShape.arms,WShape.armsAll])
  (show (WTm.eq .res (.lit (.bool true))).value [] {args:=args,res:=some (.bool true),after:=args}=some (.bool (true==true)) from w_eq_bool (w_res rfl) w_lit) rfl
theorem attach_call {l:OpenLaw}{n:Nat}{q:Program}{loose:List Str}{XP:(Str->α5)->Heap->Prop}{YP:World->Heap->Prop}{d:DefRec}
  (hn:l.most=some n) (hdf:d.params.defaults=[])
  (call:∀(w:World) (s₀ s₁:Shared) (mg mb:Str->α5) (fa:Addr) (o:Obj) (pm cd doc:Value) (a:Addr) (vs:List Value) (ns:α2),
   Ground q loose [] XP w s₀ mg mb s₁.heap->YP w s₁.heap ->
   s₁.heap.get? fa=some o->o.data=.func (docDef d.name d.params d.body d.scope pm cd doc)->s₁.heap.CodeRec cd d.name->mg d.name=some (.ref fa) ->
   s₁.heap.get? a=some {cls:=.type "list",data:=.seq vs.toArray}->IntsAre vs ns->ns.length<=n->s₁.gens = #[] ->
   codeAny (model l.prog w) callerA (.call (.ref fa) ⟨[.ref a],[]⟩) (fun r s'=>r=.ok (.ret (.bool true))/\OldK s₁.heap s'.heap/\s'.os=s₁.os/\AllBare s'.gens) s₁):
  WalkO q loose XP YP l.row.toRowW d [] (fun f vs=>PySem.call f vs):=by
 intro w s₀ s₁ mg mb G Y fa o pm cd doc dV kV ho hd hcd hD hmg hg args vals as hpre hlay hrd hwl hlo
 obtain rfl:dV=.none:=Dflts.none hD hdf
 obtain rfl:kV=.none:=Dflts.noKw hD
 obtain⟨a,vs,ns,rfl,rfl,hobj,hints,hlen⟩:=Me hn hpre hwl
 refine enter_call (xR_ (call w s₀ s₁ mg mb fa o pm cd doc a vs ns G Y ho (fd_plain hd) hcd hmg hobj hints hlen hg) fun r s' hq=>?_)
 obtain⟨rfl,h2,h3,h4⟩:=hq
 exact⟨.inl ⟨.bool true,.bool true,[],rfl,fun _=>rfl,.bool true,Mf l _,fun _=>⟨List.Pairwise.nil,fun _ hm=>(nomatch hm)⟩⟩,h2,h3,h4⟩
end Att
namespace L2
open PySem PySem.Spec PyProof.Rows
theorem Jb:∀{vs:List Value} {ns:α2},IntsAre vs ns->Vals (ns.map V.int) vs
 |_,_,.nil=>.nil
 |_,_,.cons n t h=>.cons ⟨t,rfl⟩ (Jb h)
noncomputable def C4 (s:Stmt):Arguments:=match s with
 |.FunctionDef _ a _ _ _ _ _ _ _ _=>a
 |_=>{posonlyargs:=[],args:=[],vararg:=none,kwonlyargs:=[],kw_defaults:=[],kwarg:=none,defaults:=[]}
noncomputable def BU (s:Stmt):List Stmt:=match s with
 |.FunctionDef _ _ b _ _ _ _ _ _ _=>b
 |_=>[]
noncomputable def Ao (s:Stmt):Scope:=match s with
 |.FunctionDef _ _ _ _ _ _ sc _ _ _=>sc
 |_=>{kind:=.function,names:=[],isGenerator:=false,isCoroutine:=false}
noncomputable abbrev CX0:CXT:=fun _ _ _ _ _ _=>False
noncomputable abbrev E0:XK:=fun _ _ _=>False
theorem AF  : IU CX0 X E0:=fun _ _ _ _ _ _ _ h=>h.elim
structure Fun (K:α3)(x qual:Str)(st:Stmt)(f:Addr)(fd:α6):Prop where
 ex:∃(oc:Value) (od:Option Addr) (kV doc pm:Value) (an:Option Addr) (cdv ct:Value) (osl:Array (α5)),
  fd=fnOf x qual (C4 st) (BU st) (Ao st) .none kV doc pm an cdv ct/\K.lookup f=some ⟨oc,od,.func fd,osl⟩/\codeIn K cdv qual=true
 kp:keepIn K (.ref f)=true
section
variable {P:Program} {w:World} {K:α3} {mg:Str->α5} {base:Heap}
theorem Fun.ok  {st:Stmt}      (F:Fun K x qual st f fd)(S:FnScope N ps (Ao st))(len:∀vs H Q E,sp vs H Q E->vs.length=ps.length)
  (hbody:∀(cdv:Value) (A:Around) (outer:List Env) (s:Shared) (H:Hp) (vs:List V) (Q:VK) (E:XK),Room k (A.deeper (envOfC qual (Ao st) s.heap.objs.size f cdv))->sp vs H Q E ->
   ∃t,PSs (cxOf CX0 P w K mg base N qual (Ao st) f cdv A outer s H E).nox (BU st) t/\t {nx:=fun _ H'=>Q .non H',rt:=Q} (start N vs) H):FnOk P w K mg base CX0 (k+1) f fd ps sp:=by
 obtain⟨oc,od,kV,doc,pm,an,cdv,ct,osl,rfl,lk,hcd⟩:=F.ex
 refine Qs lk hcd S len fun A outer s H vs Q E hr hsp=>?_
 obtain⟨t,h,q⟩:=hbody cdv A outer s H vs Q E hr hsp
 exact⟨t,h.nox,q⟩
theorem Fun.binds  {st:Stmt}    (F:Fun K x qual st f fd)
  (h:∀(kV doc pm:Value) (an:Option Addr) (cdv ct:Value) (us:List Value),us.length=ps.length->bindArgs (fnOf x qual (C4 st) (BU st) (Ao st) .none kV doc pm an cdv ct) ⟨us,[]⟩=pure (ps.zip us)):IT K fd ps []:=by
 obtain⟨oc,od,kV,doc,pm,an,cdv,ct,osl,rfl,lk,hcd⟩:=F.ex
 exact .all (h kV doc pm an cdv ct)
theorem fun_mk  {st:Stmt}     {kV doc pm cdv ct:Value}(l:K.lookup f=some ⟨oc,od,.func (fnOf x qual (C4 st) (BU st) (Ao st) .none kV doc pm an cdv ct),osl⟩)
  (c:codeIn K cdv qual=true) (k:keepIn K (.ref f)=true):Fun K x qual st f (fnOf x qual (C4 st) (BU st) (Ao st) .none kV doc pm an cdv ct):=⟨⟨oc,od,kV,doc,pm,an,cdv,ct,osl,rfl,l,c⟩,k⟩
end
theorem Gz   (hr:Room k A):A.units+1<cLine:=Nat.lt_of_le_of_lt (Nat.add_le_add_left (by decide:1<=64) _) hr.units
section
variable {X:Cx}
theorem pv (i:Nat)   (hN:X.N[i]?=some x:=by rfl)(hv:Vis X.env.scope x:=by first|exact Or.inl rfl|exact Or.inr (Or.inl rfl)|exact Or.inr (Or.inr rfl))(hd:(x==("__debug__" : Str))=false:=by decide)
  (hcd:(x==("__classdict__" : Str))=false:=by decide):PE X (.Name x pos) (tVar i):=Ru hN hv hd hcd
end
theorem ite2 {c A B:Prop}[Decidable c](h1:c->A)(h2:¬ c->B):if c then A else B:=by
 by_cases h:c
 ·rw[if_pos h]
  exact h1 h
 ·rw[if_neg h]
  exact h2 h
noncomputable def Same (H H':Hp):Prop:=∀b o,H b=some o->H' b=some o
theorem Same.refl (H:Hp):Same H H:=fun _ _ h=>h
theorem Same.trans {H H1 H2:Hp}(a:Same H H1)(b:Same H1 H2):Same H H2:=fun c o h=>b c o (a c o h)
theorem Same.seq {K:α3}    (e:Same H H')(h:SqL K H a xs):SqL K H' a xs:=by
 rcases h with (h|⟨o,h⟩)|h
 ·exact .inl (.inl (e _ _ h))
 ·exact .inl (.inr ⟨o,e _ _ h⟩)
 ·exact .inr h
end L2
set_option maxHeartbeats 4000000
namespace L2
open PySem PySem.Spec PyProof.Rows
section
variable {κ:Type} [DecidableEq κ]
noncomputable def valV (kvs:List (κ×V))(k:κ):Option V:=(kvs.find? fun kv=>decide (kv.1=k)).map (·.2)
noncomputable def putK (kvs:List (κ×V))(k:κ)(v:V):List (κ×V):=
 if (kvs.any fun kv=>decide (kv.1=k))=true then kvs.map (fun kv=>if kv.1=k then (kv.1,v) else kv) else kvs++[(k,v)]
theorem BA {p:κ×V}{r:List (κ×V)}{k:κ}(e:p.1=k):valV (p::r) k=some p.2:=by simp[valV,xk_,e]
theorem BB {p:κ×V}{r:List (κ×V)}{k:κ}(e:¬ p.1=k):valV (p::r) k=valV r k:=by simp[valV,xk_,e]
theorem EL (k:κ):∀kvs:List (κ×V),(kvs.any fun kv=>decide (kv.1=k))=(valV kvs k).isSome
 |[]=>rfl
 |p::r=>by
  rw[x2_]
  by_cases e:p.1=k
  ·simp only[BA e,qv_ e,Bool.true_or,Option.isSome_some]
  ·rw[BB e,j3_ e,Bool.false_or];exact EL k r
theorem Kn (k j:κ)(y:V):∀kvs:List (κ×V),valV (kvs.map fun kv=>if kv.1=k then (kv.1,y) else kv) j=(valV kvs j).map fun x=>if j=k then y else x
 |[]=>rfl
 |p::r=>by
  have ih:=Kn k j y r
  rw[jS_]
  by_cases h:p.1=k
  ·rw[if_pos h]
   by_cases e:p.1=j
   ·rw[BA (p:=(p.1,y)) e,BA e,x8_,if_pos (e.symm.trans h)]
   ·rw[BB (p:=(p.1,y)) e,BB e,ih]
  ·rw[if_neg h]
   by_cases e:p.1=j
   ·rw[BA (p:=p) e,BA e,x8_,if_neg (fun z=>h (e.trans z))]
   ·rw[BB (p:=p) e,BB e,ih]
theorem Jc (k j:κ)(y:V):∀kvs:List (κ×V),valV kvs k=none->valV (kvs++[(k,y)]) j=if j=k then some y else valV kvs j
 |[],_=>by
  by_cases e:k=j
  ·rw[if_pos e.symm];exact BA (p:=(k,y)) e
  ·rw[if_neg (fun z=>e z.symm)];exact BB (p:=(k,y)) e
 |p::r,hn=>by
  rw[qb_]
  have hk:¬ p.1=k:=fun z=>by rw[BA z]at hn;cases hn
  rw[BB hk]at hn
  have ih:=Jc k j y r hn
  by_cases e:p.1=j
  ·rw[BA e,BA e,if_neg (fun z=>hk (e.trans z))]
  ·rw[BB e,BB e,ih]
theorem HX (kvs:List (κ×V))(k j:κ)(y:V):valV (putK kvs k y) j=if j=k then some y else valV kvs j:=by
 unfold putK
 by_cases a:(kvs.any fun kv=>decide (kv.1=k))=true
 ·rw[if_pos a,Kn]
  rw[EL]at a
  by_cases e:j=k
  ·obtain⟨x,hx⟩:=q7_.mp a
   rw[if_pos e,e,hx,x8_,if_pos rfl]
  ·rw[if_neg e]
   cases valV kvs j with
   |none=>rfl
   |some x=>rw[x8_,if_neg e]
 ·rw[if_neg a]
  refine Jc k j y kvs ?_
  rw[EL]at a
  cases q:valV kvs k with
  |none=>rfl
  |some x=>rw[q]at a;exact (a rfl).elim
theorem Ex (kvs:List (κ×V))(k:κ)(v:V):(putK kvs k v).length<=kvs.length+1:=by
 unfold putK
 split
 ·rw[jd_];lia
 ·rw[jf_,jR_,q8_];lia
theorem Oa {kvs:List (κ×V)}{k:κ}(v:V)(h:valV kvs k=none):putK kvs k v=kvs++[(k,v)]:=by
 unfold putK
 rw[EL,h]
 exact if_neg (by decide)
theorem RelO.isSome_eq   (r:RelO o u):o.isSome=u.isSome:=by
 cases o with
 |none=>cases u with
  |none=>rfl
  |some _=>exact (show False from r).elim
 |some _=>cases u with
  |none=>exact (show False from r).elim
  |some _=>rfl
theorem KV.val   (r:KV kvs vs)(k:κ):RelO (valV kvs k) (valueAt vs k):=by
 unfold KV at r
 induction r with
 |nil=>exact True.intro
 |@cons p q ps qs h t ih=>
  obtain⟨h1,h2⟩:=h
  by_cases e:p.1=k
  ·have e':q.1=k:=h1.symm.trans e
   have b:valueAt (q::qs) k=some q.2:=by simp[valueAt,xk_,e']
   rw[BA e,b];exact h2
  ·have e':¬ q.1=k:=fun z=>e (h1.trans z)
   have b:valueAt (q::qs) k=valueAt qs k:=by simp[valueAt,xk_,e']
   rw[BB e,b];exact ih
theorem KV.any   (r:KV kvs vs)(k:κ):(kvs.any fun kv=>decide (kv.1=k))=vs.any fun kv=>decide (kv.1=k):=by
 unfold KV at r
 induction r with
 |nil=>rfl
 |cons h t ih=>rw[x2_,x2_,ih,h.1]
theorem KV.repl   (r:KV kvs vs)(k:κ)   (ry:RelV y u):
  KV (kvs.map fun kv=>if kv.1=k then (kv.1,y) else kv) (vs.map fun kv=>if kv.1=k then (kv.1,u) else kv):=by
 unfold KV at r ⊢
 induction r with
 |nil=>exact .nil
 |@cons p q ps qs h t ih=>
  rw[jS_,jS_]
  refine .cons ?_ ih
  obtain⟨h1,h2⟩:=h
  by_cases e:p.1=k
  ·rw[if_pos e,if_pos (h1.symm.trans e)];exact⟨h1,ry⟩
  ·rw[if_neg e,if_neg (fun z=>e (h1.trans z))];exact⟨h1,h2⟩
theorem KV.put   (r:KV kvs vs)(k:κ)   (ry:RelV y u):KV (putK kvs k y) (stored vs k u):=by
 unfold putK stored
 rw[r.any k]
 by_cases e:(vs.any fun kv=>decide (kv.1=k))=true
 ·rw[if_pos e,if_pos e];exact r.repl k ry
 ·rw[if_neg e,if_neg e];exact Paired.snoc r ⟨rfl,ry⟩
theorem KV.keys {kvs:List (κ×V)}{vs:List (κ×Value)}(r:KV kvs vs):kvs.map (·.1)=vs.map (·.1):=by
 unfold KV at r
 induction r with
 |nil=>rfl
 |cons h t ih=>rw[jS_,jS_,ih,h.1]
theorem KV.length {kvs:List (κ×V)}{vs:List (κ×Value)}(r:KV kvs vs):kvs.length=vs.length:=Paired.length r
end
theorem Mg     (r:RelV (kV k) u):(A7 P w).is k u=true:=by
 cases k with
 |inl i=>obtain⟨t,e⟩:=(show ∃t,u=Value.int i t from r);subst e;exact JG P w i t
 |inr x=>obtain⟨t,e⟩:=(show ∃t,u=Value.str x t from r);subst e;exact JH P w x t
theorem Jd {P:Program}{w:World}:∀{ks:List Key} {us:List Value},Vals (ks.map kV) us->ItemsAre (A7 P w) ks us
 |[],_,r=>by rw[xA_]at r;cases r;exact .nil
 |k::ks,_,r=>by
  rw[jS_]at r
  cases r with
  |cons h t=>exact .cons (Mg h) (Jd t)
noncomputable abbrev KT (H:Hp):List (List Key×V)->List (List Key×Addr×Value)->Prop:=Paired fun p q=>p.1=q.1/\H q.2.1=some (.tup (p.1.map kV))/\RelV p.2 q.2.2
theorem KT.val    (r:KT H kvs xs)(k:List Key):RelO (valV kvs k) ((atKey xs k).map (·.2)):=by
 induction r with
 |nil=>exact True.intro
 |@cons p q ps qs h t ih=>
  obtain⟨h1,_,h2⟩:=h
  by_cases e:p.1=k
  ·have e':q.1=k:=h1.symm.trans e
   have b:atKey (q::qs) k=some q.2:=by simp[atKey,xk_,e']
   rw[BA e,b];exact h2
  ·have e':¬ q.1=k:=fun z=>e (h1.trans z)
   have b:atKey (q::qs) k=atKey qs k:=by simp[atKey,xk_,e']
   rw[BB e,b];exact ih
theorem KT.repl    (r:KT H kvs xs)(k:List Key)   (ry:RelV y u):
  KT H (kvs.map fun kv=>if kv.1=k then (kv.1,y) else kv) (xs.map (putAt k u)):=by
 induction r with
 |nil=>exact .nil
 |@cons p q ps qs h t ih=>
  rw[jS_,jS_]
  refine .cons ?_ ih
  obtain⟨h1,h2,h3⟩:=h
  unfold putAt
  by_cases e:p.1=k
  ·rw[if_pos e,if_pos (h1.symm.trans e)];exact⟨h1,h2,ry⟩
  ·rw[if_neg e,if_neg (fun z=>e (h1.trans z))];exact⟨h1,h2,h3⟩
theorem KT.put    (r:KT H kvs xs)(k:List Key)    (hb:H b=some (.tup (k.map kV)))(ry:RelV y u):
  KT H (putK kvs k y) (storedH xs k b u):=by
 have e:(kvs.any fun kv=>decide (kv.1=k))=(atKey xs k).isSome:=by
  rw[EL,(r.val k).isSome_eq,Option.isSome_map]
 unfold putK storedH
 rw[e]
 by_cases q:(atKey xs k).isSome=true
 ·rw[if_pos q,if_pos q];exact r.repl k ry
 ·rw[if_neg q,if_neg q];exact Paired.snoc r ⟨rfl,hb,ry⟩
theorem KT.keeps    (r:KT H kvs xs)(ht:∀b ys,H b=some (.tup ys)->H' b=some (.tup ys)):KT H' kvs xs:=
 Paired.mapP r fun _ _ z=>⟨z.1,ht _ _ z.2.1,z.2.2⟩
section
variable {P:Program} {w:World} {H:Hp} {h:Heap} {a:Addr}
theorem Qv  (ok:HOk P w H h)(e:Rd H a u):AX P w H h a u:=e.ok ok
theorem Mh  (ok:HOk P w H h)(e:Rd H a (.dK kvs)):kvs.length<=sizeLine/\(a==sysModules)=false/\∃vs,KV kvs vs/\h.DictOf (A7 P w) a vs:=
 show AX P w H h a (.dK kvs) from Qv ok e
theorem Qw  (ok:HOk P w H h)(e:H a=some (.dK kvs)):kvs.length<=sizeLine/\(a==sysModules)=false/\∃vs,KV kvs vs/\h.DictOf (A7 P w) a vs:=Mh ok (.inl e)
theorem Je  (ok:HOk P w H h)(e:H a=some (.tup (ks.map kV))):(tupleKind (A7 P w)).is h ks a:=by
 obtain⟨_,its,r,o,h1,h2,n,h3⟩:=(show AX P w H h a (.tup (ks.map kV)) from ok a _ e)
 exact⟨o,its.toArray,n,h1,h2,h3,by simpa using Jd r⟩
theorem Ob  (ok:HOk P w H h)(e:Rd H a (.dT kvs)):kvs.length<=sizeLine/\(a==sysModules)=false /\
  ∃xs,KT H kvs xs/\h.DictOfH (tupleKind (A7 P w)) a xs:=by
 obtain⟨z,y,xs,r,o,es,ep,h1,h2,h3,h4,h5⟩:=(show AX P w H h a (.dT kvs) from Qv ok e)
 refine⟨z,y,xs,r,o,es,ep,h1,h2,h3,h4,fun x hx=>?_,h5⟩
 have all:∀{l:List (List Key×V)} {m:List (List Key×Addr×Value)},KT H l m->∀x∈m,(tupleKind (A7 P w)).is h x.1 x.2.1:=by
  intro l m q
  induction q with
  |nil=>intro x hx;exact nomatch hx
  |@cons p q ps qs hq t ih=>
   intro x hx
   rcases jJ_.mp hx with e|hx
   ·subst e
    exact Je ok (by rw[<-hq.1];exact hq.2.1)
   ·exact ih x hx
 exact all r x hx
theorem RQ  (ok:HOk P w H h)(e:H a=some (.dT kvs)):kvs.length<=sizeLine/\(a==sysModules)=false /\
  ∃xs,KT H kvs xs/\h.DictOfH (tupleKind (A7 P w)) a xs:=Ob ok (.inl e)
end
noncomputable def DGet (H:Hp)(a:Addr)(y:V)(r:Option V):Prop:=
 (∃kvs k,Rd H a (.dK kvs)/\y=kV k/\r=valV kvs k) \/ ∃kvs k b,Rd H a (.dT kvs)/\y=.ref b/\H b=some (.tup (k.map kV))/\r=valV kvs k
noncomputable def DPut (H:Hp)(a:Addr)(y v:V)(H':Hp):Prop:=
 (∃kvs k,H a=some (.dK kvs)/\y=kV k/\kvs.length<sizeLine/\H'=upd H a (.dK (putK kvs k v))) \/
 ∃kvs k b,H a=some (.dT kvs)/\y=.ref b/\H b=some (.tup (k.map kV))/\kvs.length<sizeLine/\H'=upd H a (.dT (putK kvs k v))
theorem DGet.k {H:Hp}{a:Addr}{kvs:List (Key×V)}{k:Key}(e:H a=some (.dK kvs)):DGet H a (kV k) (valV kvs k):=.inl ⟨kvs,k,.inl e,rfl,rfl⟩
theorem DGet.t {H:Hp}{a b:Addr}{kvs:List (List Key×V)}{k:List Key}(e:H a=some (.dT kvs))(eb:H b=some (.tup (k.map kV))):DGet H a (.ref b) (valV kvs k):=.inr ⟨kvs,k,b,.inl e,rfl,eb,rfl⟩
theorem DPut.k {H:Hp}{a:Addr}{kvs:List (Key×V)}{k:Key}{v:V}(e:H a=some (.dK kvs))(hl:kvs.length<sizeLine):DPut H a (kV k) v (upd H a (.dK (putK kvs k v))):=.inl ⟨kvs,k,e,rfl,hl,rfl⟩
theorem DPut.t {H:Hp}{a b:Addr}{kvs:List (List Key×V)}{k:List Key}{v:V}(e:H a=some (.dT kvs))(eb:H b=some (.tup (k.map kV)))(hl:kvs.length<sizeLine):
  DPut H a (.ref b) v (upd H a (.dT (putK kvs k v))):=.inr ⟨kvs,k,b,e,rfl,eb,hl,rfl⟩
section
variable {X:Cx} {pins:α7} {σ:St} {H:Hp} {s:Shared} {a:Addr} {y v:V} {u r:Value} {o:Option V} {A:Around} {E:Value->Shared->Prop}
theorem Inv.big (I:Inv X pins σ H s):sysModules<s.heap.objs.size:=by
 have h:mainGlobals<s.heap.objs.size:=(I.mod.glob.keeps I.bk).lt
 exact Nat.lt_trans (by decide) h
theorem Mi  (hu:A.units+1<cLine)(I:Inv X pins σ H s)(g:DGet H a y (some v))(ry:RelV y u)(h:∀w' s',Inv X pins σ H s'->RelV v w'->Q w' s'):
  wpAny (model X.prog X.w) A (getItem (.ref a) u) Q E s:=by
 rcases g with ⟨kvs,k,e,ey,l⟩|⟨kvs,k,b,e,ey,eb,l⟩
 ·subst ey
  obtain⟨z,hd,vs,rel,dd⟩:=Mh I.hok e
  obtain⟨w',hw,rw'⟩:=RelO.some_of (v:=v) (o:=valueAt vs k) (by rw[l];exact rel.val k)
  exact wpAny_getItem_of (Mg ry) dd.mapOf hw (h w' _ (I.tok _) rw')
 ·subst ey
  cases (show u=Value.ref b from ry)
  obtain⟨z,hd,xs,rel,dd⟩:=Ob I.hok e
  obtain⟨w',hw,rw'⟩:=RelO.some_of (v:=v) (o:=(atKey xs k).map (·.2)) (by rw[l];exact rel.val k)
  obtain⟨p,hp,hp2⟩:=Option.map_eq_some_iff.mp hw
  refine wpAny_getItem_heap (tupleKind_room_in1 hu) (Je I.hok eb) dd hp ?_
  rw[hp2]
  exact h w' _ (I.tok _) rw'
theorem Qx  (hu:A.units+1<cLine)(I:Inv X pins σ H s)(g:DGet H a y o)(ry:RelV y u)(h:∀s',Inv X pins σ H s'->Q (.bool (!o.isSome)) s'):
  wpAny (model X.prog X.w) A (compareOp .NotIn u (.ref a)) Q E s:=by
 rcases g with ⟨kvs,k,e,ey,l⟩|⟨kvs,k,b,e,ey,eb,l⟩
 ·subst ey
  obtain⟨z,hd,vs,rel,dd⟩:=Mh I.hok e
  refine wpAny_notIn_of (Mg ry) hd dd.mapOf ?_
  rw[<-(rel.val k).isSome_eq,<-l]
  exact h _ (I.tok _)
 ·subst ey
  cases (show u=Value.ref b from ry)
  obtain⟨z,hd,xs,rel,dd⟩:=Ob I.hok e
  refine wpAny_notIn_heap (tupleKind_room_in1 hu) (Je I.hok eb) hd dd ?_
  have q:=(rel.val k).isSome_eq
  rw[Option.isSome_map]at q
  rw[<-q,<-l]
  exact h _ (I.tok _)
theorem Fo    (I:Inv X pins σ H s)(mu:Mut (H a))(hs:Heap.SameBut a s.heap h')(he:∃q,h'.get? a=some q)(new:AX X.prog X.w (upd H a ob) h' a ob):
  Inv X pins σ (upd H a ob) {s with heap:=h',toks:=t' }:=
 I.write (x:=a) (e:=a) mu (.inl rfl) (fun b q hb z=>(hs.2 b hb).trans z) he new
theorem OY       (z:kvs.length<=sizeLine)(hd:(a==sysModules)=false)(rel:KV kvs vs)(dd:h'.DictOf (A7 P w) a vs):
  AX P w H' h' a (.dK kvs):=⟨z,hd,vs,rel,dd⟩
theorem Mj   (hu:A.units+1<cLine)(I:Inv X pins σ H s)(g:DPut H a y v H')(ry:RelV y u)(rv:RelV v r)(h:∀s',Inv X pins σ H' s'->Q () s'):
  wpAny (model X.prog X.w) A (setItem (.ref a) u r) Q E s:=by
 rcases g with ⟨kvs,k,e,ey,l,eH⟩|⟨kvs,k,b,e,ey,eb,l,eH⟩
 ·subst ey eH
  obtain⟨z,hd,vs,rel,dd⟩:=Qw I.hok e
  have hz:vs.length<=sizeLine:=by rw[<-rel.length];exact z
  have hl:(putK kvs k v).length<=sizeLine:=by have:=Ex kvs k v;lia
  refine wpAny_setItem_pairs (hsz:=hz) (Mg ry) dd fun h' dd' hs=>h _ ?_
  have he:∃q,h'.get? a=some q:=let ⟨q,_,_,hq,_⟩:=dd';⟨q,hq⟩
  exact Fo I (by rw[e];exact True.intro) hs he (OY hl hd (rel.put k rv) dd')
 ·subst ey eH
  cases (show u=Value.ref b from ry)
  obtain⟨z,hd,xs,rel,dd⟩:=RQ I.hok e
  have hz:xs.length<=sizeLine:=by rw[<-Paired.length rel];exact z
  have hl:(putK kvs k v).length<=sizeLine:=by have:=Ex kvs k v;lia
  refine wpAny_setItem_heap (hsz:=hz) (tupleKind_room_in1 hu) (Je I.hok eb) dd fun h' dd' hs=>h _ ?_
  obtain⟨q,es,ep,hq,h2,h3,h4,_,h5⟩:=dd'
  refine Fo I (by rw[e];exact True.intro) hs ⟨q,hq⟩ ⟨hl,hd,_,(rel.put k eb rv).keeps fun c ys ec=>?_,q,es,ep,hq,h2,h3,h4,h5⟩
  rw[Ag (Rr ec e (fun z=>nomatch z))]
  exact ec
end
noncomputable def NoSl (i:Expr):Prop:=∀ov iv,subscripted i false ov iv=operate [ov,iv] (getItem ov iv)
theorem Qy         {T id:String}
  (hl:typeLookup (.type T) "__getitem__"=pure (some (.builtin id))) (hs:NoSl slice)
  (h:wpAny (model prog w) A (eval value env) (fun o s₁=>wpAny (model prog w) A (eval slice env) (fun i s₂=>s₂.TypeIs o T/\wpAny (model prog w) A (getItem o i) Q E s₂) E s₁) E s):
  wpAny (model prog w) A (eval (.Subscript value slice pos) env) Q E s:=by
 refine Subscript_ (qz_ h (fun o s₁ h₁=>qz_ h₁ (fun i s₂ h₂=>?_) fun _ _ x=>x) fun _ _ x=>x)
 obtain⟨hT,h₂⟩:=h₂
 unfold subscriptTail
 refine je_ ?_
 rw[getitemInPython_of_ne hT.not_modules]
 refine je_ (wpAny_specialOf hT hl ?_)
 have fin:wpAny (model prog w) A (subscripted slice false o i) (fun r s₃=>wpAny (model prog w) A (letTemporaryGo value o r >>= fun _=>pure r) Q E s₃) E s₂:=by
  rw[hs o i]
  exact wpAny_operating (qz_ h₂ (fun r s₃ h₃=>je_ (wpAny_letTemporaryGo (jo_ h₃))) fun _ _ x=>x)
 first
  | exact jo_ (je_ fin)
  | exact je_ (jo_ (je_ fin))
  | exact je_ fin
theorem JL         (I:Inv X pins σ H s)(g:DGet H a y o):s.TypeIs (.ref a) "dict" := by
 rcases g with ⟨kvs,k,e,_,_⟩|⟨kvs,k,b,e,_,_,_⟩
 ·obtain⟨_,_,vs,_,dd⟩:=Mh I.hok e
  exact dd.typeIs
 ·obtain⟨_,_,xs,_,dd⟩:=Ob I.hok e
  exact dd.typeIs
noncomputable def RS (td ty:TE):TE:=fun σ H Q=>td σ H fun x H1=>ty σ H1 fun y H2=>∃a v,x=.ref a/\DGet H2 a y (some v)/\Q v H2
noncomputable def Ml (ty td:TE):TE:=fun σ H Q=>ty σ H fun y H1=>td σ H1 fun x H2=>∃a o,x=.ref a/\DGet H2 a y o/\Q (.bl (!o.isSome)) H2
noncomputable def RT (td ty tv:TE):TS:=fun D σ H=>tv σ H fun v H1=>td σ H1 fun x H2=>ty σ H2 fun y H3=>∃a H4,x=.ref a/\DPut H3 a y v H4/\D.nx σ H4
section
variable {X:Cx} {o i e value:Expr} {pos pos' tpos:Pos} {td ty tv:TE}
theorem Fp (hu:X.A.units+1<cLine)(ho:PE X o td)(hi:PE X i ty)(hs:NoSl i):PE X (.Subscript o i pos) (RS td ty):=by
 intro pins s σ H Q I h
 refine Qy PySem.F.slot_dict_getitem.lookup hs (thn (ho pins s σ H _ I h) fun u s1 ⟨x,H1,I1,rx,q1⟩=>thn (hi pins s1 σ H1 _ I1 q1) fun iv s2 ⟨y,H2,I2,ry,a,v,ex,g,q2⟩=>?_)
 subst ex
 obtain rfl:u=Value.ref a:=rx
 exact⟨JL I2 g,Mi hu I2 g ry fun w' s3 I3 rw'=>⟨v,H2,I3,rw',q2⟩⟩
theorem Jf (hu:X.A.units+1<cLine)(hi:PE X i ty)(ho:PE X o td):PC X .NotIn i o (Ml ty td):=by
 intro pins s σ H Q I h
 refine thn (hi pins s σ H _ I h) fun iv s1 ⟨y,H1,I1,ry,q1⟩=>thn (ho pins s1 σ H1 _ I1 q1) fun u s2 ⟨x,H2,I2,rx,a,ov,ex,g,q2⟩=>?_
 subst ex
 obtain rfl:u=Value.ref a:=rx
 exact Qx hu I2 g ry fun s3 I3=>⟨.bl (!ov.isSome),H2,I3,rfl,q2⟩
theorem Mm (hu:X.A.units+1<cLine)(ho:PE X o td)(hi:PE X i ty)(hv:PE X value tv)(hs:swapsWith value (some (.Subscript o i pos')) pos.line X.env=pure false):
  PS X (.Assign [.Subscript o i pos'] value pos) (RT td ty tv):=by
 intro pins s σ H D I h
 refine wpAny_Assign_Subscript (thn (hv pins s σ H _ I h) fun r s1 ⟨v,H1,I1,rv,q1⟩=>thn (ho pins s1 σ H1 _ I1 q1) fun u s2 ⟨x,H2,I2,rx,q2⟩=>thn (hi pins s2 σ H2 _ I2 q2) fun iv s3 ⟨y,H3,I3,ry,a,H4,ex,g,q3⟩=>?_) hs
 subst ex
 obtain rfl:u=Value.ref a:=rx
 exact Mj hu I3 g ry rv fun s4 I4=>⟨σ,H4,I4,q3⟩
end
theorem Oc    (h:Heap)(hb:sysModules<h.objs.size):AX P w H (h.push {cls:=.type "dict",data:=.dict #[]}) h.objs.size (.dK []):=
 ⟨j1_ _,x4_.mpr (qf_ (jW_ hb)),[],.nil,Heap.DictOf.new h⟩
theorem Od    (h:Heap)(hb:sysModules<h.objs.size):AX P w H (h.push {cls:=.type "dict",data:=.dict #[]}) h.objs.size (.dT []):=
 ⟨j1_ _,x4_.mpr (qf_ (jW_ hb)),[],.nil,_,#[],0,jE_ _ rfl,⟨rfl,rfl,rfl⟩,rfl,rfl,xP_⟩
noncomputable def GA:List (TE×TE)->St->Hp->(List (V×V)->Hp->Prop)->Prop
 |[],_,H,Q=>Q [] H
 | (tk,tv)::r,σ,H,Q=>tk σ H fun x H1=>tv σ H1 fun y H2=>GA r σ H2 fun ps H3=>Q ((x,y)::ps) H3
noncomputable abbrev VV:List (V×V)->List (Value×Value)->Prop:=Paired fun p q=>RelV p.1 q.1/\RelV p.2 q.2
noncomputable def PPs (X:Cx)(pos:Pos)(keys:List (Option Expr))(values:List Expr)(trs:List (TE×TE)):Prop:=
 ∀(pins:α7) (s:Shared) (σ:St) (H:Hp) (Q:List (V×V)->Hp->Prop),Inv X pins σ H s->GA trs σ H Q ->
  wpAny (model X.prog X.w) X.A (evalPairs (pairTrees keys values X.env pos)) (fun vs s'=>∃ps H',Inv X pins σ H' s'/\VV ps vs/\Q ps H') X.xe s
theorem Qz   : PPs X pos [] [] []:=fun pins s σ H Q I h=>pairTrees_nil_walk ⟨[],H,I,.nil,h⟩
theorem Oe        (hk:PE X k tk)(hv:PE X v tv)(hr:PPs X pos ks vs trs):
  PPs X pos (some k::ks) (v::vs) ((tk,tv)::trs):=fun pins s σ H Q I h=>
 pairTrees_cons_walk (thn (hk pins s σ H _ I h) fun u s1 ⟨x,H1,I1,rx,q1⟩=>thn (hv pins s1 σ H1 _ I1 q1) fun w2 s2 ⟨y,H2,I2,ry,q2⟩ =>
  thn (hr pins s2 σ H2 _ I2 q2) fun ws s3 ⟨ps,H3,I3,rel,q3⟩=>⟨(x,y)::ps,H3,I3,.cons ⟨rx,ry⟩ rel,q3⟩)
noncomputable def Ek (kvs more:List (Key×V)):List (Key×V):=more.foldl (fun acc kv=>putK acc kv.1 kv.2) kvs
theorem KV.merge:∀{more:List (Key×V)} {rs:List (Key×Value)} {kvs:List (Key×V)} {vs:List (Key×Value)},KV more rs->KV kvs vs->KV (Ek kvs more) (merged vs rs):=by
 intro more rs kvs vs r
 unfold KV at r
 induction r generalizing kvs vs with
 |nil=>intro q;exact q
 |@cons p q ps qs h t ih=>
  intro r0
  have e:KV (putK kvs p.1 p.2) (stored vs q.1 q.2):=by
   have:=r0.put p.1 h.2
   rw[<-h.1];exact this
  exact ih e
theorem EM:∀(more kvs:List (Key×V)),(Ek kvs more).length<=kvs.length+more.length
 |[],kvs=>by show kvs.length<=kvs.length+0;lia
 |p::r,kvs=>by
  have h1:=EM r (putK kvs p.1 p.2)
  have h2:=Ex kvs p.1 p.2
  show (Ek (putK kvs p.1 p.2) r).length<=_
  rw[jR_];lia
theorem Hs {P:Program}{w:World}:∀{kvs:List (Key×V)} {ws:List (Value×Value)},VV (kvs.map fun kv=>(kV kv.1,kv.2)) ws->∃rs,Carries (A7 P w) ws rs/\KV kvs rs
 |[],_,r=>by rw[xA_]at r;cases r;exact⟨[],True.intro,.nil⟩
 |p::kvs,_,r=>by
  rw[jS_]at r
  cases r with
  |@cons a b as bs h t=>
   obtain⟨rs,c,q⟩:=Hs (P:=P) (w:=w) t
   obtain⟨b1,b2⟩:=b
   exact⟨(p.1,b2)::rs,⟨Mg h.1,rfl,c⟩,.cons ⟨rfl,h.2⟩ q⟩
noncomputable def QA (trs:List (TE×TE)):TE:=fun σ H Q=>∀p,H p=none->GA trs σ (upd H p (.dK [])) fun ps H2=>H2 p=some (.dK [])/\∃kvs:List (Key×V),ps=kvs.map (fun kv=>(kV kv.1,kv.2))/\kvs.length<=15/\Q (.ref p) (upd H2 p (.dK (Ek [] kvs)))
theorem QB      (h:PPs X pos keys values trs)(hall:keys.all (·.isSome)=true)(hl:keys.length=values.length)(h0:keys ≠ [])
  (h15:keys.length<=15):PE X (.Dict keys values pos) (QA trs):=by
 intro pins s σ H Q I q
 have hn:=I.hok.fresh (jh_ s.heap.objs.size)
 have I1:=I.laid (a:=s.heap.objs.size) (o:=.dK []) (h':=s.heap.push {cls:=.type "dict",data:=.dict #[]}) (t':=s.toks) (fun _ _ q=>jm_ _ q) (jh_ _) (Oc s.heap I.big)
 refine wpAny_Dict_walk (knd:=A7 X.prog X.w) hall hl h0 h15 (thn (h pins _ σ _ _ I1 (q _ hn)) fun ws s2 ⟨ps,H2,I2,rel,e,kvs,ep,lk,q2⟩=>?_)
 subst ep
 obtain⟨rs,c,rk⟩:=Hs (P:=X.prog) (w:=X.w) rel
 obtain⟨z,hd,vs0,r0,dd⟩:=Qw I2.hok e
 cases r0
 refine⟨rs,c,dd,fun h' dd' hs=>⟨.ref s.heap.objs.size,_,?_,rfl,q2⟩⟩
 have hz:(Ek [] kvs).length<=sizeLine:=by
  have h1:=EM kvs []
  rw[q8_]at h1
  rw[sizeLine_eq];lia
 have he:∃q,h'.get? s.heap.objs.size=some q:=let ⟨q,_,_,hq,_⟩:=dd';⟨q,hq⟩
 exact Fo I2 (by rw[e];exact True.intro) hs he (OY hz hd (rk.merge .nil) dd')
end L2
namespace L2
open PySem PySem.Spec PyProof.Rows
noncomputable def clOf (env:Env):List (Str×NameKind)->List (Str×Addr)->List (Str×Addr)
 |[],acc=>acc
 | (n,k)::r,acc=>if (k == .free)=true then clOf env r ((n,(env.cells.lookup n).getD 0)::acc) else clOf env r acc
theorem Ht   (h:∀p∈scope.names,p.2=.free->∃c,env.cells.lookup p.1=some c):closureFor scope env=pure (clOf env scope.names []):=by
 have go:∀(l:List (Str×NameKind)) (acc:List (Str×Addr)),(∀p∈l,p.2=.free->∃c,env.cells.lookup p.1=some c) ->
   (forIn l acc fun (x:Str×NameKind) (cs:List (Str×Addr))=>(if (x.2 == .free)=true then do let c <- cellOf env x.1;pure (ForInStep.yield ((x.1,c)::cs)) else pure (ForInStep.yield cs):Sem (ForInStep (List (Str×Addr)))))=(pure (clOf env l acc):Sem (List (Str×Addr))):=by
  intro l
  induction l with
  |nil=>intro acc _;rfl
  |cons p r ih=>
   intro acc hl
   obtain⟨n,k⟩:=p
   rw[List.forIn_cons]
   by_cases hk:(k == .free)=true
   ·obtain⟨c,hc⟩:=hl (n,k) jv_ (by simpa using hk)
    have e1:cellOf env n=pure c:=by unfold cellOf;rw[hc]
    have ih':=ih ((n,c)::acc) fun q hq=>hl q (jx_ _ hq)
    show ((if (k == .free)=true then do let c <- cellOf env n;pure (ForInStep.yield ((n,c)::acc)) else pure (ForInStep.yield acc):Sem _) >>= _)=_
    rw[if_pos hk,e1]
    show (forIn r ((n,c)::acc) _:Sem _)=_
    rw[clOf,if_pos hk,hc]
    exact ih'
   ·have ih':=ih acc fun q hq=>hl q (jx_ _ hq)
    show ((if (k == .free)=true then do let c <- cellOf env n;pure (ForInStep.yield ((n,c)::acc)) else pure (ForInStep.yield acc):Sem _) >>= _)=_
    rw[if_neg hk]
    show (forIn r acc _:Sem _)=_
    rw[clOf,if_neg hk]
    exact ih'
 have e:=go scope.names [] h
 unfold closureFor
 show (forIn scope.names [] _ >>= fun cs=>pure cs:Sem _)=_
 have e2:(forIn scope.names [] (fun (x:Str×NameKind) (r:List (Str×Addr))=>(match x with
   | (name,kind)=>if (kind == .free)=true then do let c <- cellOf env name;pure (ForInStep.yield ((name,c)::r)) else do pure PUnit.unit;pure (ForInStep.yield r):Sem (ForInStep (List (Str×Addr))))))=(pure (clOf env scope.names []):Sem (List (Str×Addr))):=e
 exact qR_ (fun z=>z >>= fun cs=>pure cs) e2
theorem HY {env:Env}:∀(l:List (Str×NameKind)) (acc:List (Str×Addr)),(∀p∈l,p.2=.free->∃c,env.cells.lookup p.1=some c)->(∀q∈acc,env.cells.lookup q.1=some q.2)->∀q∈clOf env l acc,env.cells.lookup q.1=some q.2
 |[],_,_,ha,q,hq=>ha q hq
 | (n,k)::r,acc,hl,ha,q,hq=>by
  unfold clOf at hq
  by_cases hk:(k == .free)=true
  ·rw[if_pos hk]at hq
   obtain⟨c,hc⟩:=hl (n,k) jv_ (by simpa using hk)
   refine HY r _ (fun p hp=>hl p (jx_ _ hp)) (fun p hp=>?_) q hq
   rcases jJ_.mp hp with rfl|hp
   ·show env.cells.lookup n=some ((env.cells.lookup n).getD 0)
    rw[hc];rfl
   ·exact ha p hp
  ·rw[if_neg hk]at hq
   exact HY r _ (fun p hp=>hl p (jx_ _ hp)) ha q hq
theorem Gb {env:Env}:∀(l:List (Str×NameKind)) (acc:List (Str×Addr)) (x:Str),((x,NameKind.free)∈l \/ ∃c,(x,c)∈acc)->∃c,(x,c)∈clOf env l acc
 |[],_,_,h=>by
  rcases h with h|h
  ·cases h
  ·exact h
 | (n,k)::r,acc,x,h=>by
  unfold clOf
  by_cases hk:(k == .free)=true
  ·rw[if_pos hk]
   refine Gb r _ x ?_
   rcases h with h|⟨c,h⟩
   ·rcases jJ_.mp h with h|h
    ·cases h
     exact .inr ⟨_,jv_⟩
    ·exact .inl h
   ·exact .inr ⟨c,jx_ _ h⟩
  ·rw[if_neg hk]
   refine Gb r _ x ?_
   rcases h with h|h
   ·rcases jJ_.mp h with h|h
    ·cases h
     exact absurd rfl hk
    ·exact .inl h
   ·exact .inr h
theorem BJ {β:Type}:∀{l:List (Str×β)} {x:Str} {c:β},(x,c)∈l->∃c',l.lookup x=some c'
 |[],_,_,h=>by cases h
 | (n,d)::r,x,c,h=>by
  by_cases hx:(x==n)=true
  ·exact⟨d,by rw[qH_,hx]⟩
  ·rcases jJ_.mp h with h|h
   ·cases h;exact absurd (beq_self_eq_true _) hx
   ·obtain⟨c',e⟩:=BJ h
    exact⟨c',by rw[qH_];simp only[Bool.not_eq_true]at hx;rw[hx];exact e⟩
noncomputable def relF (env:Env):Str×NameKind->Str×NameKind:=fun (n,k)=>if (k==NameKind.free&&env.scope.kind == .function&&env.kindOf n==some .cell) then (n,NameKind.cell) else (n,k)
theorem HZ    (h:(k==NameKind.free&&env.scope.kind == .function&&env.kindOf n==some .cell)=true):relF env (n,k)=(n,.cell):=if_pos h
theorem JN    (h:¬ (k==NameKind.free&&env.scope.kind == .function&&env.kindOf n==some .cell)=true):relF env (n,k)=(n,k):=if_neg h
theorem DO {env:Env}:∀{names:List (Str×NameKind)} {x:Str} {k:NameKind},(∀y∈names,y.2 ≠ .cell) ->
  (names.map (relF env)).lookup x=some k->(k=.cell\/k=.free)->(x,NameKind.free)∈names
 |[],_,_,_,h,_=>by simp at h
 | (n,k')::r,x,k,hc,h,hk=>by
  have ih := @DO env r x k (fun y hy=>hc y (jx_ _ hy))
  rw[jS_]at h
  by_cases hb:(k'==NameKind.free&&env.scope.kind == .function&&env.kindOf n==some .cell)=true
  ·rw[HZ hb,qH_]at h
   cases hx:x==n with
   |true=>
    have e:x=n:=by simpa using hx
    subst e
    have e2:k'=.free:=by
     simp only[qn_]at hb
     simpa using hb.1.1
    subst e2
    exact jv_
   |false=>
    rw[hx]at h
    exact jx_ _ (ih h hk)
  ·rw[JN hb,qH_]at h
   cases hx:x==n with
   |true=>
    rw[hx]at h
    have e:x=n:=by simpa using hx
    subst e
    have e2:k'=k:=jH_ h
    subst e2
    rcases hk with rfl|rfl
    ·exact absurd rfl (hc _ jv_)
    ·exact jv_
   |false=>
    rw[hx]at h
    exact jx_ _ (ih h hk)
theorem FG {env:Env}:∀{names:List (Str×NameKind)} {x:Str},names.lookup x=some .free ->
  ∃k,(k=NameKind.cell\/k=NameKind.free)/\(names.map (relF env)).lookup x=some k
 |[],_,h=>by simp at h
 | (n,k')::r,x,h=>by
  have ih := @FG env r x
  rw[qH_]at h
  rw[jS_]
  cases hx:x==n with
  |true=>
   rw[hx]at h
   have e2:k'=.free:=jH_ h
   subst e2
   by_cases hb:((NameKind.free:NameKind)==NameKind.free&&env.scope.kind == .function&&env.kindOf n==some .cell)=true
   ·exact⟨.cell,.inl rfl,by rw[HZ hb,qH_,hx]⟩
   ·exact⟨.free,.inr rfl,by rw[JN hb,qH_,hx]⟩
  |false=>
   rw[hx]at h
   obtain⟨k,hk,e⟩:=ih h
   refine⟨k,hk,?_⟩
   by_cases hb:(k'==NameKind.free&&env.scope.kind == .function&&env.kindOf n==some .cell)=true
   ·rw[HZ hb,qH_,hx];exact e
   ·rw[JN hb,qH_,hx];exact e
end L2
namespace L2
open PySem PySem.Spec PyProof.Rows
section
variable {prog:Program} {w:World} {A:Around} {R:Result->Shared->Prop} {s:Shared}
noncomputable abbrev cpW (prog:Program)(w:World)(A:Around)(R:Result->Shared->Prop)(env:Env){α:Type}(m:Sem α)(Q:α->Shared->Prop):Shared->Prop:=wpAny (model prog w) A m Q (notedBy (model prog w) A env fun e t=>R (.error e) t)
theorem Jg {elt target iter:Expr}    {it acc:Value}  (I:Nat->Shared->Prop)
  (turn:∀n s,I n s->cpW prog w A R env (pyNext it) (fun r s=>match r with
   |none=>R (.ok .next) s
   |some v=>cpW prog w A R env (letOwnedTupleGo target it v) (fun _=>cpW prog w A R env (assign target env v) fun _=>cpW prog w A R env (forIn ifs true fun c r=>if r=true then do let ok <- isTrue c env (eval c env);pure (ForInStep.yield ok) else pure (ForInStep.yield r)) fun ok s=>
     if ok=true then cpW prog w A R env (eval elt env) (fun x=>cpW prog w A R env (call (.builtin "list.append") [acc,x]) fun _ t=>∃m,m<n/\I m t) s else ∃m,m<n/\I m s) s) s)
  (n:Nat) (h:I n s):codeAny (model prog w) A (.compLoop (.ListComp elt [⟨target,iter,ifs,0⟩] scope pos) 0 it acc env) R s:=by
 have mono:∀{α β:Type} {m:Sem α} {f:α->Sem β} {Q:α->Shared->Prop} {Q':β->Shared->Prop} {s:Shared},cpW prog w A R env m Q s->(∀a t,Q a t->cpW prog w A R env (f a) Q' t)->cpW prog w A R env (m >>= f) Q' s:=fun h k=>je_ (qz_ h k fun _ _ e=>e)
 refine codeAny_loop rfl I (fun n s hI=>wpAny_noted ?_) n h
 rw[compTurn_list]
 refine je_ (wpAny_standAt (mono (turn n s hI) fun r s1 h1=>?_))
 cases r with
 |none=>exact jo_ h1
 |some v=>
  refine mono h1 fun _ _ h2=>mono h2 fun _ _ h3=>mono h3 fun ok s4 h4=>?_
  cases ok with
  |false=>exact jo_ ⟨rfl,h4⟩
  |true=>exact je_ (mono h4 fun _ _ h5=>mono h5 fun _ _ h6=>jo_ (jo_ ⟨rfl,h6⟩))
end
noncomputable abbrev Cx.blk (X:Cx)(N:List Str)(sc:Scope)(C:Addr)(s₀:Shared)(H₀:Hp)(ex:List Addr):Cx:=
 {X with N:=N,env:=compEnvC sc (clOf X.env sc.names []) C X.env,outer:=X.stack,s₀:=s₀,H₀:=H₀,ex:=ex,fn:=fun _=>false,pn:=[],xe:=fun _ _=>False}
structure BlkSc (X:Cx)(sc:Scope):Prop where
 kind:sc.kind=.function
 nocell:∀y∈sc.names,y.2 ≠ .cell
 loc:∀y∈sc.names,y.2=.local->sc.names.lookup y.1=some .local
 free:∀y∈sc.names,y.2=.free->X.env.kindOf y.1=some .cell\/X.env.kindOf y.1=some .free
noncomputable abbrev Caps:=List (Str×Option Nat)
noncomputable def Caps.names (c:Caps):List Str:=c.map (·.1)
noncomputable def Caps.st (c:Caps)(σ:St):St:=c.map fun p=>p.2.bind fun j=>(σ[j]?).join
noncomputable def DQ (N:List Str)(sc:Scope):Caps->Prop
 |[]=>True
 | (_,none)::r=>DQ N sc r
 | (x,some j)::r=>(N[j]?=some x/\sc.names.lookup x=some .free)/\DQ N sc r
theorem DQ.get {N:List Str}{sc:Scope}:∀{c:Caps} {i:Nat} {x:Str} {j:Nat},DQ N sc c->c[i]?=some (x,some j)->N[j]?=some x/\sc.names.lookup x=some .free
 |[],_,_,_,_,h=>by simp at h
 | (y,none)::r,0,x,j,_,h=>by simp at h
 | (y,none)::r,i+1,x,j,ok,h=>DQ.get (c:=r) (i:=i) ok (by simpa using h)
 | (y,some k)::r,0,x,j,ok,h=>by
  simp only[xF_,Option.some.injEq,Prod.mk.injEq]at h
  obtain⟨rfl,rfl⟩:=h
  exact ok.1
 | (y,some k)::r,i+1,x,j,ok,h=>DQ.get (c:=r) (i:=i) ok.2 (by simpa using h)
section
variable {X:Cx} {pins:α7} {σ:St} {H:Hp} {s:Shared} {sc:Scope} {fp:List Addr}
theorem GC (I:Inv X pins σ H s)(S:BlkSc X sc):∀p∈sc.names,p.2=.free->∃c,X.env.cells.lookup p.1=some c:=fun p hp e=>I.ok.has p.1 (S.free p hp e)
theorem BG (I:Inv X pins σ H s)(S:BlkSc X sc)   (h:(clOf X.env sc.names []).lookup x=some c):X.env.cells.lookup x=some c:=
 HY sc.names [] (GC I S) (fun q hq=>by cases hq) (x,c) (qx_ h)
theorem RU {N:List Str}{C:Addr}(I:Inv X pins σ H s)(S:BlkSc X sc)(hC:s.heap.objs.size<=C)(hf:∀b∈fp,FpOk X pins H b)(ho:∀b∈fp,∃o,s.heap.get? b=some o):(X.blk N sc C s H fp).Ok where
 mod:=I.ok.mod
 kind:=S.kind
 glob:=I.ok.glob
 blt:=I.ok.blt
 above:=hC
 inj:=fun x y c h1 h2=>I.ok.inj x y c (BG I S h1) (BG I S h2)
 has:=fun x hx=>by
  have hx':(x,NameKind.free)∈sc.names:=by
   rcases hx with hx|hx
   ·exact DO (env:=X.env) S.nocell hx (.inl rfl)
   ·exact DO (env:=X.env) S.nocell hx (.inr rfl)
  obtain⟨c,hc⟩:=Gb (env:=X.env) sc.names [] x (.inl hx')
  exact BJ hc
 cab:=fun x c h=>absurd (show false=true from h) jn_
 hd:=I.ok.hd
 frames:=I.ok.frames
 stk:=.inl rfl
 exf:=fun b hb=>by
  obtain⟨o,ho⟩:=ho b hb
  refine⟨jW_ (jG_ (jy_ ho) hC),fun x c h=>(hf b hb).2.2.2.2.1 x c (BG I S h)⟩
 bs:=I.bs
 bsz:=qG_ I.ok.bsz I.sz
 noex:=fun b o e hb=>by
  rcases (hf b hb).2.2.2.1 with z|z
  ·exact I.ok.noex b o e z
  ·exact absurd (jG_ (jy_ (I.ok.bs b o e).1) z) (qi_ _)
 exfs:=fun b hb z=>by
  rcases jJ_.mp (I.stkSub b z) with e|e
  ·exact (hf b hb).2.1 e
  ·exact (hf b hb).2.2.1 e
 funs:=I.stack
 frf:=I.stkFree
theorem Mn {c:Caps}{C:Addr}{s4:Shared}{m:Str->α5}(I:Inv X pins σ H s)(S:BlkSc X sc)(hc:DQ X.N sc c)(hC:s.heap.objs.size<=C)(hf:∀b∈fp,FpOk X pins H b)(ho:∀b∈fp,∃o,s.heap.get? b=some o)
  (hos:s4.os=s.os) (hb:s4.gens=s.gens) (hk:∀b o,s.heap.get? b=some o->s4.heap.get? b=some o) (hn:s4.heap.Ns C m):Inv (X.blk c.names sc C s H fp) [] (c.st σ) H s4 where
 ok:=RU I S hC hf ho
 os:=hos
 bare:=by rw[hb];exact I.bare
 base:=Un.kept hk
 loc:=by
  refine⟨m,hn,fun i x v h1 h2 hv=>?_⟩
  have h1':(c.map (·.1))[i]?=some x:=h1
  have h2':(c.map fun p=>p.2.bind fun j=>(σ[j]?).join)[i]?=some (some v):=h2
  rw[jw_]at h1' h2'
  cases e:c[i]? with
  |none=>rw[e]at h1';cases h1'
  |some p=>
   obtain⟨y,oj⟩:=p
   rw[e]at h1' h2'
   have e1:y=x:=jH_ h1'
   subst e1
   have e2:(oj.bind fun j=>(σ[j]?).join)=some v:=jH_ h2'
   cases oj with
   |none=>cases e2
   |some j=>
    have e3:(σ[j]?).join=some v:=e2
    have e4:σ[j]?=some (some v):=by
     cases q:σ[j]? with
     |none=>rw[q]at e3;cases e3
     |some z=>rw[q]at e3;exact qR_ some e3
    obtain⟨k1,k2⟩:=DQ.get hc e
    have k3:X.env.kindOf y=some .cell\/X.env.kindOf y=some .free:=S.free (y,.free) (qx_ k2) rfl
    have vis:Vis X.env.scope y:=by
     rcases k3 with k|k
     ·exact .inr (.inl k)
     ·exact .inr (.inr k)
    obtain⟨mX,hnX,hl⟩:=I.loc
    obtain⟨u,r,l⟩:=hl j y v k1 e4 vis
    refine⟨u,r,?_⟩
    rcases l with ⟨k,_⟩|⟨_,ca,hca,z⟩
    ·rcases k3 with k' | k'<;>(rw[k]at k';cases k')
    ·obtain⟨kd,hkd,ek⟩:=FG (env:=X.env) k2
     have hk2:(compEnvC sc (clOf X.env sc.names []) C X.env).kindOf y=some kd:=ek
     obtain⟨c',hc'⟩:=Gb (env:=X.env) sc.names [] y (.inl (qx_ k2))
     obtain⟨c2,hc2⟩:=BJ hc'
     have e5:=BG I S hc2
     rw[hca]at e5
     have e6:ca=c2:=jH_ e5
     subst e6
     refine .inr ⟨?_,ca,hc2,?_⟩
     ·rcases hkd with rfl|rfl
      ·exact .inl hk2
      ·exact .inr hk2
     ·obtain⟨oc,hoc,hd⟩:=z
      exact⟨oc,hk _ _ hoc,hd⟩
 cell:=fun x ca h=>by
  obtain⟨v,oc,hoc,hd⟩:=I.cell x ca (BG I S h)
  exact⟨v,oc,hk _ _ hoc,hd⟩
 free:=I.hok.fresh hC
 freeC:=fun x ca h=>I.freeC x ca (BG I S h)
 pin:=fun p hp=>absurd (show p∈([]:α7) from hp) (by simp)
 hok:=I.hok.kept hk
 len:=by show (c.map _).length=(c.map _).length;rw[jd_,jd_]
theorem HOk.track       (x:HOk P w H h)(hn:H a=none)(new:AX P w (upd H a o) h a o):HOk P w (upd H a o) h:=fun b u e=>by
 by_cases hb:b=a
 ·subst hb;rw[Ab]at e;cases e;exact new
 ·rw[Ag hb]at e
  exact (x b u e).stay (fun c v _ q=>q) (fun c q=>by rw[Ag (AO q hn)];exact q) fun c xs q=>by rw[Ag (AO q hn)];exact q
theorem Un.track {fs ex:List Addr}{H H':Hp}{h h':Heap}{a:Addr}{o:HO}(u:Un fs ex H H' h h')(ha:h.objs.size<=a)(hn:H' a=none):Un fs ex H (upd H' a o) h h' where
 keep:=u.keep
 slot:=u.slot
 free:=fun b ob q n hx=>by rw[Ag (jW_ (jG_ (jy_ q) ha))];exact u.free b ob q n hx
 there:=u.there
 tups:=fun b xs q=>by rw[Ag (AO (u.tups b xs q) hn)];exact u.tups b xs q
 frzs:=fun b ob xs q=>by rw[Ag (AO (u.frzs b ob xs q) hn)];exact u.frzs b ob xs q
 tbls:=fun b ps q=>by
  obtain⟨more,e⟩:=u.tbls b ps q
  exact⟨more,by rw[Ag (AO e hn)];exact e⟩
theorem QC {c:Caps}{C D:Addr}{s':Shared}{σ':St}{H':Hp}{o:HO}(I:Inv X pins σ H s)(J:Inv (X.blk c.names sc C s H fp) [] σ' H' s')(hf:∀b∈fp,FpOk X pins H b)(hD:s.heap.objs.size<=D)(hn:H' D=none)
  (new:AX X.prog X.w (upd H' D o) s'.heap D o):Inv X pins σ (upd H' D o) s':=by
 have u:Un (frs X.stack) fp H H' s.heap s'.heap:=J.base
 exact I.call' J.os (u.track hD hn) (J.hok.track hn new) J.bare fun b hb=>⟨(hf b hb).2.2.2.1,(hf b hb).2.1,(hf b hb).2.2.2.2.1,(hf b hb).2.2.2.2.2⟩
end
noncomputable def PF (X:Cx)(ifs:List Expr)(t:TT):Prop:=
 ∀(pins:α7) (s:Shared) (σ:St) (H:Hp) (Q:Bool->Hp->Prop),Inv X pins σ H s->t σ H Q ->
  wpAny (model X.prog X.w) X.A (forIn ifs true fun c r=>if r=true then do let ok <- isTrue c X.env (eval c X.env);pure (ForInStep.yield ok) else pure (ForInStep.yield r)) (TP X pins σ Q) X.xe s
noncomputable def QD:TT:=fun _ H Q=>Q true H
theorem FH  : PF X [] QD:=fun _ _ _ H _ I h=>wpAny_tests_nil ⟨H,I,h⟩
theorem Mo    (h:PT X c t):PF X [c] t:=fun pins s σ H Q I hw=>wpAny_tests_one (h pins s σ H Q I hw)
noncomputable def QE (wi:TI)(cp:Caps)(g:TG)(tc:TT)(te:TE):TE:=fun σ H Q=>wi σ H fun J H1=>∃W:Nat->Nat->List V->St->Hp->Prop,(∃m,W 0 m [] (cp.st σ) H1)/\∀i m ys σ' H',W i m ys σ' H' ->
 ys.length<sizeLine/\((J.stop i H'/\∀D,H' D=none->Q (.ref D) (upd H' D (.lst ys)))\/(J.go i H'/\∃N:List V->St->Hp->Prop,(∀zs σ2 H2,N zs σ2 H2->∃m',m'<m/\W (i+1) m' zs σ2 H2)/\∀x H2,J.yld i H' x H2->g x σ' H2 fun σ2 H3=>tc σ2 H3 fun b H4=>
  if b=true then te σ2 H4 fun v H5=>N (ys++[v]) σ2 H5 else N ys σ2 H4))
section
variable {X:Cx} {tg iter elt:Expr} {ifs:List Expr} {sc:Scope} {pos:Pos} {wi:TI} {cp:Caps} {g:TG} {tc:TT} {te:TE}
theorem Jh (hc:X.calm=true)(S:BlkSc X sc)(hcp:DQ X.N sc cp)
  (hg:∀C s₀ H₀ ex,PG (X.blk cp.names sc C s₀ H₀ ex) tg g) (hf:∀C s₀ H₀ ex,PF (X.blk cp.names sc C s₀ H₀ ex) ifs tc) (he:∀C s₀ H₀ ex,PE (X.blk cp.names sc C s₀ H₀ ex) elt te)
  {pins:α7} {σ:St} {H:Hp} {s:Shared} {J:It} {it:Addr} {fp:List Addr} {tn:Nat->Heap->Prop} {Q:VK} {RR:Value->Addr->Result->Shared->Prop} {E:Value->Shared->Prop}
  (I:Inv X pins σ H s) (T:Turn X.prog X.w X.K tg J fp it tn) (st:tn 0 s.heap) (fpo:∀b∈fp,FpOk X pins H b)
  (hw:∃W:Nat->Nat->List V->St->Hp->Prop,(∃m,W 0 m [] (cp.st σ) H)/\∀i m ys σ' H',W i m ys σ' H' ->
   ys.length<sizeLine/\((J.stop i H'/\∀D,H' D=none->Q (.ref D) (upd H' D (.lst ys)))\/(J.go i H'/\∃N:List V->St->Hp->Prop,(∀zs σ2 H2,N zs σ2 H2->∃m',m'<m/\W (i+1) m' zs σ2 H2)/\∀x H2,J.yld i H' x H2->g x σ' H2 fun σ2 H3=>tc σ2 H3 fun b H4=>
    if b=true then te σ2 H4 fun v H5=>N (ys++[v]) σ2 H5 else N ys σ2 H4)))
  (hR:∀D C s' H' (m:Str->α5),Inv X pins σ H' s'->Q (.ref D) H'->s'.heap.Ns C m->H' C=none->C≠X.env.locals->X.s₀.heap.objs.size<=C->(∀x c,X.env.cells.lookup x=some c->c≠C)->(∀p∈X.pn++pins,p.1≠C)->RR (.ref D) C (.ok .next) s'):
  wpAny (model X.prog X.w) X.A (newList []) (fun acc s₃=>wpAny (model X.prog X.w) X.A (newFunctionEnv sc X.env.globals (clOf X.env sc.names []) [] X.env.qual none .none (some X.env)) (fun cenv s₄=>
   codeAny (model X.prog X.w) X.A (.compStart (.ListComp elt [⟨tg,iter,ifs,0⟩] sc pos) 0 (.ref it) acc {cenv with scope:=relabel sc X.env}) (RR acc cenv.locals) s₄) E s₃) E s:=by
 obtain⟨W,⟨m0,w0⟩,turn⟩:=hw
 refine qJ_ (wpAny_newFunctionEnv S.nocell (by intro y hy;simp at hy) (fun h₁ hns₁ hsb₁=>?_) S.kind)
 dsimp only at hns₁ hsb₁ ⊢
 generalize hH2:s.heap.push {cls:=.type "list",dict:=none,data:=.seq ([]:List Value).toArray}=H2 at hns₁ hsb₁ ⊢
 have hC:H2.objs.size=s.heap.objs.size+1:=by rw[<-hH2,xt_]
 have hDC:s.heap.objs.size≠H2.objs.size:=by rw[hC];exact jW_ (Nat.lt_succ_self _)
 have hCle:s.heap.objs.size<=H2.objs.size:=by rw[hC];exact x9_ _
 have below:∀b,b<s.heap.objs.size->b≠H2.objs.size:=fun b hb=>by rw[hC];exact jW_ (xn_ hb)
 have old:∀b o,s.heap.get? b=some o->h₁.get? b=some o:=fun b o e=>hsb₁.extBut b o (below b (jy_ e)) (jm_ _ (hH2 ▸ jm_ _ e))
 have hacc:h₁.get? s.heap.objs.size=some {cls:=.type "list",data:=.seq ([]:List Value).toArray 0}:=hsb₁.extBut _ _ hDC (jm_ _ (hH2 ▸ jE_ _ rfl))
 have hst₁:tn 0 h₁:=T.keep 0 _ _ st fun b _ o e=>old b o e
 have hobj:∀b∈fp,∃o,s.heap.get? b=some o:=fun b hb=>let ⟨o,e,_⟩:=T.obj 0 _ st b hb;⟨o,e⟩
 have J0:Inv (X.blk cp.names sc H2.objs.size s H fp) [] (cp.st σ) H {s with heap:=h₁,toks:=s.toks+([]:List (Str×Value)).length}:=Mn I S hcp hCle fpo hobj rfl rfl old hns₁
 have nfs:∀b,s.heap.objs.size<=b->b∉frs X.stack:=fun b hb z=>by
  rcases jJ_.mp (I.stkSub b z) with e|e
  ·exact absurd (jG_ I.lt (by rw[<-e];exact hb)) (qi_ _)
  ·exact I.nofs hb e
 have ncell:∀b,s.heap.objs.size<=b->∀x c,X.env.cells.lookup x=some c->c≠b:=fun b hb x c e z=>by
  obtain⟨v,q⟩:=I.cell x c e
  exact absurd (jG_ q.lt (by rw[z];exact hb)) (qi_ _)
 have fpb:∀{pins':α7} {H':Hp},(∀b∈fp,H' b=none)->(∀p∈pins',p.1∉fp)->∀b∈fp,FpOk (X.blk cp.names sc H2.objs.size s H fp) pins' H' b:=fun {pins' H'} hn hp b hb=>by
  obtain⟨o,e⟩:=hobj b hb
  refine⟨hn b hb,below b (jy_ e),fun z=>?_,.inl hb,fun x c h=>(fpo b hb).2.2.2.2.1 x c (BG I S h),fun p hp' z=>?_⟩
  ·rcases jJ_.mp (I.stkSub b z) with e|e
   ·exact (fpo b hb).2.1 e
   ·exact (fpo b hb).2.2.1 e
  ·have hp'':p∈pins':=by simpa using hp'
   exact hp p hp'' (by rw[z];exact hb)
 have loop:∀s₃:Shared,s₃={s with heap:=h₁,toks:=s.toks+([]:List (Str×Value)).length} ->
   codeAny (model X.prog X.w) X.A (.compLoop (.ListComp elt [⟨tg,iter,ifs,0⟩] sc pos) 0 (.ref it) (.ref s.heap.objs.size) (compEnvC sc (clOf X.env sc.names []) H2.objs.size X.env))
    (RR (.ref s.heap.objs.size) H2.objs.size) s₃:=by
  rintro s₃ rfl
  refine Jg (fun n s'=>∃i σ' H' ys its k,Inv (X.blk cp.names sc H2.objs.size s H fp) [] σ' H' s'/\tn i s'.heap/\(∀b∈fp,H' b=none)/\H' s.heap.objs.size=none /\
   s'.heap.get? s.heap.objs.size=some {cls:=.type "list",data:=.seq its.toArray k}/\Vals ys its/\W i n ys σ' H') ?_ m0
   ⟨0,_,H,[],[],0,J0,hst₁,fun b hb=>(fpo b hb).1,I.hok.fresh (jh_ _),hacc,.nil,w0⟩
  rintro n s3 ⟨i,σ3,H3,ys,its,k,I3,st3,fr3,hD3,e3,rv,w3⟩
  obtain⟨hz,tr⟩:=turn i n ys σ3 H3 w3
  have hlen:=rv.length
  -- the accumulator stands still while anything else runs
  have dpin:∀p ∈ [(s.heap.objs.size,({cls:=.type "list",data:=.seq its.toArray k}:Obj))],p.1∉fp:=fun p hp z=>by
   have e:p=_:=jb_.mp hp
   subst e
   obtain⟨o,e⟩:=hobj _ z
   exact absurd (jy_ e) (qi_ _)
  have I3':Inv (X.blk cp.names sc H2.objs.size s H fp) [(s.heap.objs.size,({cls:=.type "list",data:=.seq its.toArray k}:Obj))] σ3 H3 s3:=I3.pins_of fun p hp=>by
   have e:p=_:=jb_.mp hp
   subst e
   exact⟨e3,hD3,hDC,nfs _ (jh_ _),fun v z=>by cases z⟩
  have stat:∀b∈fp,FpOk (X.blk cp.names sc H2.objs.size s H fp) [(s.heap.objs.size,({cls:=.type "list",data:=.seq its.toArray k}:Obj))] H3 b:=fpb fr3 dpin
  rcases tr with ⟨stop,qn⟩|⟨go,N,hN,step⟩
  ·refine thn (T.done (X.blk cp.names sc H2.objs.size s H fp) rfl rfl rfl hc i _ s3 σ3 H3 _ I3' stat st3 stop) fun r s4 ⟨hr,I4⟩=>?_
   subst hr
   obtain⟨e4,n4,_⟩:=I4.pin (s.heap.objs.size,({cls:=.type "list",data:=.seq its.toArray k}:Obj)) (by simp)
   have new:AX X.prog X.w (upd H3 s.heap.objs.size (.lst ys)) s4.heap s.heap.objs.size (.lst ys):=⟨qY_ hz,its,k,rv,e4⟩
   obtain⟨mC,hnC,_⟩:=I4.loc
   have I4':Inv (X.blk cp.names sc H2.objs.size s H fp) [] σ3 H3 s4:=I4.pins_of fun p hp=>by cases hp
   have I5:=QC I I4' fpo (jh_ _) n4 new
   refine hR _ _ s4 _ mC I5 (qn _ n4) hnC ?_ (xQ_ (jG_ I.lt hCle)) (qG_ I.sz hCle) (ncell _ hCle) fun p hp z=>?_
   ·rw[Ag (qf_ hDC)];exact I4.free
   ·exact absurd (jG_ (jy_ (I.pin p hp).1) (by rw[z];exact hCle)) (qi_ _)
  ·refine thn (T.item (X.blk cp.names sc H2.objs.size s H fp) rfl rfl rfl hc i _ s3 σ3 H3 _ I3' stat st3 go) fun r s4 ⟨u,hr,h4⟩=>?_
   subst hr
   refine thn h4 fun _ s5 ⟨x,H5,I5,r5,y5,st5,fr5⟩=>?_
   have I5':=I5.pinned (fpb fr5 dpin) (T.obj _ _ st5)
   have fin:∀{σ7:St} {H7:Hp} {s7:Shared},Inv (X.blk cp.names sc H2.objs.size s H fp) ([(s.heap.objs.size,({cls:=.type "list",data:=.seq its.toArray k}:Obj))]++IQ fp s5.heap) σ7 H7 s7 ->
     s7.heap.get? s.heap.objs.size=some {cls:=.type "list",data:=.seq its.toArray k}/\H7 s.heap.objs.size=none/\(∀b∈fp,H7 b=none)/\∀b∈fp,∀o,s5.heap.get? b=some o->s7.heap.get? b=some o:=fun {σ7 H7 s7} I7=>by
    obtain⟨e7,n7,_⟩:=I7.pin (s.heap.objs.size,({cls:=.type "list",data:=.seq its.toArray k}:Obj)) (by simp)
    refine⟨e7,n7,fun b hb=>?_,fun b hb o e=>?_⟩
    ·obtain⟨o,e,_⟩:=T.obj _ _ st5 b hb
     exact (I7.pin (b,o) (jk_ _ (jk_ _ (BE hb e)))).2.1
    ·exact (I7.pin (b,o) (jk_ _ (jk_ _ (BE hb e)))).1
   refine qz_ (hg _ _ _ _ _ s5 σ3 H5 x u _ I5' r5 (step x H5 y5)) (fun _ s6 ⟨σ6,H6,I6,q6⟩=>?_) fun _ _ z=>False.elim z
   refine qz_ (hf _ _ _ _ _ s6 σ6 H6 _ I6 q6) (fun ok s7 ⟨H7,I7,q7⟩=>?_) fun _ _ z=>False.elim z
   cases ok with
   |false=>
    rw[if_neg jn_]
    rw[if_neg jn_]at q7
    obtain⟨m',hm,w7⟩:=hN _ _ _ q7
    obtain⟨e7,n7,fr7,k7⟩:=fin I7
    exact⟨m',hm,i+1,σ6,H7,ys,its,k,I7.pins_of (fun p hp=>by cases hp),T.keep _ _ _ st5 k7,fr7,n7,e7,rv,w7⟩
   |true=>
    rw[if_pos rfl]
    rw[if_pos rfl]at q7
    refine qz_ (he _ _ _ _ _ s7 σ6 H7 _ I7 q7) (fun v s8 ⟨y,H8,I8,r8,q8⟩=>?_) fun _ _ z=>False.elim z
    obtain⟨m',hm,w8⟩:=hN _ _ _ q8
    obtain⟨e8,n8,fr8,k8⟩:=fin I8
    refine xf_ F.slot_list_append ⟨_,e8,rfl⟩ F.entry_list_append (F.args_list_append_2 _ _) (PySem.list_append s.heap.objs.size its.toArray k v (by rw[ji_];lia)) ⟨e8,?_⟩
    obtain⟨k',q⟩:∃k',(s8.heap.update s.heap.objs.size (Obj.mapSeq fun x=>x.push v)).get? s.heap.objs.size=some {cls:=.type "list",data:=.seq (its++[v]).toArray k' }:=⟨_,by
     have q:=PySem.IsL.update e8 fun x=>x.push v
     have e:(its++[v]).toArray=its.toArray.push v:=by simp
     rw[e]
     exact q⟩
    have I8':Inv (X.blk cp.names sc H2.objs.size s H fp) [] σ6 H8 s8:=I8.pins_of fun p hp=>by cases hp
    have I9:Inv (X.blk cp.names sc H2.objs.size s H fp) [] σ6 H8 {s8 with heap:=s8.heap.update s.heap.objs.size (Obj.mapSeq fun x=>x.push v),toks:=s8.toks}:=
     I8'.turned (it:=s.heap.objs.size) (fun b o hb e=>(j9_ _ _ (qf_ hb)).trans e) n8 hDC (.inr (jh_ _)) (fun x c e=>ncell _ (jh_ _) x c (BG I S e)) (fun p hp=>by cases hp)
    refine⟨m',hm,i+1,σ6,H8,ys++[y],its++[v],k',I9,T.keep (i+1) s5.heap _ st5 (fun b hb o e=>?_),fr8,n8,q,rv.append (.cons r8 .nil),w8⟩
    ·refine (j9_ _ _ ?_).trans (k8 b hb o e)
     intro z
     obtain⟨ob,eb⟩:=hobj b hb
     exact absurd (jy_ eb) (by rw[<-z];exact qi_ _)
 exact codeAny_compStart_list (loop _ rfl) (T.self _ 0 _ _ _ hst₁ (loop _ rfl))
theorem Ia (hc:X.calm=true)(S:BlkSc X sc)(hcp:DQ X.N sc cp)(hi:PI X tg iter wi)
  (hg:∀C s₀ H₀ ex,PG (X.blk cp.names sc C s₀ H₀ ex) tg g) (hf:∀C s₀ H₀ ex,PF (X.blk cp.names sc C s₀ H₀ ex) ifs tc) (he:∀C s₀ H₀ ex,PE (X.blk cp.names sc C s₀ H₀ ex) elt te)
  (hs:∀x,foldedSetIterable iter X.env x=pure x:=by intro _;rfl):PE X (.ListComp elt [⟨tg,iter,ifs,0⟩] sc pos) (QE wi cp g tc te):=by
 intro pins s σ H Q I h
 rw[eval_ListComp]
 refine wpAny_comprehension_free (use:=none) rfl hs (Ht (GC I S)) S.kind S.loc (thn (hi pins s σ H _ I h) fun xv s₁ h₁=>thn h₁ fun itv s₂ h₂=>?_)
 obtain⟨it,fp,tn,J,H2,e,I2,T,st2,f2,hw⟩:=h₂
 subst e
 refine Jh (RR:=fun acc C=>compPost (model X.prog X.w) X.A X.xe none (EP X pins σ Q) acc C) hc S hcp hg hf he I2 T st2 f2 hw ?_
 intro D C s' H' m I' q hn hC hL hz hcl hp
 exact⟨m,hn,fun h' hs'=>⟨.ref D,H',I'.turned (t':=s'.toks) (it:=C) (fun b o hb e=>hs'.extBut b o hb e) hC hL (.inr hz) hcl hp,rfl,q⟩⟩
theorem Ey    (hN:X.N.Nodup)(hi:X.N[i]?=some x)(hx:X.env.scope.names.lookup x=some .local)(hc:X.calm=true)(S:BlkSc X sc)(hcp:DQ X.N sc cp)(hit:PI X tg iter wi)
  (hg:∀C s₀ H₀ ex,PG (X.blk cp.names sc C s₀ H₀ ex) tg g) (hf:∀C s₀ H₀ ex,PF (X.blk cp.names sc C s₀ H₀ ex) ifs tc) (he:∀C s₀ H₀ ex,PE (X.blk cp.names sc C s₀ H₀ ex) elt te)
  (hsw:swapsWith (.ListComp elt [⟨tg,iter,ifs,0⟩] sc pos) (some (.Name x px)) spos.line X.env=pure true:=by rfl)
  (hs:∀x,foldedSetIterable iter X.env x=pure x:=by intro _;rfl):PS X (.Assign [.Name x px] (.ListComp elt [⟨tg,iter,ifs,0⟩] sc pos) spos) (tAsg (QE wi cp g tc te) (HJ i)):=by
 intro pins s σ H D I h
 rw[exec_Assign_Name_used _ _ _ _ hsw]
 refine je_ (wpAny_standAt (je_ ?_))
 show wpAny _ X.A (do let _ <- comprehension (.ListComp elt [⟨tg,iter,ifs,0⟩] sc pos) sc X.env _ (newList []) false (eval iter X.env) (some (assign (.Name x px) X.env))) _ _ s
 refine je_ (qz_ (wpAny_comprehension_free (use:=some (assign (.Name x px) X.env)) (Q:=fun _ s'=>SP X pins D .next s') rfl hs (Ht (GC I S)) S.kind S.loc
  (thn (hit pins s σ H _ I h) fun xv s₁ h₁=>thn h₁ fun itv s₂ h₂=>?_)) (fun _ s' hq=>jo_ (jo_ hq)) fun _ _ e=>e)
 obtain⟨it,fp,tn,J,H2,e,I2,T,st2,f2,hw⟩:=h₂
 subst e
 refine Jh (RR:=fun acc C=>compPost (model X.prog X.w) X.A X.xe (some (assign (.Name x px) X.env)) (fun _ s'=>SP X pins D .next s') acc C) (Q:=fun v H1=>HJ i v σ H1 D.nx) hc S hcp hg hf he I2 T st2 f2 hw ?_
 intro Dl C s' H' m I' q hn hC hL hz hcl hp
 show wpAny _ X.A (assign (.Name x px) X.env (.ref Dl)) _ _ _
 refine wpAny_assign_Name (IK I' hN hi (.inl hx) (v:=.ref Dl) rfl (fun s'' I'' ⟨a,hsb,ha⟩=>?_) (.inr hx))
 have hne:C≠a:=by
  rcases ha with rfl|ha
  ·exact hL
  ·exact fun z=>hcl _ _ ha z.symm
 refine⟨m,hn.sameBut hsb hne,fun h' hs'=>⟨_,H',I''.turned (t':=s''.toks) (it:=C) (fun b o hb e=>hs'.extBut b o hb e) hC hL (.inr hz) hcl hp,q⟩⟩
end
theorem Mp {K:α3}{a:Addr}{xs:List V}{g:TG}{tc:TT}{te:TE}{Q:VK}{σ:St}{H:Hp}(Pv:Nat->List V->St->Hp->Prop)(h0:Pv 0 [] σ H)(hz:xs.length<sizeLine)
  (hl:∀i ys σ H,i<=xs.length->Pv i ys σ H->SqL K H a xs/\ys.length<=i)
  (hs:∀i x ys σ H,xs[i]?=some x->Pv i ys σ H->g x σ H fun σ2 H2=>tc σ2 H2 fun b H3=>if b=true then te σ2 H3 fun v H4=>Pv (i+1) (ys++[v]) σ2 H4 else Pv (i+1) ys σ2 H3)
  (hd:∀ys σ H,Pv xs.length ys σ H->∀D,H D=none->Q (.ref D) (upd H D (.lst ys))):
  ∃W:Nat->Nat->List V->St->Hp->Prop,(∃m,W 0 m [] σ H)/\∀i m ys σ' H',W i m ys σ' H' ->
   ys.length<sizeLine/\(((Itl K a).stop i H'/\∀D,H' D=none->Q (.ref D) (upd H' D (.lst ys)))\/((Itl K a).go i H'/\∃N:List V->St->Hp->Prop,(∀zs σ2 H2,N zs σ2 H2->∃m',m'<m/\W (i+1) m' zs σ2 H2)/\∀x H2,(Itl K a).yld i H' x H2->g x σ' H2 fun σ2 H3=>tc σ2 H3 fun b H4=>
    if b=true then te σ2 H4 fun v H5=>N (ys++[v]) σ2 H5 else N ys σ2 H4)):=by
 refine⟨fun i m ys σ H=>m=xs.length-i/\i<=xs.length/\Pv i ys σ H,⟨xs.length,by simp,j1_ _,h0⟩,?_⟩
 rintro i m ys σ H ⟨rfl,hi,p⟩
 obtain⟨q,ly⟩:=hl i ys σ H hi p
 refine⟨by lia,?_⟩
 by_cases hlt:i<xs.length
 ·refine .inr ⟨⟨xs,xs[i],q,by simp[hlt]⟩,Pv (i+1),fun zs σ' H' p'=>⟨xs.length-(i+1),by lia,rfl,hlt,p'⟩,fun x H' y=>?_⟩
  obtain⟨e,y⟩:=y
  subst e
  exact hs i x ys σ _ (y xs q) p
 ·have e:i=xs.length:=by lia
  subst e
  exact .inl ⟨⟨xs,q,jh_ _⟩,hd ys σ H p⟩
theorem Of {K:α3}{a:Addr}{xs:List V}{g:TG}{tc:TT}{te:TE}{Q:VK}{σ:St}{H:Hp}(Pv:Nat->List V->St->Hp->Prop)(h0:Pv 0 [] σ H)(hz:xs.length<sizeLine)
  (hl:∀i ys σ H,i<=xs.length->Pv i ys σ H->SqT K H a xs/\ys.length<=i)
  (hs:∀i x ys σ H,xs[i]?=some x->Pv i ys σ H->g x σ H fun σ2 H2=>tc σ2 H2 fun b H3=>if b=true then te σ2 H3 fun v H4=>Pv (i+1) (ys++[v]) σ2 H4 else Pv (i+1) ys σ2 H3)
  (hd:∀ys σ H,Pv xs.length ys σ H->∀D,H D=none->Q (.ref D) (upd H D (.lst ys))):
  ∃W:Nat->Nat->List V->St->Hp->Prop,(∃m,W 0 m [] σ H)/\∀i m ys σ' H',W i m ys σ' H' ->
   ys.length<sizeLine/\(((Itt K a).stop i H'/\∀D,H' D=none->Q (.ref D) (upd H' D (.lst ys)))\/((Itt K a).go i H'/\∃N:List V->St->Hp->Prop,(∀zs σ2 H2,N zs σ2 H2->∃m',m'<m/\W (i+1) m' zs σ2 H2)/\∀x H2,(Itt K a).yld i H' x H2->g x σ' H2 fun σ2 H3=>tc σ2 H3 fun b H4=>
    if b=true then te σ2 H4 fun v H5=>N (ys++[v]) σ2 H5 else N ys σ2 H4)):=by
 refine⟨fun i m ys σ H=>m=xs.length-i/\i<=xs.length/\Pv i ys σ H,⟨xs.length,by simp,j1_ _,h0⟩,?_⟩
 rintro i m ys σ H ⟨rfl,hi,p⟩
 obtain⟨q,ly⟩:=hl i ys σ H hi p
 refine⟨by lia,?_⟩
 by_cases hlt:i<xs.length
 ·refine .inr ⟨⟨xs,xs[i],q,by simp[hlt]⟩,Pv (i+1),fun zs σ' H' p'=>⟨xs.length-(i+1),by lia,rfl,hlt,p'⟩,fun x H' y=>?_⟩
  obtain⟨e,y⟩:=y
  subst e
  exact hs i x ys σ _ (y xs q) p
 ·have e:i=xs.length:=by lia
  subst e
  exact .inl ⟨⟨xs,q,jh_ _⟩,hd ys σ H p⟩
theorem Lj {lo:Int}{n:Nat}{g:TG}{tc:TT}{te:TE}{Q:VK}{σ:St}{H:Hp}(Pv:Nat->List V->St->Hp->Prop)(h0:Pv 0 [] σ H)(hz:n<sizeLine)
  (hl:∀i ys σ H,i<=n->Pv i ys σ H->ys.length<=i)
  (hs:∀i ys σ H,i<n->Pv i ys σ H->g (.int (lo+i)) σ H fun σ2 H2=>tc σ2 H2 fun b H3=>if b=true then te σ2 H3 fun v H4=>Pv (i+1) (ys++[v]) σ2 H4 else Pv (i+1) ys σ2 H3)
  (hd:∀ys σ H,Pv n ys σ H->∀D,H D=none->Q (.ref D) (upd H D (.lst ys))):
  ∃W:Nat->Nat->List V->St->Hp->Prop,(∃m,W 0 m [] σ H)/\∀i m ys σ' H',W i m ys σ' H' ->
   ys.length<sizeLine/\(((Itr lo n).stop i H'/\∀D,H' D=none->Q (.ref D) (upd H' D (.lst ys)))\/((Itr lo n).go i H'/\∃N:List V->St->Hp->Prop,(∀zs σ2 H2,N zs σ2 H2->∃m',m'<m/\W (i+1) m' zs σ2 H2)/\∀x H2,(Itr lo n).yld i H' x H2->g x σ' H2 fun σ2 H3=>tc σ2 H3 fun b H4=>
    if b=true then te σ2 H4 fun v H5=>N (ys++[v]) σ2 H5 else N ys σ2 H4)):=by
 refine⟨fun i m ys σ H=>m=n-i/\i<=n/\Pv i ys σ H,⟨n,by simp,j1_ _,h0⟩,?_⟩
 rintro i m ys σ H ⟨rfl,hi,p⟩
 have ly:=hl i ys σ H hi p
 refine⟨by lia,?_⟩
 by_cases hlt:i<n
 ·refine .inr ⟨hlt,Pv (i+1),fun zs σ' H' p'=>⟨n-(i+1),by lia,rfl,hlt,p'⟩,fun x H' y=>?_⟩
  obtain⟨e,y⟩:=y
  subst e y
  exact hs i ys σ _ hlt p
 ·have e:i=n:=by lia
  subst e
  exact .inl ⟨jh_ _,hd ys σ H p⟩
end L2
namespace L2
open PySem PySem.Spec PyProof.Rows
section
variable {X:Cx}
theorem Dn:Dk X (.builtin "isinstance") (fun xs H Q=>∃x c cv t b,xs=[x,c]/\TyOf X.K H x t/\(∀u,RelV c u->u=cv)/\kitOne X.K t cv=some b/\Q (.bl b) H):=by
 intro pins s σ H xs us Q I r h
 obtain⟨x,c,cv,t,b,rfl,ty,hc,hk,q⟩:=h
 obtain⟨u,w',rfl,rx,rc⟩:=vals2 r
 rw[hc _ rc]
 exact LZ I rx ty hk fun tk=>⟨.bl b,H,I.tok tk,rfl,q⟩
noncomputable def EqD (K:α3)(H:Hp):Nat->V->V->Bool->Prop
 |0,x,y,b=>B7 x=true/\B7 y=true/\b=eqV x y
 |n+1,x,y,b=>(B7 x=true/\B7 y=true/\b=eqV x y) \/ ∃a c xs ys,x=.ref a/\y=.ref c/\((SqL K H a xs/\SqL K H c ys)\/(SqT K H a xs/\SqT K H c ys)) /\
   ∃e:Nat->Bool,(∀i x y,xs[i]?=some x->ys[i]?=some y->EqD K H n x y (e i))/\b=(decide (xs.length=ys.length)&&(List.range (min xs.length ys.length)).all e)
theorem in1_units (A:Around):A.in1.units=A.units+1:=rfl
theorem Ko  (h:B7 x=true):eqV x x=true:=by
 cases x<;>first|rfl|(simp[eqV];done)|exact absurd (show false=true from h) jn_
theorem EqD.self     (I:Inv X pins σ H s):∀(n:Nat) {x:V} {b:Bool},EqD X.K H n x x b->b=true:=by
 intro n
 induction n with
 |zero=>
  rintro x b ⟨fx,_,rfl⟩
  exact Ko fx
 |succ n ih=>
  rintro x b (⟨fx,_,rfl⟩|⟨a,c,xs,ys,rfl,e2,hq,e,he,rfl⟩)
  ·exact Ko fx
  ·cases e2
   have exy:xs=ys:=by
    rcases hq with ⟨h1,h2⟩|⟨h1,h2⟩
    ·exact I.list_inj h1 h2
    ·exact I.tuple_inj h1 h2
   subst exy
   simp only[decide_true,Bool.true_and,Nat.min_self,xY_,q2_]
   intro i hi
   exact ih (he i xs[i] xs[i] (by simp[hi]) (by simp[hi]))
theorem Mq   : ((List.range (min n m)).all e&&n==m)=(decide (n=m)&&(List.range (min n m)).all e):=by
 rw[Bool.and_comm]
 congr 1
theorem EqD.at     (I:Inv X pins σ H s):∀(n:Nat) (A:Around) {x y:V} {u v:Value} {b:Bool},A.units+n<cLine->RelV x u->RelV y v->EqD X.K H n x y b ->
  SeqAt.EqAt A s u v b/\∀a c,x=.ref a->y=.ref c->SeqAt.RcAt A s u v b:=by
 intro n
 induction n with
 |zero=>
  intro A x y u v b hu rx ry h
  obtain⟨fx,fy,rfl⟩:=h
  refine⟨L8 rx ry fx fy,?_⟩
  rintro a c rfl rfl
  exact absurd (show false=true from fx) jn_
 |succ n ih=>
  intro A x y u v b hu rx ry h
  have hself:=h
  rcases h with ⟨fx,fy,rfl⟩|⟨a,c,xs,ys,rfl,rfl,hq,e,he,rfl⟩
  ·refine⟨L8 rx ry fx fy,?_⟩
   rintro a c rfl rfl
   exact absurd (show false=true from fx) jn_
  ·cases rx
   cases ry
   have key:∀(its its2:List Value),Vals xs its->Vals ys its2->∀j (h1:j<its.toArray.size) (h2:j<its2.toArray.size),SeqAt.EqAt A.in1 s its.toArray[j] its2.toArray[j] (e j):=fun its its2 r1 r2 j h1 h2=>by
    have l1:=r1.length
    have l2:=r2.length
    rw[ji_]at h1 h2
    obtain⟨u1,g1,q1⟩:=r1.get (i:=j) (x:=xs[j]'s!"") (by simp[show j<xs.length by lia])
    obtain⟨u2,g2,q2⟩:=r2.get (i:=j) (x:=ys[j]'s!"") (by simp[show j<ys.length by lia])
    have k1:its.toArray[j]'(by rw[ji_];exact h1)=u1:=by
     have:=(jc_.mp g1).2
     simpa using this
    have k2:its2.toArray[j]'(by rw[ji_];exact h2)=u2:=by
     have:=(jc_.mp g2).2
     simpa using this
    rw[k1,k2]
    exact (ih A.in1 (by rw[in1_units];lia) q1 q2 (he j _ _ (by simp[show j<xs.length by lia]) (by simp[show j<ys.length by lia]))).1
   have rc:SeqAt.RcAt A s (.ref a) (.ref c) (decide (xs.length=ys.length)&&(List.range (min xs.length ys.length)).all e):=by
    rcases hq with ⟨h1,h2⟩|⟨h1,h2⟩
    ·obtain⟨its,r1,p1,_⟩:=I.list h1
     obtain⟨its2,r2,p2,_⟩:=I.list h2
     have l1:=r1.length
     have l2:=r2.length
     by_cases hl:xs.length=ys.length
     ·have:=SeqAt.RcAt.lists (e:=e) p1.isList p2.isList (by rw[ji_,ji_];lia) s!"" (key its its2 r1 r2)
      rw[ji_,<-l1]at this
      rw[qv_ hl,Bool.true_and,<-hl,Nat.min_self]
      exact this
     ·rw[j3_ hl,Bool.false_and]
      exact SeqAt.RcAt.lists_lengths p1.isList p2.isList (by rw[ji_,ji_];simp;lia) s!""
    ·obtain⟨its,r1,p1,_⟩:=I.tuple h1
     obtain⟨its2,r2,p2,_⟩:=I.tuple h2
     have l1:=r1.length
     have l2:=r2.length
     have:=SeqAt.RcAt.tuples (e:=e) (show s.heap.IsTuple a its.toArray from p1) (show s.heap.IsTuple c its2.toArray from p2) s!"" (key its its2 r1 r2)
     rw[ji_,ji_,<-l1,<-l2,Mq]at this
     exact this
   refine⟨?_,fun a' c' _ _=>rc⟩
   by_cases hac:a=c
   ·subst hac
    rw[EqD.self I (n+1) hself]
    exact SeqAt.EqAt.same _
   ·exact SeqAt.EqAt.of_refs hac rc
theorem EqD.flat {K:α3}    (hq:(SqL K H a xs/\SqL K H c ys)\/(SqT K H a xs/\SqT K H c ys))(fx:∀x∈xs,B7 x=true)(fy:∀y∈ys,B7 y=true)(hi:∀x∈xs,∀y∈ys,eqV x y=decide (x=y))(n:Nat):
  EqD K H (n+1) (.ref a) (.ref c) (decide (xs=ys)):=by
 have base:∀m i x y,xs[i]?=some x->ys[i]?=some y->EqD K H m x y (decide (x=y)):=fun m i x y h1 h2=>by
  have m1:=jl_ h1
  have m2:=jl_ h2
  cases m with
  |zero=>exact⟨fx _ m1,fy _ m2,(hi _ m1 _ m2).symm⟩
  |succ m=>exact .inl ⟨fx _ m1,fy _ m2,(hi _ m1 _ m2).symm⟩
 refine .inr ⟨a,c,xs,ys,rfl,rfl,hq,fun i=>match xs[i]?,ys[i]? with|some x,some y=>decide (x=y)|_,_=>true,fun i x y h1 h2=>?_,?_⟩
 ·simp only[h1,h2]
  exact base n i x y h1 h2
 ·rw[qj_]
  simp only[jN_,qn_,xY_,q2_]
  constructor
  ·rintro rfl
   refine⟨rfl,fun i hi=>?_⟩
   have hi:i<xs.length:=by lia
   simp[hi]
  ·rintro⟨hl,h⟩
   refine xN_ fun i=>?_
   by_cases hi:i<xs.length
   ·have:=h i s!""
    simp[hi,show i<ys.length by lia]at this
    simp[hi,show i<ys.length by lia,this]
   ·rw[qB_ s!"",qB_ s!""]
end
end L2
namespace L2
open PySem PySem.Spec PyProof.Rows
noncomputable def RV (outer:List (Str×NameKind))(sc:Scope):Bool:=
 sc.kind == .function&&sc.names.all (fun y=>y.2 != .cell&&(y.2 != .local||sc.names.lookup y.1==some .local)&&(y.2 != .free||outer.lookup y.1==some .cell||outer.lookup y.1==some .free))
theorem DR   (h:RV X.env.scope.names sc=true):BlkSc X sc:=by
 unfold RV at h
 rw[qn_,xY_]at h
 obtain⟨h1,h2⟩:=h
 refine⟨by simpa using h1,fun y hy z=>?_,fun y hy z=>?_,fun y hy z=>?_⟩
 ·have:=h2 y hy
  simp only[qn_]at this
  have:=this.1.1
  rw[z]at this
  exact absurd this (by decide)
 ·have:=h2 y hy
  simp only[qn_]at this
  have:=this.1.2
  rw[z]at this
  simpa using this
 ·have:=h2 y hy
  simp only[qn_]at this
  have:=this.2
  rw[z]at this
  have t:(X.env.scope.names.lookup y.1==some .cell||X.env.scope.names.lookup y.1==some .free)=true:=by simpa using this
  rw[Bool.or_eq_true]at t
  rcases t with t|t
  ·exact .inl (by show X.env.scope.names.lookup y.1=some .cell;simpa using t)
  ·exact .inr (by show X.env.scope.names.lookup y.1=some .free;simpa using t)
section
variable {t u:TS} {te ta tb tc':TE} {tt tu:TT} {A B:TA} {D:Ends} {σ:St} {H:Hp} {Q:VK} {R:Bool->Hp->Prop} {S:List V->Hp->Prop} {i:Nat} {v:V} {g:TG} {r r':R2} {K:α3} {wi:TI} {cp:Caps}
theorem RW:tSeq t u D σ H=t {D with nx:=u D} σ H:=rfl
theorem OZ:Ry D σ H=D.nx σ H:=rfl
theorem RX:tAsg te g D σ H=te σ H fun x H1=>g x σ H1 D.nx:=rfl
theorem Mr  : HJ i v σ H N=N (σ.set i (some v)) H:=rfl
theorem RY:tVar i σ H Q=∃v,σ[i]?=some (some v)/\Q v H:=rfl
theorem r_c:tC v σ H Q=Q v H:=rfl
theorem r_op:tOp r ta tb σ H Q=ta σ H fun x H1=>tb σ H1 fun y H2=>r x y H2 Q:=rfl
theorem r_un  : tUn f ta σ H Q=ta σ H fun x H1=>f x H1 Q:=rfl
theorem r_I    : rI C f x y H Q=∃i j,x=.int i/\y=.int j/\C i j/\Q (f i j) H:=rfl
theorem r_I0   : rI0 f x y H Q=∃i j,x=.int i/\y=.int j/\Q (f i j) H:=rfl
theorem r_U   : rU f x H Q=∃i,x=.int i/\Q (f i) H:=rfl
theorem O0    : Qq sp dvs E A σ H Q=A σ H fun vs H1=>sp (vs++dvs) H1 Q E:=rfl
theorem O1:RG te A σ H S=te σ H fun x H1=>A σ H1 fun xs H2=>S (x::xs) H2:=rfl
theorem RZ:tNil σ H S=S [] H:=rfl
theorem R1:tRet te D σ H=te σ H D.rt:=rfl
theorem O2:Rz te D σ H=te σ H fun _ H1=>D.nx σ H1:=rfl
theorem r_if:tIfS tt t u D σ H=tt σ H fun b H1=>if b=true then t D σ H1 else u D σ H1:=rfl
theorem r_B:tB te σ H R=te σ H fun x H1=>∃c,x=.bl c/\R c H1:=rfl
theorem O3:N7 te σ H R=te σ H fun x H1=>∃c,x=.bl c/\R c H1:=rfl
theorem R3:tAnd tt tu σ H R=tt σ H fun c H1=>if c=true then tu σ H1 R else R false H1:=rfl
theorem r_or:tOr tt tu σ H R=tt σ H fun c H1=>if c=true then R true H1 else tu σ H1 R:=rfl
theorem R4:tNot tt σ H R=tt σ H fun c H1=>R (!c) H1:=rfl
theorem O4:Rw ta tb σ H Q=ta σ H fun x H1=>∃c,x=.bl c/\if c=true then tb σ H1 Q else Q (.bl false) H1:=rfl
theorem O5:Rx ta σ H Q=ta σ H fun x H1=>∃c,x=.bl c/\Q (.bl (!c)) H1:=rfl
theorem R5:tIf tt ta tb σ H Q=tt σ H fun c H1=>if c=true then ta σ H1 Q else tb σ H1 Q:=rfl
theorem r_CB  : tCB f A σ H Q=A σ H fun vs H1=>f vs H1 Q:=rfl
theorem R6:tLst A σ H Q=A σ H fun xs H1=>xs.length<=sizeLine/\∀p,H1 p=none->Q (.ref p) (upd H1 p (.lst xs)):=rfl
theorem R7:tTup A σ H Q=A σ H fun xs H1=>xs.length<=sizeLine/\∀p,H1 p=none->Q (.ref p) (upd H1 p (.tup xs)):=rfl
theorem R8  : rIxL K x y H Q=∃p xs i v,x=.ref p/\y=.int i/\SqL K H p xs/\atI xs i=some v/\Q v H:=rfl
theorem R9  : rIxT K x y H Q=∃p xs i v,x=.ref p/\y=.int i/\SqT K H p xs/\atI xs i=some v/\Q v H:=rfl
theorem r_sl   : tSl f te tl th σ H Q=te σ H fun x H1=>tl σ H1 fun l H2=>th σ H2 fun u H3=>f x l u H3 Q:=rfl
theorem O6  : RJ te σ H U=te σ H fun x H1=>∃i,x=.int i/\U (some i) H1:=rfl
theorem Kp  : L4 σ H U=U none H:=rfl
theorem Sa  {lo hi:Option Int}:rSlL K x lo hi H Q=∃a xs,x=.ref a/\SqL K H a xs/\∀p,H p=none->Q (.ref p) (upd H p (.lst (cutV xs lo hi))):=rfl
theorem r_BM   : tBM K T f te A σ H Q=te σ H fun x H1=>tyV K T x H1/\A σ H1 fun xs H2=>f x xs H2 Q:=rfl
theorem Sb   : tBM0 K T f te σ H Q=te σ H fun x H1=>tyV K T x H1/\f x [] H1 Q:=rfl
theorem Kq   : Ma x vs H Q=∃l xs y,x=.ref l/\vs=[y]/\H l=some (.lst xs)/\xs.length<sizeLine/\Q .non (upd H l (.lst (xs++[y]))):=rfl
theorem O7    : gSub to ti ts v σ H N=to σ H fun o H1=>ti σ H1 fun i H2=>ts o i v H2 fun H3=>N σ H3:=rfl
theorem O8   : RM o k v H N=∃p xs m j,o=.ref p/\k=.int m/\H p=some (.lst xs)/\ixN xs.length m=some j/\N (upd H p (.lst (xs.set j v))):=rfl
theorem r_Eq  : rEq x y H Q=(scal x y=true/\Q (.bl (decide (x=y))) H):=rfl
theorem r_Ne  : rNe x y H Q=(scal x y=true/\Q (.bl (!decide (x=y))) H):=rfl
theorem Se  : rLtT K x y H Q=∃a b ns ms,x=.ref a/\y=.ref b/\SqT K H a (ns.map V.int)/\SqT K H b (ms.map V.int)/\Q (.bl (HT.lexLt ns ms)) H:=rfl
theorem Ms  : RC K te σ H Z=te σ H fun x H1=>∃a,x=.ref a/\(∃xs,SqL K H1 a xs)/\Z (Itl K a) H1:=rfl
theorem O9  : iTup K te σ H Z=te σ H fun x H1=>∃a,x=.ref a/\(∃xs,SqT K H1 a xs)/\Z (Itt K a) H1:=rfl
theorem Mt  : RD A σ H Z=A σ H fun vs H1=>∃j:Int,vs=[.int j] /\ -(2 ^ 62)<=j/\j<2 ^ 62/\Z (Itr 0 j.toNat) H1:=rfl
theorem Sf  : tAug i te ti D σ H=∃x,σ[i]?=some (some x)/\te σ H fun y H1=>ti x y H1 fun z H2=>D.nx (σ.set i (some z)) H2:=rfl
theorem r_ip   : ipI f x y H Q=∃i j,x=.int i/\y=.int j/\Q (.int (f i j)) H:=rfl
theorem Pb:QD σ H R=R true H:=rfl
end
theorem Same.new    (h:H p=none):Same H (upd H p o):=fun b u e=>by rw[Ag (AO e h)];exact e
theorem Same.newT    (s:Same H H')(h:H' p=none):Same H (upd H' p o):=s.trans (Same.new h)
theorem Same.over    (s:Same H H')(h:H p=none):Same H (upd H' p o):=fun b u e=>by rw[Ag (AO e h)];exact s b u e
theorem Al    (h:upd H p o D=none):H D=none/\D≠p:=by
 by_cases e:D=p
 ·subst e;rw[Ab]at h;cases h
 ·rw[Ag e]at h;exact⟨h,e⟩
theorem Same.seqT {K:α3}    (e:Same H H')(h:SqT K H a xs):SqT K H' a xs:=by
 rcases h with (h|⟨o,h⟩)|h
 ·exact .inl (.inl (e _ _ h))
 ·exact .inl (.inr ⟨o,e _ _ h⟩)
 ·exact .inr h
theorem hu9   (hr:Room k A):A.units+8<cLine:=by have:=hr.units;lia
section
variable {K:α3} {wi:TI} {cp:Caps} {g:TG} {tc:TT} {te:TE} {σ:St} {H:Hp} {Q:VK}
theorem Sg               : (cxOf CX P w K mg base N qual scope f cd A outer s H E).K=K:=rfl
noncomputable def JO (J:It)(cp:Caps)(g:TG)(tc:TT)(te:TE)(σ:St)(H1:Hp)(Q:VK):Prop:=∃W:Nat->Nat->List V->St->Hp->Prop,(∃m,W 0 m [] (cp.st σ) H1)/\∀i m ys σ' H',W i m ys σ' H' ->
 ys.length<sizeLine/\((J.stop i H'/\∀D,H' D=none->Q (.ref D) (upd H' D (.lst ys)))\/(J.go i H'/\∃N:List V->St->Hp->Prop,(∀zs σ2 H2,N zs σ2 H2->∃m',m'<m/\W (i+1) m' zs σ2 H2)/\∀x H2,J.yld i H' x H2->g x σ' H2 fun σ2 H3=>tc σ2 H3 fun b H4=>
  if b=true then te σ2 H4 fun v H5=>N (ys++[v]) σ2 H5 else N ys σ2 H4))
theorem Pd:QE wi cp g tc te σ H Q=wi σ H fun J H1=>JO J cp g tc te σ H1 Q:=rfl
noncomputable def ForW (J:It)(g:TG)(tb:TS)(D:Ends)(σ:St)(H1:Hp):Prop:=∃W:Nat->Nat->St->Hp->Prop,(∃m,W 0 m σ H1)/\∀i m σ H,W i m σ H ->
 (J.stop i H/\D.nx σ H)\/(J.go i H/\∃N:St->Hp->Prop,(∀σ' H',N σ' H'->∃m',m'<m/\W (i+1) m' σ' H')/\∀x H',J.yld i H x H'->g x σ H' fun σ2 H2=>tb {D with nx:=N,ct:=N,bk:=D.nx} σ2 H2)
theorem Sh   : tFor wi g tb D σ H=wi σ H fun J H1=>ForW J g tb D σ H1:=rfl
theorem forL        (Pv:Nat->St->Hp->Prop)(h0:Pv 0 σ H)(hl:∀i σ H,i<=xs.length->Pv i σ H->SqL K H a xs)
  (hs:∀i x σ H,xs[i]?=some x->Pv i σ H->g x σ H fun σ2 H2=>tb {D with nx:=Pv (i+1),ct:=Pv (i+1),bk:=D.nx} σ2 H2) (hd:∀σ H,Pv xs.length σ H->D.nx σ H):ForW (Itl K a) g tb D σ H:=N6 Pv h0 hl hs hd
theorem forT        (Pv:Nat->St->Hp->Prop)(h0:Pv 0 σ H)(hl:∀i σ H,i<=xs.length->Pv i σ H->SqT K H a xs)
  (hs:∀i x σ H,xs[i]?=some x->Pv i σ H->g x σ H fun σ2 H2=>tb {D with nx:=Pv (i+1),ct:=Pv (i+1),bk:=D.nx} σ2 H2) (hd:∀σ H,Pv xs.length σ H->D.nx σ H):ForW (Itt K a) g tb D σ H:=Qo Pv h0 hl hs hd
theorem forR {lo:Int}       (Pv:Nat->St->Hp->Prop)(h0:Pv 0 σ H)
  (hs:∀i σ H,i<n->Pv i σ H->g (.int (lo+i)) σ H fun σ2 H2=>tb {D with nx:=Pv (i+1),ct:=Pv (i+1),bk:=D.nx} σ2 H2) (hd:∀σ H,Pv n σ H->D.nx σ H):ForW (Itr lo n) g tb D σ H:=LP Pv h0 hs hd
theorem QF   (Pv:Nat->List V->St->Hp->Prop)(h0:Pv 0 [] (cp.st σ) H)(hz:xs.length<sizeLine)
  (hl:∀i ys σ H,i<=xs.length->Pv i ys σ H->SqL K H a xs/\ys.length<=i)
  (hs:∀i x ys σ H,xs[i]?=some x->Pv i ys σ H->g x σ H fun σ2 H2=>tc σ2 H2 fun b H3=>if b=true then te σ2 H3 fun v H4=>Pv (i+1) (ys++[v]) σ2 H4 else Pv (i+1) ys σ2 H3)
  (hd:∀ys σ H,Pv xs.length ys σ H->∀D,H D=none->Q (.ref D) (upd H D (.lst ys))):JO (Itl K a) cp g tc te σ H Q:=Mp Pv h0 hz hl hs hd
theorem Si   (Pv:Nat->List V->St->Hp->Prop)(h0:Pv 0 [] (cp.st σ) H)(hz:xs.length<sizeLine)
  (hl:∀i ys σ H,i<=xs.length->Pv i ys σ H->SqT K H a xs/\ys.length<=i)
  (hs:∀i x ys σ H,xs[i]?=some x->Pv i ys σ H->g x σ H fun σ2 H2=>tc σ2 H2 fun b H3=>if b=true then te σ2 H3 fun v H4=>Pv (i+1) (ys++[v]) σ2 H4 else Pv (i+1) ys σ2 H3)
  (hd:∀ys σ H,Pv xs.length ys σ H->∀D,H D=none->Q (.ref D) (upd H D (.lst ys))):JO (Itt K a) cp g tc te σ H Q:=Of Pv h0 hz hl hs hd
theorem Og {lo:Int}  (Pv:Nat->List V->St->Hp->Prop)(h0:Pv 0 [] (cp.st σ) H)(hz:n<sizeLine)
  (hl:∀i ys σ H,i<=n->Pv i ys σ H->ys.length<=i)
  (hs:∀i ys σ H,i<n->Pv i ys σ H->g (.int (lo+i)) σ H fun σ2 H2=>tc σ2 H2 fun b H3=>if b=true then te σ2 H3 fun v H4=>Pv (i+1) (ys++[v]) σ2 H4 else Pv (i+1) ys σ2 H3)
  (hd:∀ys σ H,Pv n ys σ H->∀D,H D=none->Q (.ref D) (upd H D (.lst ys))):JO (Itr lo n) cp g tc te σ H Q:=Lj Pv h0 hz hl hs hd
end
noncomputable def tCut (t u:TS):TS:=fun D σ H=>∃R:St->Hp->Prop,t {D with nx:=R} σ H/\∀σ' H',R σ' H'->u D σ' H'
theorem DS  {st:Stmt}{rest:List Stmt}  (h1:PS X st t)(h2:PSs X rest u):PSs X (st::rest) (tCut t u):=by
 intro pins s σ H D I h
 obtain⟨R,ha,hb⟩:=h
 refine wpAny_execs_cons (thn (h1 pins s σ H {D with nx:=R} I ha) fun f s1 q=>?_)
 cases f with
 |next=>
  obtain⟨σ',H',I',q⟩:=q
  exact h2 pins s1 σ' H' D I' (hb σ' H' q)
 |ret v=>exact q
 |brk=>exact q
 |cont=>exact q
theorem Au:1000000<sizeLine:=by rw[sizeLine_eq];decide
theorem Ge {ns:α2}{x:V}(h:x∈ns.map V.int):∃n,n∈ns/\x=.int n:=by
 obtain⟨n,hn,e⟩:=qh_.mp h
 exact⟨n,hn,e.symm⟩
theorem A1 {ns:α2}{i:Nat}{x:V}(h:(ns.map V.int)[i]?=some x):∃n,ns[i]?=some n/\x=.int n:=by
 rw[jw_]at h
 cases e:ns[i]? with
 |none=>rw[e]at h;cases h
 |some n=>rw[e]at h;exact⟨n,rfl,(jH_ h).symm⟩
noncomputable def cutI (ns:α2)(lo hi:Option Int):α2:=(ns.drop (HT.sIx ns.length 0 lo)).take (HT.sIx ns.length ns.length hi-HT.sIx ns.length 0 lo)
theorem Gf (ns:α2)(lo hi:Option Int):cutV (ns.map V.int) lo hi=(cutI ns lo hi).map V.int:=by
 unfold cutV cutI
 rw[jd_,<-List.map_drop,<-List.map_take]
theorem Mu     (h0:0<=i)(h:xs[i.toNat]?=some v):atI xs i=some v:=by
 have:=AE h
 rwa [show ((i.toNat:Nat):Int)=i by lia]at this
theorem Kr {K:α3}  : kitOne K t t=some true:=by unfold kitOne;rw[if_pos (by simp)]
theorem Ji {K:α3}:kitOne K (.type "int") (.type "bool")=some false:=by
 first|rfl|decide +kernel|(unfold kitOne;kernel_rfl)
theorem Mv  : ∀u,RelV (V.ty n) u->u=.type n:=fun _ h=>h
theorem Mw  : ∀u,RelV (V.ref a) u->u=.ref a:=fun _ h=>h
end L2
namespace L2
open PySem PySem.W PySem.Spec PySem.Calls PyProof.Rows
section
variable {prog:Program} {w:World} {A:Around} {E:Value->Shared->Prop} {s:Shared} {K:Frag} {x D:Addr} {ox:Obj}
structure ExcCls (K:Frag)(D:Addr):Prop where
 ga:findIn K (.ref D) "__getattribute__"=some (some (.builtin "BaseException.__getattribute__"))
 hk:findIn K (.ref D) "__getattr__"=some none
 cl:(clsIn K D).isSome=true
 ca:findIn K (.ref D) "__class__"=some (some (.builtin "object.__class__"))
 gs:specialIn K (.builtin "object.__class__") "__get__"=some (some (.builtin "getset_descriptor.__get__"))
 tk:takesIn K (.builtin "object.__class__")=some true
 mo:mroIn K D (.type "object")=some true
 mb:mroIn K D (.type "BaseException")=some true
noncomputable def Ib (x D:Addr)(h:Heap):Prop:=∃ox,h.get? x=some ox/\ox.cls=.ref D
theorem Ib.type   (I:Ib x D h):Looks M h (typeOf (.ref x)) (.ref D):=by
 obtain⟨ox,h1,h2⟩:=I
 exact h2 ▸ (Looks.ld h1).andThen .now
theorem Oh   (X:K.In h)(C:ExcCls K D):Looks M h (Builtin.ObjectAttr.find (.ref x) (.ref D) "__class__") (.bind (.builtin "getset_descriptor.__get__") (.builtin "object.__class__")):=
 (looks_findIn X C.ca).andThen ((show Looks M h (Builtin.ObjectAttr.getOf (some (.builtin "object.__class__"))) _ from looks_specialIn X C.gs).andThen
  ((show Looks M h (Builtin.ObjectAttr.dataDescriptor? (some (.builtin "object.__class__")) (some (.builtin "getset_descriptor.__get__"))) (some (.builtin "getset_descriptor.__get__",.builtin "object.__class__")) from (looks_takesIn X C.tk).andThen .now).andThen (Looks.tag .now)))
open Builtin Builtin.ObjectAttr Builtin.Getset_descriptor in
theorem QG {R:Result->Shared->Prop}{tp:Value}(X:K.In s.heap)(I:Ib x D s.heap)(hm:mroIn K D (.type "object")=some true)(h:R (.ok (.ret (.ref D))) s):codeAny (model prog w) A (.call (.builtin "getset_descriptor.__get__") ⟨[.builtin "object.__class__",.ref x,tp],[]⟩) R s:=by
 have l0:=I.type (M:=model prog w)
 have l1:=looks_mroIn (M:=model prog w) X hm
 obtain⟨_,_,_,_,_⟩:=s
 have sg:=KF.slot_gs
 refine codeAny_call_builtin sg.plain KF.entry_gs (sg.check _ _ _ _ _ _ _ _ KF.type_class (KF.args_gs _ _ _) ?_)
 unfold Builtin.«getset_descriptor.__get__» descrGet
 rw[dga_obj]
 unfold descrGetter descrCheckInstance isInstance descrNameAndClass
 refine je_ (jo_ ?_)
 simp only[KF.owner_class]
 repeat lk
 refine⟨Code.quiet_builtin _ (by decide +kernel),qt_ KF.entry_class ?_⟩
 unfold Builtin.«object.__class__» shownTypeOf
 repeat lk
 exact h
theorem My    (X:K.In s.heap)(I:Ib x D s.heap)(C:ExcCls K D)(hq:Q () s):wpAny M A (checkBuiltinCall "BaseException.__getattribute__" ⟨[.ref x,nameV],[]⟩) Q E s:=by
 have a1:=F.args_bexc_ga (.ref x) nameV
 have l0:=I.type (M:=M)
 have l1:=looks_mroIn (M:=M) X C.mb
 obtain⟨_,_,_,_,_⟩:=s
 simp only[checkBuiltinCall,show builtinKind "BaseException.__getattribute__"=some .slot by decide +kernel,show splitId "BaseException.__getattribute__"=some ("BaseException","__getattribute__") by decide +kernel,isInstance]
 repeat (first|lk|wp_step)
 exact hq
theorem Mz   (X:K.In s.heap)(I:Ib x D s.heap)(C:ExcCls K D)(hq:Q (.done (.ret (.ref D))) s):wpAny (model prog w) A (Builtin.«object.__getattribute__» ⟨[.ref x,.str "__class__" tk],[]⟩) Q E s:=by
 obtain⟨hh,g,d,t,os⟩:=s
 have L0:=I.type (M:=model prog w)
 have L1:=Oh (M:=model prog w) (x:=x) X C
 unfold Builtin.«object.__getattribute__»
 refine je_ (jo_ ?_)
 refine je_ (jo_ ?_)
 refine je_ (L0.at ?_)
 refine je_ (L1.at ?_)
 show wpAny _ _ (Builtin.ObjectAttr.bindTo _ _ _ _) _ _ _
 unfold Builtin.ObjectAttr.bindTo
 dsimp only
 refine je_ (qd_ (zf_ (QG (K:=K) (s:=⟨hh,g,d,t,os⟩) X I C.mo ?_)))
 exact jo_ hq
theorem MA  (X:K.In s.heap)(I:Ib x D s.heap)(C:ExcCls K D)(h:Q (some (.ref D)) {s with toks:=s.toks+1}):wpAny (model prog w) A (getAttr? (.ref x) "__class__") Q E s:=by
 obtain⟨hh,g,d,t,os⟩:=s
 have L0:=I.type (M:=model prog w)
 have L1:=looks_findIn (M:=model prog w) X C.ga
 have L2:=looks_findIn (M:=model prog w) X C.hk
 unfold getAttr? getAttrBy? getAttrBy
 refine je_ (wpAny_mkText (je_ (x3_ (qd_ (je_ (L0.at (je_ (L1.at ?_))))))))
 show wpAny _ _ (getAttrByItsOwn _ _ _ _ _ _) _ _ _
 unfold getAttrByItsOwn hookBefore
 refine je_ ?_
 rw[if_pos (by rfl)]
 refine L2.at (je_ (x3_ (qd_ ?_)))
 unfold callGetattribute
 rw[if_neg (by decide)]
 unfold boundAndCalled
 have f3:=PySem.F.attr_ValueError.ga.bind (.ref x)
 refine je_ (wpAny_of_eq f3 ?_)
 refine zf_ (codeAny_call_builtin PySem.F.attr_ValueError.ga.plain F.entry_bexc_ga (My (K:=K) (s:=⟨hh,g,d,t+1,os⟩) X I C (Mz (K:=K) (s:=⟨hh,g,d,t+1,os⟩) X I C ?_)))
 exact jo_ (jo_ h)
theorem Oi (C:ExcCls K D):KitX K (.ref x) (.ref D) (Ib x D):=by
 have cl:=C.cl
 unfold clsIn at cl
 refine⟨fun _ _ _ I=>I.type,fun _ _ X _=>?_,fun h tp dd its n sl X htp=>?_,fun X I k=>MA X I C k⟩
 ·split at cl
  ·rename_i ho
   intro A' Q' E' s' k q
   exact je_ (wpAny_loadPart (k _ _ (X _ _ ho)) (jo_ q))
  ·cases cl
 ·split at cl
  ·rename_i ho
   cases hb:(Value.ref D==Value.ref tp) with
   |false=>rfl
   |true=>
    obtain rfl:D=tp:=Value.ref.inj (beq_iff_eq.mp hb)
    cases (X _ _ ho).symm.trans htp
  ·cases cl
end
section
variable {P:Program} {w:World}
theorem AX.there     (x:AX P w H h a o):∃ob,h.get? a=some ob:=by
 induction o with
 |lst xs=>obtain⟨_,_,_,_,e⟩:=x;exact⟨_,e⟩
 |tup xs=>obtain⟨_,_,_,ob,e,_⟩:=x;exact⟨_,e⟩
 |dK kvs=>obtain⟨_,_,_,_,o,_,_,e,_⟩:=x;exact⟨_,e⟩
 |dT kvs=>obtain⟨_,_,_,_,o,_,_,e,_⟩:=x;exact⟨_,e⟩
 |set S n=>obtain⟨o,_,_,_,e,_⟩:=x;exact⟨_,e⟩
 |ins C dx fs=>obtain⟨_,_,_,e,_⟩:=x;exact⟨_,e⟩
 |own y=>obtain⟨_,e⟩:=x;exact⟨_,e⟩
 |xd fs=>obtain⟨_,⟨_,_,_,e,_⟩,_⟩:=x;exact⟨_,e⟩
 |rng lo hi=>obtain⟨_,_,_,e⟩:=x;exact⟨_,e⟩
 |frz ob u ih=>obtain⟨e,_⟩:=x;exact⟨_,e⟩
 |tbl ps=>exact⟨_,(show h.get? a=some _ from x)⟩
 |met f y=>exact⟨_,(show h.get? a=some _ from x)⟩
 |ext φ=>obtain⟨_,⟨_,e⟩,_⟩:=x;exact⟨_,e⟩
structure Fly (P:Program)(w:World)(fs:List Addr)(H1 H':Hp)(h1 g B:Heap):Prop where
 un:Un fs [] H1 H' h1 g
 hok:HOk P w H' g
 cov:∀b o,g.get? b=some o->(H' b≠none \/ ∃o',h1.get? b=some o')->b∉fs->B.get? b=some o
theorem Fly.move  {H1 H':Hp}{h1 g B h2:Heap}(x:Fly P w fs H1 H' h1 g B)(frees:∀b∈fs,H' b=none)(st:B.StaysIn h2)(up:∀b∈fs,∀o,g.get? b=some o->∃sl,h2.get? b=some {o with slots:=sl}):Fly P w fs H1 H' h1 h2 B:=by
 have keep:∀b o,g.get? b=some o->(H' b≠none \/ ∃o',h1.get? b=some o')->b∉fs->h2.get? b=some o:=fun b o e h n=>st b o (x.cov b o e h n)
 have nfs:∀b u,H' b=some u->b∉fs:=fun b u e z=>by rw[frees b z]at e;cases e
 refine⟨⟨fun b o e n hb hx=>?_,fun b o e n hb hx=>?_,fun b o e n hx=>x.un.free b o e n hx,fun b o e hx=>?_,x.un.tups,x.un.frzs,x.un.tbls⟩,fun b u e=>?_,fun b o e h n=>?_⟩
 ·exact keep b o (x.un.keep b o e n hb hx) (.inr ⟨o,e⟩) hb
 ·obtain⟨sl,e1⟩:=x.un.slot b o e n hb hx
  obtain⟨sl',e2⟩:=up b hb _ e1
  exact⟨sl',e2⟩
 ·obtain⟨o',e1⟩:=x.un.there b o e hx
  by_cases hb:b∈fs
  ·obtain⟨sl',e2⟩:=up b hb _ e1
   exact⟨_,e2⟩
  ·exact⟨o',keep b o' e1 (.inr ⟨o,e⟩) hb⟩
 ·refine (x.hok b u e).stay (fun c v hc q=>?_) (fun _ q=>q) fun _ _ q=>q
  rcases hc with rfl|hc
  ·exact keep c v q (.inl (by rw[e];simp)) (nfs c u e)
  ·exact keep c v q (.inl (by rw[hc];simp)) (nfs c _ hc)
 ·-- B has it still
  have ⟨o1,e1⟩:∃o1,g.get? b=some o1:=by
   rcases h with h|⟨o',h⟩
   ·cases q:H' b with
    |none=>exact absurd q h
    |some u=>exact (x.hok b u q).there
   ·exact x.un.there b o' h (by simp)
  have e2:=x.cov b o1 e1 h n
  have e3:=st b o1 e2
  rw[e]at e3
  cases e3
  exact e2
noncomputable def CXe (P:Program)(w:World):CXT:=fun outer H s E e s'=>∃(ea:Addr) (cls a0:Value) (H':Hp) (B:Heap),e=.ref ea/\s'.os=s.os/\AllBare s'.gens/\Fly P w (frs outer) H H' s.heap s'.heap B/\Heap.FlyingW B outer ea cls a0 s'.heap/\E cls none H'
theorem Jj    {H1 H':Hp}  {g B:Heap}(I:Inv X pins σ H1 s1)(x:Fly P w (frs X.stack) H1 H' s1.heap g B):∀b∈frs X.stack,H' b=none:=fun b hb=>by
 obtain⟨_,o,ho,_⟩:=I.stack.mem hb
 exact x.un.free b o ho (I.stkFree b hb) (by simp)
theorem Sj {K:α3}
   {H1:Hp}
  (I:Inv (cxOf (CXe P w) P w K mg base N qual scope f cd A outer s H E) pins σ H1 s1) (hx:Heap.MadeExcOf s1.heap h' ea cls vs) (q:E cls none H1):
  (cxOf (CXe P w) P w K mg base N qual scope f cd A outer s H E).xe (.ref ea) {s1 with heap:=h' }:=by
 have fr:(cxOf (CXe P w) P w K mg base N qual scope f cd A outer s H E).A.frames=some (envOfC qual scope s.heap.objs.size f cd::outer):=I.ok.frames
 have hin:∀env∈(envOfC qual scope s.heap.objs.size f cd::outer),∀b,env.frame=some b->b∈frs (envOfC qual scope s.heap.objs.size f cd::outer):=fun env he b hb=>zc_.mpr ⟨env,he,hb⟩
 have stk:=I.stack
 have fl:Fly P w (frs (envOfC qual scope s.heap.objs.size f cd::outer)) H1 H1 s1.heap s1.heap (PySem.W.hideAll s1.heap (frs (envOfC qual scope s.heap.objs.size f cd::outer))):=⟨Un.refl,I.hok,fun b o e _ n=>PySem.W.hideAll_get _ e n⟩
 refine wpAny_leaves_madeW (base:=PySem.W.hideAll s1.heap (frs (envOfC qual scope s.heap.objs.size f cd::outer))) (h:=s1.heap) fr rfl (fun b o q=>PySem.W.of_hideAll _ q) ?_ hx fun h'' t fw' ht hnt ups=>?_
 ·exact PySem.W.funFrames_hide stk hin
 ·have fl2:=fl.move (Jj (X:=cxOf (CXe P w) P w K mg base N qual scope f cd A outer s H E) I fl) fw'.1 (fun b hb o e=>by
   obtain⟨_,o',ho',nf⟩:=stk.mem hb
   rw[e]at ho';cases ho'
   exact ups b o (hx.keeps b o e) nf)
  have I2:Inv (cxOf (CXe P w) P w K mg base N qual scope f cd A outer s H E) pins σ H1 {s1 with heap:=h'' }:=I.call' (s':={s1 with heap:=h'' }) rfl fl2.un fl2.hok I.bare (fun b hb=>by cases hb)
  refine⟨ea,cls,.ref t,H1,_,rfl,I2.os,I2.bare,⟨I2.base,I2.hok,fun b o e h n=>fl2.cov b o e ?_ (fun z=>?_)⟩,fw',q⟩
  ·rcases h with h|⟨o',h⟩
   ·exact .inl h
   ·obtain⟨o2,e2⟩:=I.base.there b o' h (by show b∉([]:List Addr);simp)
    exact .inr ⟨o2,e2⟩
  ·rcases jJ_.mp (I.stkSub b z) with e' | e'
   ·rcases h with h|⟨o',h⟩
    ·exact h (by rw[e'];exact I2.free)
    ·have:=jy_ h
     rw[e']at this
     exact absurd (jG_ this I.ok.above) (qi_ _)
   ·exact n e'
end
theorem QH {K:Frag}     (X:K.In h)(q:excIn K C bmB newId=true):
  ∃bm N nm q bs hdct sn sub ab col dd k0 k1 k2 k3 k5 mN,h.get? C=some (excClassObj nm q C N bs bm hdct sn sub ab col dd k0 k1 k2 k3 k5 newId)/\h.Ns N mN/\mN "__init__"=none/\OwnTail h bmB bm:=by
 unfold excIn at q
 split at q
 case h_2=>cases q
 rename_i d0 c0 s0 hl
 split at q
 case h_2=>cases q
 rename_i B tl a0 a1 a2 a3 id0 a5 em es
 have g:=X C _ hl
 repeat rw[qn_]at q
 rcases q with ⟨⟨⟨⟨⟨e1,e2⟩,e3⟩,e4⟩,e5⟩,e6⟩
 cases eq_of_beq e1
 cases eq_of_beq e2
 rcases s0 with ⟨l0⟩
 cases es
 rcases c0 with ⟨f0,f1,f2,f3,f4,f5,f6,f7,f8,f9,f10⟩
 cases em
 cases f10
 ·exact⟨tl,f3,f0,f4,f1,f5,f6,f7,f8,f9,d0,a0,a1,a2,a3,a5,h.nsMap f3,g,.of_isNs (isNs_of_in X e5),nsMap_none_of_in X e5 (eq_of_beq e6),tail_of_in X e4⟩
 ·cases e3
def bmV:List Value:=[.type "ValueError",.type "Exception",.type "BaseException",.type "object"]
section
variable {P:Program} {w:World} {K:α3} {mg:Str->α5} {base:Heap} {N:List Str} {qual:Str} {scope:Scope} {f:Addr} {cd:Value} {A:Around} {outer:List Env} {s:Shared} {H:Hp} {E:XK}
noncomputable def Pf (C:Addr)(E:XK)(ta:TA):TS:=fun _ σ H=>ta σ H fun vs H1=>vs.length<=sizeLine/\E (.ref C) none H1
theorem Oj      {rest:List Expr}  (hm:mg x=some (.ref C))(hx:excIn K C bmV newId=true)(hg:Gl (cxOf (CXe P w) P w K mg base N qual scope f cd A outer s H E) x)
  (hn:newId = "ValueError.__new__") (ha:PA (cxOf (CXe P w) P w K mg base N qual scope f cd A outer s H E) (e₀::rest) ta)
  (he:starEach (e₀::rest) (cxOf (CXe P w) P w K mg base N qual scope f cd A outer s H E).env=(false,eval e₀ (cxOf (CXe P w) P w K mg base N qual scope f cd A outer s H E).env)::starEach rest (cxOf (CXe P w) P w K mg base N qual scope f cd A outer s H E).env:=by rfl)
  (hplain:(backTo cpos (starEach rest (cxOf (CXe P w) P w K mg base N qual scope f cd A outer s H E).env)).any (·.1)=false:=by rfl) (hd:(x==("__debug__" : Str))=false:=by decide):
  PS (cxOf (CXe P w) P w K mg base N qual scope f cd A outer s H E) (.Raise (some (.Call (.Name x np) (e₀::rest) [] cpos)) none pos) (Pf C E ta):=by
 intro pins s1 σ H1 D I h
 subst hn
 obtain⟨bm,Nc,nm,q,bs,hdct,sn,sub,ab,col,dd,k0,k1,k2,k3,k5,mN,hC,hN,hni,T⟩:=QH I.mod.kin hx
 refine wpAny_Raise_call_subU (C:=C) (nm:=nm) (q:=q) (N:=Nc) (bs:=bs) (bm:=bm) (hdct:=hdct) (sn:=sn) (sub:=sub) (ab:=ab) (col:=col) (dd:=dd) (k0:=k0) (k1:=k1) (k2:=k2) (k3:=k3) (k5:=k5)
  xq_ (bmB:=bmV) (by decide +kernel) xq_ (mN:=mN) (T.hasType xq_.hasBase) (I.ok.hd rfl) (by rw[he];show (false||(backTo cpos (starEach rest _)).any (·.1))=false;rw[hplain];rfl) hni (Gn I hg hm ⟨rfl,?_⟩ hd)
 have hA:=ha cpos pins s1 σ H1 _ I h
 rw[he]at hA ⊢
 refine Calls.evalArgs_plain (thn hA fun us s2 ⟨vs,H2,I2,r2,hz,q2⟩=>⟨rfl,by rw[<-r2.length];exact hz,I2.bk _ _ hC,hN.keeps I2.bk,T.keeps I2.bk,fun h' e hm=>Sj I2 hm q2⟩)
end
end L2
namespace L2
open PySem PySem.Spec PyProof.Rows
noncomputable abbrev Cx.body (X:Cx)(xe:Value->Shared->Prop)(pn:α7):Cx:={X with xe:=xe,pn:=pn}
noncomputable abbrev Cx.suite (X:Cx)(ea:Addr)(pn:α7):Cx:={X with A:=X.A.mark (some (.ref ea)),calm:=false,xe:=fun _ _=>False,pn:=pn}
section
variable {X:Cx} {pins pins':α7} {σ:St} {H:Hp} {s:Shared} {xe xe':Value->Shared->Prop} {ea:Addr}
theorem Inv.toBody (I:Inv X pins σ H s):Inv (X.body xe (X.pn++pins)) [] σ H s:=
 ⟨⟨I.ok.mod,I.ok.kind,I.ok.glob,I.ok.blt,I.ok.above,I.ok.inj,I.ok.has,I.ok.cab,I.ok.hd,I.ok.frames,I.ok.stk,I.ok.exf,I.ok.bs,I.ok.bsz,I.ok.noex,I.ok.exfs,I.ok.funs,I.ok.frf⟩,I.os,I.bare,I.base,I.loc,I.cell,I.free,I.freeC,fun p hp=>I.pin p (by simpa using hp),I.hok,I.len⟩
theorem Inv.ofBody (I:Inv (X.body xe (X.pn++pins)) pins' σ H s):Inv X pins σ H s:=
 ⟨⟨I.ok.mod,I.ok.kind,I.ok.glob,I.ok.blt,I.ok.above,I.ok.inj,I.ok.has,I.ok.cab,I.ok.hd,I.ok.frames,I.ok.stk,I.ok.exf,I.ok.bs,I.ok.bsz,I.ok.noex,I.ok.exfs,I.ok.funs,I.ok.frf⟩,I.os,I.bare,I.base,I.loc,I.cell,I.free,I.freeC,fun p hp=>I.pin p (jr_ _ hp),I.hok,I.len⟩
theorem Inv.reBody  (I:Inv (X.body xe pn) pins' σ H s):Inv (X.body xe' pn) pins' σ H s:=
 ⟨⟨I.ok.mod,I.ok.kind,I.ok.glob,I.ok.blt,I.ok.above,I.ok.inj,I.ok.has,I.ok.cab,I.ok.hd,I.ok.frames,I.ok.stk,I.ok.exf,I.ok.bs,I.ok.bsz,I.ok.noex,I.ok.exfs,I.ok.funs,I.ok.frf⟩,I.os,I.bare,I.base,I.loc,I.cell,I.free,I.freeC,I.pin,I.hok,I.len⟩
theorem Inv.toSuite (I:Inv X pins σ H s):Inv (X.suite ea (X.pn++pins)) [] σ H s:=
 ⟨⟨I.ok.mod,I.ok.kind,I.ok.glob,I.ok.blt,I.ok.above,I.ok.inj,I.ok.has,I.ok.cab,fun z=>absurd (show false=true from z) jn_,I.ok.frames,I.ok.stk,I.ok.exf,I.ok.bs,I.ok.bsz,I.ok.noex,I.ok.exfs,I.ok.funs,I.ok.frf⟩,I.os,I.bare,I.base,I.loc,I.cell,I.free,I.freeC,fun p hp=>I.pin p (by simpa using hp),I.hok,I.len⟩
theorem Inv.ofSuite (hd:X.calm=true->X.A.handled=none)(I:Inv (X.suite ea (X.pn++pins)) pins' σ H s):Inv X pins σ H s:=
 ⟨⟨I.ok.mod,I.ok.kind,I.ok.glob,I.ok.blt,I.ok.above,I.ok.inj,I.ok.has,I.ok.cab,hd,I.ok.frames,I.ok.stk,I.ok.exf,I.ok.bs,I.ok.bsz,I.ok.noex,I.ok.exfs,I.ok.funs,I.ok.frf⟩,I.os,I.bare,I.base,I.loc,I.cell,I.free,I.freeC,fun p hp=>I.pin p (jr_ _ hp),I.hok,I.len⟩
theorem Inv.forget       (I:Inv X pins σ H s)(hN:X.N.Nodup)(hi:X.N[i]?=some n)(hx:X.env.scope.names.lookup n=some .local)
  (hl:∀(i:Nat) (x:Str) (v:V),X.N[i]?=some x->σ[i]?=some (some v)->Vis X.env.scope x->∃u,RelV v u/\Look X.env s.heap m x u) (hn:s.heap.Ns X.env.locals m)
  (hn':h'.Ns X.env.locals (fun x=>if x=n then v else m x)) (hs:Heap.SameBut X.env.locals s.heap h'):Inv X pins (σ.set i none) H {s with heap:=h',toks:=t' }:=by
 have cne:=I.cne
 obtain⟨oL,_,_,hoL,_⟩:=id hn
 have tracked:HOk X.prog X.w H h':=fun b ob e=>by
  refine (I.hok b ob e).stay (fun c w' hc q=>(hs.2 c ?_).trans q) (fun _ q=>q) fun _ _ q=>q
  rintro rfl
  rcases hc with rfl|hc
  ·rw[I.free]at e;cases e
  ·rw[I.free]at hc;cases hc
 refine⟨I.ok,I.os,I.bare,⟨fun b o e n hb hx=>?_,fun b o e n hb hx=>?_,I.base.free,fun b o e hx=>?_,I.base.tups,I.base.frzs,I.base.tbls⟩,⟨_,hn',fun j y v' e1 e2 e3=>?_⟩,fun y c e=>?_,I.free,I.freeC,fun p hp=>?_,tracked,by simpa using I.len⟩
 ·exact (hs.2 b (jW_ (jG_ (jy_ e) I.ok.above))).trans (I.base.keep b o e n hb hx)
 ·obtain⟨sl,e1⟩:=I.base.slot b o e n hb hx
  exact⟨sl,(hs.2 b (jW_ (jG_ (jy_ e) I.ok.above))).trans e1⟩
 ·obtain⟨o',e1⟩:=I.base.there b o e hx
  exact⟨o',(hs.2 b (jW_ (jG_ (jy_ e) I.ok.above))).trans e1⟩
 ·by_cases hj:j=i
  ·subst hj
   have hlt:j<σ.length:=by
    have:=(jc_.mp e2).1
    simpa using this
   rw[jM_ hlt]at e2
   cases e2
  ·rw[jY_ (qf_ hj)]at e2
   obtain⟨u',r',q⟩:=hl j y v' e1 e2 e3
   refine⟨u',r',?_⟩
   rcases q with ⟨k,e⟩|⟨k,c,e,z⟩
   ·refine .inl ⟨k,?_⟩
    have:y≠n:=fun e=>hj (HI hN e1 (e ▸ hi))
    simp[this,e]
   ·exact .inr ⟨k,c,e,z.sameBut hs (cne y c e)⟩
 ·obtain⟨w',z⟩:=I.cell y c e
  exact⟨w',z.sameBut hs (cne y c e)⟩
 ·obtain⟨e,n,ne,nf,d⟩:=I.pin p hp
  exact⟨(hs.2 p.1 ne).trans e,n,ne,nf,d⟩
end
noncomputable def Ic (CX:CXT)(X:Cx)(σ:St)(E:XK):Prop:=∀(pins:α7) (H:Hp) (s:Shared) (e:Value) (s':Shared),Inv X pins σ H s->CX X.stack H s E e s'->X.xe e s'
noncomputable def Ph (sp:Sp)(dvs:List V)(E:St->XK)(t:TA):TE:=fun σ H Q=>t σ H fun vs H1=>sp (vs++dvs) H1 Q (E σ)
section
variable {X:Cx} {CX:CXT} {k:Nat} {f C:Addr} {fd:α6} {ps:List Str} {sp:Sp} {dvs:List V} {ds:List Value} {E:St->XK} {x:Str} {p pos:Pos} {e:Expr} {es:List Expr} {t:TA}
theorem QI {pins:α7}{σ:St}{H:Hp}{s:Shared}{Q:VK}{us:List Value}{vs:List V}{E:XK}(F:FnOk X.prog X.w X.K X.mg X.base CX k f fd ps sp)(hr:Room k X.A)(hb:IT X.K fd ps ds)(hd:Vals dvs ds)(hx:Ic CX X σ E)
  (I:Inv X pins σ H s) (r:Vals vs us) (h:sp (vs++dvs) H Q E):wpAny (model X.prog X.w) X.A (call (.ref f) us) (EP X pins σ Q) X.xe s:=by
 have r2:Vals (vs++dvs) (us++ds):=r.append hd
 have hl:(us++ds).length=ps.length:=by rw[<-r2.length];exact F.len _ _ _ _ h
 refine zf_ (xR_ (F.run X.A X.stack s H ⟨us,[]⟩ (us++ds) (vs++dvs) Q E hr I.env0 (hb s us I.kIn hl) r2 h) fun r s' hq=>?_)
 cases r with
 |error e=>exact hx pins H s e s' I hq
 |ok fl=>
  cases fl with
  |ret u=>exact I.after hq
  |next=>exact False.elim hq
  |brk=>exact False.elim hq
  |cont=>exact False.elim hq
theorem Ol (F:FnOk X.prog X.w X.K X.mg X.base CX k f fd ps sp)(hr:Room k X.A)(hg:Gl X x)(hm:X.mg x=some (.ref f))(hk:keepIn X.K (.ref f)=true)(hb:IT X.K fd ps ds)(hd:Vals dvs ds)(hx:∀σ,Ic CX X σ (E σ))
  (ha:PA X (e::es) t) (hdb:(x==("__debug__" : Str))=false:=by decide) (he:starEach (e::es) X.env=(false,eval e X.env)::starEach es X.env:=by rfl) (hpl:(backTo pos (starEach es X.env)).any (·.1)=false:=by rfl):
  PE X (.Call (.Name x p) (e::es) [] pos) (Ph sp dvs E t):=by
 intro pins s σ H Q I h
 refine qE_ (Gn I hg hm ?_ hdb)
 refine PySem.W.callWith_K (h₀:=X.base) I.ok.mod.kin hk (thn (ha pos pins s σ H _ I h) fun us s1 ⟨vs,H1,I1,r,q⟩=>⟨I1.kIn,?_⟩) he hpl
 exact QI F hr hb hd (hx σ) I1 r q
end
noncomputable def excO (ea C:Addr):HO:=.ext (Ib ea C)
noncomputable def Ends.un (D:Ends)(i:Nat):Ends:={nx:=fun σ H=>D.nx (σ.set i none) H,rt:=D.rt,bk:=fun σ H=>D.bk (σ.set i none) H,ct:=fun σ H=>D.ct (σ.set i none) H}
noncomputable def tTry (K:α3)(Ca:Addr)(i:Nat)(E:St->XK)(tb ts:TS):TS:=fun D σ H=>tb D σ H/\∀σ' cls H',E σ' cls none H' ->
 ∃C,cls=.ref C/\exmOne K (.ref C) (.ref Ca)=some true/\∀ea,H' ea=none->ts (D.un i) (σ'.set i (some (.ref ea))) (upd H' ea (excO ea C))
theorem Sk           (hN:X.N.Nodup)(hi:X.N[i]?=some n)(hn:X.env.scope.names.lookup n=some .local)
  (hg:Gl X c) (hm:X.mg c=some (.ref Ca)) (hst:X.stack=X.env::X.outer) (hL:X.env.frame=some X.env.locals) (hex:X.ex=[])
  (hb:∀xe pn,(∀σ,Ic (CXe X.prog X.w) (X.body xe pn) σ (E σ))->PSs (X.body xe pn) body tb) (hs:∀ea pn,PSs (X.suite ea pn) (b₀::suite) ts) (hd:(c==("__debug__" : Str))=false:=by decide):
  PS X (.Try body [.ExceptHandler (some (.Name c np)) (some n) (b₀::suite) hpos] [] [] pos) (tTry X.K Ca i E tb ts):=by
 intro pins s σ H D I h
 obtain⟨hbody,hhand⟩:=h
 have hB:=hb (fun e s'=>∃pins' σ' H1 s1,Inv (X.body (fun _ _=>True) (X.pn++pins)) pins' σ' H1 s1/\CXe X.prog X.w X.stack H1 s1 (E σ') e s') (X.pn++pins) (fun σ pins' H s e s' I' hcx=>⟨pins',σ,H,s,I'.reBody,hcx⟩) [] s σ H D I.toBody hbody
 refine wpAny_Try_except (qz_ hB (fun f s1 q=>?_) fun e s1 q=>?_)
 ·cases f with
  |next=>obtain⟨σ1,H1,I1,q1⟩:=q;exact xC_ ⟨σ1,H1,I1.ofBody,q1⟩
  |brk=>obtain⟨σ1,H1,I1,q1⟩:=q;exact⟨σ1,H1,I1.ofBody,q1⟩
  |cont=>obtain⟨σ1,H1,I1,q1⟩:=q;exact⟨σ1,H1,I1.ofBody,q1⟩
  |ret v=>obtain⟨x1,σ1,H1,I1,r1,q1⟩:=q;exact⟨x1,σ1,H1,I1.ofBody,r1,q1⟩
 ·obtain⟨pins',σ',H1,s2,I2,ea,cls,a0,H',B,rfl,os,bare,fl,fw,hE⟩:=q
  obtain⟨C,rfl,hexm,hts⟩:=hhand σ' cls H' hE
  have I2':Inv X pins σ' H1 s2:=I2.ofBody
  have fr:X.A.frames=some (X.env::X.outer):=by rw[I.ok.frames,hst]
  have frees:=Jj I2' fl
  have fw0:=fw
  rw[hst]at fw
  have invAt:∀h',Heap.FlyingW B (X.env::X.outer) ea (.ref C) a0 h'->s1.heap.UpToSlots h'->Inv X pins σ' H' {s1 with heap:=h' }:=fun h' fw' ups=>by
   have fl2:=fl.move frees fw'.1 (fun b hb o e=>by
    obtain⟨_,o',ho',nf⟩:=fw0.2.2.1.mem hb
    rw[e]at ho';cases ho'
    exact ups b o e nf)
   exact I2'.call' (s':={s1 with heap:=h' }) os fl2.un fl2.hok bare (fun b hb=>by cases hb)
  refine wpAny_looks_onW fr hL fw fun h4 held4 up4=>?_
  refine wpAny_landsW held4 fun h5 fw5 up5=>?_
  have I5:=invAt h5 fw5 (up4.trans up5)
  have I5m:Inv (X.suite ea (X.pn++pins)) [] σ' H' {s1 with heap:=h5}:=I5.toSuite
  refine wpAny_handleBy_cons (codeAny_handlers_test (Gn (X:=X.suite ea (X.pn++pins)) I5m hg hm ?_ hd)) (by intro q;cases q)
  have LT:PySem.W.Looks (model X.prog X.w) h5 (typeOf (.ref ea)) (.ref C):=by
   obtain⟨ob,hob,hoc⟩:=fw5.there
   exact hoc ▸ (PySem.W.Looks.ld hob).andThen .now
  refine (PySem.W.exm_one (K:=X.K) (M:=model X.prog X.w) I5.kIn LT hexm) _ _ _ _ (fun b o e=>e) ?_
  refine codeAny_handlers_suite_as ?_
  refine lands_againW fw5 fun h6 fw6 up6=>?_
  have I6:=invAt h6 fw6 ((up4.trans up5).trans up6)
  -- the exception's object is not tracked yet
  have hne:H' ea=none:=by
   cases q:H' ea with
   |none=>rfl
   |some u=>
    have nfs:ea∉frs X.stack:=fun z=>by rw[frees ea z]at q;cases q
    obtain⟨o,ho⟩:=(fl.hok ea u q).there
    have:=fl.cov ea o ho (.inl (by rw[q];simp)) nfs
    rw[fw.2.1]at this
    cases this
  have new:AX X.prog X.w (upd H' ea (excO ea C)) h6 ea (excO ea C):=by
   obtain⟨ob,hob,hoc⟩:=fw6.there
   refine⟨⟨ob,hob,hoc⟩,⟨ob,hob⟩,fun g1 g2 ⟨o1,e1,c1⟩ k=>⟨o1,k o1 e1,c1⟩⟩
  have hsz:s2.heap.get? ea=none:=by
   cases q:s2.heap.get? ea with
   |none=>rfl
   |some o=>
    by_cases z:ea∈frs X.stack
    ·obtain⟨_,o',ho',nf⟩:=fw0.2.2.1.mem z
     obtain⟨oe,vs,hoe,_,hdt,_⟩:=fw.first
     rw[ho']at hoe;cases hoe
     exact absurd hdt (nf vs)
    ·obtain⟨o',e'⟩:=fl.un.there ea o q (by simp)
     have:=fl.cov ea o' e' (.inr ⟨o,q⟩) z
     rw[fw.2.1]at this
     cases this
  have I6t:Inv X pins σ' (upd H' ea (excO ea C)) {s1 with heap:=h6}:=by
   refine⟨I6.ok,I6.os,I6.bare,?_,I6.loc,I6.cell,?_,fun x c e=>?_,fun p hp=>?_,I6.hok.track hne new,I6.len⟩
   ·-- newer than the entry
    have h0:X.s₀.heap.get? ea=none:=by
     cases q:X.s₀.heap.get? ea with
     |none=>rfl
     |some o=>
      obtain⟨o',e'⟩:=I2'.base.there ea o q (by rw[hex];simp)
      rw[hsz]at e';cases e'
    refine⟨I6.base.keep,I6.base.slot,fun b o e n hx=>?_,I6.base.there,fun b xs q=>?_,fun b ob xs q=>?_,fun b ps q=>?_⟩
    ·rw[Ag (fun z=>by rw[z,h0]at e;cases e)];exact I6.base.free b o e n hx
    ·have:=I6.base.tups b xs q;rw[Ag (AO this hne)];exact this
    ·have:=I6.base.frzs b ob xs q;rw[Ag (AO this hne)];exact this
    ·obtain⟨more,e⟩:=I6.base.tbls b ps q
     exact⟨more,by rw[Ag (AO e hne)];exact e⟩
   ·rw[Ag (fun z=>?_)]
    ·exact I6.free
    ·have:=I2'.lt
     obtain⟨m,⟨o,_,_,ho,_⟩,_⟩:=I2'.loc
     rw[z,hsz]at ho;cases ho
   ·rw[Ag (fun z=>?_)]
    ·exact I6.freeC x c e
    ·obtain⟨v,o,ho,_⟩:=I2'.cell x c e
     rw[z,hsz]at ho;cases ho
   ·obtain⟨e,n,r⟩:=I6.pin p hp
    refine⟨e,?_,r⟩
    rw[Ag (fun z=>?_)]
    ·exact n
    ·have:=(I2'.pin p hp).1
     rw[z,hsz]at this;cases this
  have I6m:Inv (X.suite ea (X.pn++pins)) [] σ' (upd H' ea (excO ea C)) {s1 with heap:=h6}:=I6t.toSuite
  refine F9 (X:=X.suite ea (X.pn++pins)) I6m hN hi (.inl hn) (v:=.ref ea) rfl (fun s7 I7=>?_) (.inr hn)
  refine qz_ (hs ea (X.pn++pins) [] s7 _ _ (D.un i) I7 (hts ea hne)) (fun f s8 q8=>?_) (fun _ _ z=>False.elim z)
  have hcl:(X.env.scope.kind == .class||(X.env.scope.kind == .module&&X.env.locals != X.env.globals))=false:=by rw[I.ok.kind];rfl
  have goes:∀{σ8:St} {H8:Hp},Inv (X.suite ea (X.pn++pins)) [] σ8 H8 s8->∀(R:Unit->Shared->Prop),(∀s9,Inv X pins (σ8.set i none) H8 s9->R () s9) ->
    wpAny (model X.prog X.w) X.A (do bindName X.env n .none;unbindBehindTheSuite X.env n hpos) R X.xe s8:=fun {σ8 H8} I8 R hR=>by
   have I8':Inv X pins σ8 H8 s8:=I8.ofSuite I.ok.hd
   obtain⟨m,hns,hl⟩:=I8'.loc
   exact wpAny_nameGoes_keeps hn hns hcl fun h9 v hn9 sb=>hR _ (I8'.forget hN hi hn hl hns hn9 sb)
  cases f with
  |next=>obtain⟨σ8,H8,I8,q⟩:=q8;exact goes I8 _ fun s9 I9=>⟨_,H8,I9,q⟩
  |brk=>obtain⟨σ8,H8,I8,q⟩:=q8;exact goes I8 _ fun s9 I9=>⟨_,H8,I9,q⟩
  |cont=>obtain⟨σ8,H8,I8,q⟩:=q8;exact goes I8 _ fun s9 I9=>⟨_,H8,I9,q⟩
  |ret v=>obtain⟨x8,σ8,H8,I8,r8,q⟩:=q8;exact goes I8 _ fun s9 I9=>⟨x8,_,H8,I9,r8,q⟩
theorem Jk  : Dk X (.builtin "isinstance") (fun xs H Q=>∃ea C c cv b,xs=[.ref ea,c]/\H ea=some (excO ea C)/\ExcCls X.K C/\(∀u,RelV c u->u=cv)/\kitOne X.K (.ref C) cv=some b/\Q (.bl b) H):=by
 intro pins s σ H xs us Q I r h
 obtain⟨ea,C,c,cv,b,rfl,hea,hC,hc,hk,q⟩:=h
 obtain⟨u,w',rfl,rx,rc⟩:=vals2 r
 rw[hc _ rc]
 cases rx
 obtain⟨p,_,_⟩:=(show AX X.prog X.w H s.heap ea (.ext (Ib ea C)) from I.hok ea _ hea)
 exact qk_ (Oi hC) I.kIn p hk (fun z=>nomatch z) fun tk=>⟨.bl b,H,I.tok tk,rfl,q⟩
end L2
namespace HT
open PySem PySem.Spec PyProof.Rows
open PySem.AutoSeq1 (wpAny_loadPart')
section
open PySem.SeqAt PySem.MeetsSeq PySem.MeetsSeq2 PySem.MeetsSeq3
theorem int_rmul_tup (a:Int)(t:Tok)(l:Addr)(items:Array Value)(n:Nat)(dd:Option Addr)(sl:Array (α5)):
  Meets (Builtin.«int.__rmul__» ⟨[.int a t,.ref l],[]⟩) (fun _ R s=>s.heap.get? l=some {cls:=.type "tuple",dict:=dd,data:=.seq items n,slots:=sl}/\R (.ok (.ret Value.notImplemented)) s):=
 .of_wp fun prog w A R s h=>by obtain⟨hp,g,d,tk,os⟩:=s;obtain⟨hl,h⟩:=h;wp_walk using jU_ hl;exact⟨_,rfl,h⟩
theorem noFill_tuple_mul:fillsNumberSlot (.type "tuple") "mul"=pure false:=by
 first|exact fillsNumberSlot_false (by decide +kernel)|(unfold fillsNumberSlot;kernel_rfl)|kernel_rfl
theorem repeat_tuple:seqRepeat? (.type "tuple")=pure (some (.builtin "tuple.__mul__")):=by
 unfold seqRepeat?
 rw[PySem.seqSlot_of (T := "tuple") (name := "__mul__") (id := "tuple.__mul__") xZ_.lookup (by decide +kernel),PySem.seqSlot_of (T := "tuple") (name := "__rmul__") (id := "tuple.__rmul__") F.slot_tuple_rmul.lookup (by decide +kernel)]
 rfl
theorem tup_mul_one (l:Addr)(items:Array Value)(n:Nat)(dd:Option Addr)(sl:Array (α5))(u:Tok):
  Meets (Builtin.«tuple.__mul__» ⟨[.ref l,.int 1 u],[]⟩) (fun _ R s=>s.heap.get? l=some {cls:=.type "tuple",dict:=dd,data:=.seq items n,slots:=sl}/\R (.ok (.ret (Value.ref l))) s):=
 .of_wp fun prog w A R s h=>by
  obtain⟨hp,g,d,tk,os⟩:=s;obtain⟨hl,h⟩:=h
  have f1:=AutoSeq1.idx_int
  unfold Builtin.«tuple.__mul__»
  wp_walk using jU_ hl
  exact⟨_,rfl,h⟩
theorem tup_mul_none (l:Addr)(items:Array Value)(n:Nat)(dd:Option Addr)(sl:Array (α5))(x:Int)(u:Tok)(h0:¬ items.isEmpty=true)(h1:x<=0)(h2 : -(2 ^ 63)<=x):
  Meets (Builtin.«tuple.__mul__» ⟨[.ref l,.int x u],[]⟩) (fun _ R s=>s.heap.get? l=some {cls:=.type "tuple",dict:=dd,data:=.seq items n,slots:=sl}/\R (.ok (.ret (Value.ref s.heap.objs.size))) {s with heap:=s.heap.push {cls:=.type "tuple",data:=.seq #[]} }):=
 .of_wp fun prog w A R s h=>by
  obtain⟨hp,g,d,tk,os⟩:=s;obtain⟨hl,h⟩:=h
  have f1:=AutoSeq1.idx_int
  have c1:(decide (x < -(2 ^ 63:Int))||decide (x >= 2 ^ 63))=false:=by simp;lia
  have c2:(items.isEmpty||x==1)=false:=by simp at h0 ⊢;exact⟨h0,by lia⟩
  have c3:(decide (x<=0)||items.isEmpty)=true:=by simp[h1]
  unfold Builtin.«tuple.__mul__»
  wp_walk using jU_ hl
  rw[if_neg (by rw[c1];exact jn_)]
  wp_walk using jU_ hl
  rw[if_neg (by rw[c2];exact jn_)]
  rw[if_pos c3]
  wp_walk using jU_ hl
  exact⟨_,rfl,h⟩
theorem tup_mul_many (l:Addr)(items:Array Value)(n:Nat)(dd:Option Addr)(sl:Array (α5))(x:Int)(u:Tok)(h0:¬ items.isEmpty=true)(h1:1<x)(h2:x<2 ^ 63)(h3:items.size*x.toNat<=sizeLine):
  Meets (Builtin.«tuple.__mul__» ⟨[.ref l,.int x u],[]⟩) (fun _ R s=>s.heap.get? l=some {cls:=.type "tuple",dict:=dd,data:=.seq items n,slots:=sl}/\R (.ok (.ret (Value.ref s.heap.objs.size))) {s with heap:=s.heap.push {cls:=.type "tuple",data:=.seq ((List.replicate x.toNat items).foldl (· ++ ·) #[])} }):=
 .of_wp fun prog w A R s h=>by
  obtain⟨hp,g,d,tk,os⟩:=s;obtain⟨hl,h⟩:=h
  have f1:=AutoSeq1.idx_int
  have hs:sizeLine=16777216:=sizeLine_eq
  have c1:(decide (x < -(2 ^ 63:Int))||decide (x >= 2 ^ 63))=false:=by simp;lia
  have c2:(items.isEmpty||x==1)=false:=by simp at h0 ⊢;exact⟨h0,by lia⟩
  have c3:(decide (x<=0)||items.isEmpty)=false:=by simp at h0 ⊢;exact⟨by lia,h0⟩
  obtain⟨k,rfl⟩:∃k:Nat,x=(k:Int):=⟨x.toNat,by lia⟩
  have c4:¬ ((items.size:Int)*(k:Int) > (2 ^ 63-1) / 8):=by
   rw[ju_]at h3
   have:((items.size*k:Nat):Int)=(items.size:Int)*(k:Int):=by push_cast;rfl
   lia
  have c5:Builtin.Tuple.tupleTooMany ((items.size:Int)*(k:Int))=false:=by
   unfold Builtin.Tuple.tupleTooMany
   rw[ju_]at h3
   have:((items.size*k:Nat):Int)=(items.size:Int)*(k:Int):=by push_cast;rfl
   simp
   lia
  unfold Builtin.«tuple.__mul__»
  wp_walk using jU_ hl
  rw[if_neg (by rw[c1];exact jn_)]
  wp_walk using jU_ hl
  rw[if_neg (by rw[c2];exact jn_)]
  rw[if_neg (by rw[c3];exact jn_),if_neg c4,if_neg (by rw[c5];exact jn_)]
  wp_walk using jU_ hl
  have hz:¬ (List.foldl (fun x1 x2=>x1++x2) #[] (List.replicate ((k:Int)).toNat items)).size > sizeLine:=by
   have:=L2.foldl_rep items.toList k []
   rw[qw_]at this
   have e:items.toList.toArray=items:=by simp
   rw[e]at this
   rw[ju_,this,ji_,L2.len_rep]
   rw[ju_]at h3
   rw[xb_,Nat.mul_comm]
   lia
  rw[if_neg hz]
  wp_walk using jU_ hl
  exact⟨_,rfl,h⟩
end
end HT
namespace L2
open PySem PySem.Spec PyProof.Rows
section
variable {X:Cx}
noncomputable def Om (K:α3):R2:=fun x y H Q=>∃l k xs,x=.ref l/\y=.int k/\SqT K H l xs/\xs ≠ [] /\ -(2 ^ 63)<=k/\k<2 ^ 63/\xs.length*k.toNat<=sizeLine /\
 (k=1->Q (.ref l) H)/\(k≠1->∀p,H p=none->Q (.ref p) (upd H p (.tup (List.replicate k.toNat xs).flatten)))
theorem QJ:OpR X (binaryOp .Mult) (Om X.K):=by
 intro pins s σ H x y v u Q I rx ry h
 obtain⟨l,k,xs,rfl,rfl,hq,hne,h1,h2,hz,q1,q2⟩:=h
 cases rx
 obtain⟨t,rfl⟩:=ry
 obtain⟨its,r,p1,_⟩:=I.tuple hq
 have hlen:=r.length
 have hn':¬ its.toArray.isEmpty=true:=by
  intro z
  have:its=[]:=by simpa using z
  exact hne (r.nil_iff.mp this)
 obtain⟨⟨cls,dd,data,sl⟩,ho,hc,n,hd⟩:=id p1
 simp only at hc hd
 subst hc hd
 refine wpAny_binaryOp_repeat_ref (T := "tuple") (U := "int") (by decide) ⟨_,ho,rfl⟩ (fun s'=>typeIs_int s' k t) HT.noFill_tuple_mul F.fills_int_mul x7_ HT.repeat_tuple F.slot_int_index.lookup
  (xf_ x7_ (typeIs_int s k t) F.entry_int_rmul (F.args_int_rmul_2 _ _) (HT.int_rmul_tup k t l its.toArray n dd sl) ⟨ho,rfl,⟨_,ho,rfl⟩,?_⟩)
 by_cases k1:k=1
 ·subst k1
  exact xf_ xZ_ ⟨_,ho,rfl⟩ F.entry_tuple_mul (F.args_tuple_mul_2 _ _) (HT.tup_mul_one l its.toArray n dd sl t) ⟨ho,⟨.ref l,H,I,rfl,q1 rfl⟩⟩
 ·have fin:∀(ys:List Value),Vals (List.replicate k.toNat xs).flatten ys->EP X pins σ Q (.ref s.heap.objs.size) {s with heap:=s.heap.push {cls:=.type "tuple",data:=.seq ys.toArray} }:=fun ys rv=>
   ⟨.ref s.heap.objs.size,_,I.laid (t':=s.toks) (o:=.tup (List.replicate k.toNat xs).flatten) (fun b ob q=>jm_ _ q) (jh_ _) ⟨by rw[len_rep,Nat.mul_comm];exact hz,_,rv,IsTup.new _ _⟩,rfl,q2 k1 _ (I.hok.fresh (jh_ _))⟩
  by_cases k0:k<=0
  ·refine xf_ xZ_ ⟨_,ho,rfl⟩ F.entry_tuple_mul (F.args_tuple_mul_2 _ _) (HT.tup_mul_none l its.toArray n dd sl k t hn' k0 h1) ⟨ho,?_⟩
   exact fin [] (by rw[show k.toNat=0 by lia];exact .nil)
  ·refine xf_ xZ_ ⟨_,ho,rfl⟩ F.entry_tuple_mul (F.args_tuple_mul_2 _ _) (HT.tup_mul_many l its.toArray n dd sl k t hn' s!"" h2 (by rw[ji_,<-hlen];exact hz)) ⟨ho,?_⟩
   have e:=foldl_rep its k.toNat []
   rw[qw_]at e
   have e':List.foldl (fun x1 x2=>x1++x2) #[] (List.replicate k.toNat its.toArray)=(List.replicate k.toNat its).flatten.toArray:=e
   rw[e']
   exact fin _ (r.rep k.toNat)
noncomputable def Cg (K:α3):R2:=fun x y H Q=>∃a b xs ys,x=.ref a/\y=.ref b/\SqT K H a xs/\SqT K H b ys/\xs.length+ys.length<=sizeLine /\
 (xs=[]->Q (.ref b) H)/\(xs ≠ []->ys=[]->Q (.ref a) H)/\(xs ≠ []->ys ≠ []->∀p,H p=none->Q (.ref p) (upd H p (.tup (xs++ys))))
theorem BK:OpR X (binaryOp .Add) (Cg X.K):=by
 intro pins s σ H x y v u Q I rx ry h
 obtain⟨a,b,xs,ys,rfl,rfl,ha,hb,hz,q0,q1,q2⟩:=h
 by_cases hx:xs=[]
 ·subst hx
  cases rx
  cases ry
  obtain⟨its,r1,p1,_⟩:=I.tuple ha
  obtain⟨its2,r2,p2,_⟩:=I.tuple hb
  have:its=[]:=r1.nil_iff.mpr rfl
  subst this
  obtain⟨⟨cls,dd,data,sl⟩,ho,hc,n,hd⟩:=id p1
  obtain⟨⟨cls2,dd2,data2,sl2⟩,ho2,hc2,n2,hd2⟩:=id p2
  simp only at hc hd hc2 hd2
  subst hc hd hc2 hd2
  exact concat_meets ⟨_,ho,rfl⟩ ⟨_,ho2,rfl⟩ noFill_tuple_add seq_tuple_add xL_ xE_ (xz_ _ _)
   (PyProof.Rows.tuple_addW0 a b _ _ n n2 dd dd2 sl sl2 rfl) ⟨ho,ho2,⟨.ref b,H,I,rfl,q0 rfl⟩⟩
 ·exact Qt pins s σ H _ _ v u Q I rx ry ⟨a,b,xs,ys,rfl,rfl,ha,hb,hx,hz,q1 hx,q2 hx⟩
end
theorem GD      (Pv:Nat->St->Hp->Prop)(h0:∃m,Pv m σ H)
  (hs:∀m σ H,Pv m σ H->c σ H fun b H1=>if b=true then ∃N:St->Hp->Prop,(∀σ' H',N σ' H'->∃m',m'<m/\Pv m' σ' H')/\tb {D with nx:=N,ct:=N,bk:=D.nx} σ H1 else D.nx σ H1):OU c tb D σ H:=⟨Pv,h0,hs⟩
section
variable {K:α3} {H:Hp} {Q:VK}
theorem Om.of    (hq:SqT K H l xs)(hne:xs ≠ [])(h1 : -(2 ^ 63)<=k)(h2:k<2 ^ 63)(hz:xs.length*k.toNat<=sizeLine)(h:∀p H',Same H H'->SqT K H' p (List.replicate k.toNat xs).flatten->Q (.ref p) H'):Om K (.ref l) (.int k) H Q:=by
 refine⟨l,k,xs,rfl,rfl,hq,hne,h1,h2,hz,fun e=>?_,fun _ p hp=>h p _ (Same.new hp) (SqT.of Ab)⟩
 subst e
 exact h l H (Same.refl _) (by simpa using hq)
theorem Cg.of   (ha:SqT K H a xs)(hb:SqT K H b ys)(hz:xs.length+ys.length<=sizeLine)(h:∀p H',Same H H'->SqT K H' p (xs++ys)->Q (.ref p) H'):Cg K (.ref a) (.ref b) H Q:=by
 refine⟨a,b,xs,ys,rfl,rfl,ha,hb,hz,fun e=>?_,fun _ e=>?_,fun _ _ p hp=>h p _ (Same.new hp) (SqT.of Ab)⟩
 ·subst e;exact h b H (Same.refl _) (by simpa using hb)
 ·subst e;exact h a H (Same.refl _) (by simpa using ha)
end
theorem Sl {K:α3}    {lo hi:Option Int}:rSlT K x lo hi H Q=∃a xs,x=.ref a/\SqT K H a xs /\
 ¬ (HT.sIx xs.length 0 lo=0/\HT.sIx xs.length xs.length hi=xs.length)/\∀p,H p=none->Q (.ref p) (upd H p (.tup (cutV xs lo hi))):=rfl
inductive TyW (K:α3)(H:Hp):V->Value->Prop where
 | non:TyW K H .non (.type "NoneType")
 | bl (x:Bool):TyW K H (.bl x) (.type "bool")
 | int (i:Int):TyW K H (.int i) (.type "int")
 | str (x:Str):TyW K H (.str x) (.type "str")
 | lst {a:Addr} {xs:List V} (e:SqL K H a xs):TyW K H (.ref a) (.type "list")
 | tup {a:Addr} {xs:List V} (e:SqT K H a xs):TyW K H (.ref a) (.type "tuple")
 | exc {a C:Addr} (e:H a=some (excO a C)) (c:ExcCls K C):TyW K H (.ref a) (.ref C)
theorem CQ  : Dk X (.builtin "isinstance") (fun xs H Q=>∃x c cv t b,xs=[x,c]/\TyW X.K H x t/\(∀u,RelV c u->u=cv)/\kitOne X.K t cv=some b/\Q (.bl b) H):=by
 intro pins s σ H xs us Q I r h
 obtain⟨x,c,cv,t,b,rfl,ty,hc,hk,q⟩:=h
 cases ty with
 |non=>exact Dn pins s σ H _ us Q I r ⟨_,c,cv,_,b,rfl,.non,hc,hk,q⟩
 |bl y=>exact Dn pins s σ H _ us Q I r ⟨_,c,cv,_,b,rfl,.bl y,hc,hk,q⟩
 |int y=>exact Dn pins s σ H _ us Q I r ⟨_,c,cv,_,b,rfl,.int y,hc,hk,q⟩
 |str y=>exact Dn pins s σ H _ us Q I r ⟨_,c,cv,_,b,rfl,.str y,hc,hk,q⟩
 |exc e hC=>exact Jk pins s σ H _ us Q I r ⟨_,_,c,cv,b,rfl,e,hC,hc,hk,q⟩
 |@lst a xs e=>
  obtain⟨u,w',rfl,rx,rc⟩:=vals2 r
  rw[hc _ rc]
  cases rx
  obtain⟨its,_,pl,_⟩:=I.list e
  obtain⟨o,ho,hcl,_⟩:=pl.isList
  exact qk_ ze_ I.kIn ⟨o,ho,hcl⟩ hk (fun z=>nomatch z) fun tk=>⟨.bl b,H,I.tok tk,rfl,q⟩
 |@tup a xs e=>
  obtain⟨u,w',rfl,rx,rc⟩:=vals2 r
  rw[hc _ rc]
  cases rx
  obtain⟨its,_,⟨o,ho,hcl,_⟩,_⟩:=I.tuple e
  exact qk_ PySem.W.kitx_tuple I.kIn ⟨o,ho,hcl⟩ hk (fun z=>nomatch z) fun tk=>⟨.bl b,H,I.tok tk,rfl,q⟩
end L2
namespace GW
noncomputable def Kt (L:Int):α2->Int
 |[]=>0
 |x::r=>Kt L r*L+x+1
noncomputable def Bt (L:Int)(w:α2):Int:=Kt L w.reverse
noncomputable def inW (L x:Int):Bool:=decide (0<=x)&&decide (x<L)
noncomputable def isW (L:Int)(ws:α2):Bool:=ws.all (inW L)
theorem QK  : inW L x=true↔0<=x/\x<L:=by simp[inW]
theorem B8   : isW L ws=true ↔ ∀x∈ws,0<=x/\x<L:=by simp[isW,QK]
noncomputable def many (L:Int):Nat->Int
 |0=>0
 |k+1=>many L k*L+1
noncomputable def val (L:Int):α2->Int
 |[]=>0
 |x::r=>val L r*L+x
theorem Fq (L:Int)(w:α2)(x:Int):Bt L (w++[x])=Bt L w*L+x+1:=by
 unfold Bt
 rw[List.reverse_append];rfl
end GW
namespace PySem
section
variable {prog:Program} {w:World} {A:Around} {E:Value->Shared->Prop} {s:Shared}
noncomputable abbrev lsO (acc:Array Value)(c:Nat):Obj:={cls:=.type "list",dict:=none,data:=.seq acc c,slots := #[]}
noncomputable def KP (wr:Addr->Prop)(h h':Heap):Prop:=∀b o,¬ wr b->h.get? b=some o->h'.get? b=some o
structure Gat (prog:Program)(w:World)(s:Shared)(r I:Addr)(T:String)(n:Nat)(wr:Addr->Prop)(J:Nat->List Value->Heap->Prop)(Fn:List Value->Heap->Prop):Prop where
 type:s.TypeIs (.ref r) T
 nl:(Value.type T==Value.type "list")=false
 nt:(Value.type T==Value.type "tuple")=false
 le:n<=sizeLine
 hint:∀(A:Around) (t:Shared) (Q:Bool->Shared->Prop) (E:Value->Shared->Prop),(∀b o,s.heap.get? b=some o->t.heap.get? b=some o)->(∀b tk,Q b {t with toks:=tk})->wpAny (model prog w) A (Builtin.List.listLengthHint (.ref r)) Q E t
 iter:∀(A:Around) (h1:Heap) (Q:Value->Shared->Prop) (E:Value->Shared->Prop),(∀b o,s.heap.get? b=some o->h1.get? b=some o)->h1.objs.size=s.heap.objs.size+1->(∀h',J 0 [] h'->(∀b o,h1.get? b=some o->h'.get? b=some o)->Q (.ref I) {s with heap:=h' })->wpAny (model prog w) A (pyIter (.ref r)) Q E {s with heap:=h1}
 next:∀(A:Around) i acc (t:Shared) (Q:α5->Shared->Prop) (E:Value->Shared->Prop),A.handled=none->J i acc t.heap->acc.length=i->i<=n->s.heap.objs.size<t.heap.objs.size ->
  (∀v h' tk,i<n->J (i+1) (acc++[v]) h'->KP wr t.heap h'->Q (some v) {t with heap:=h',toks:=tk})->(∀h' tk,i=n->Fn acc h'->KP wr t.heap h'->Q none {t with heap:=h',toks:=tk})->wpAny (model prog w) A (pyNext (.ref I)) Q E t
 frame:∀i acc h h',J i acc h->(∀b o,b≠s.heap.objs.size->h.get? b=some o->h'.get? b=some o)->J i acc h'
 nw:¬ wr s.heap.objs.size
variable {I r:Addr} {T:String} {n:Nat} {wr:Addr->Prop} {J:Nat->List Value->Heap->Prop} {Fn:List Value->Heap->Prop} {R:Result->Shared->Prop} {res:Value}
theorem Gat.loop (G:Gat prog w s r I T n wr J Fn)(hh:A.handled=none)
  (hR:∀h' tk acc c,Fn acc h'->acc.length=n->h'.get? s.heap.objs.size=some (lsO acc.toArray c)->KP wr s.heap h'->R (.ok (.ret res)) {s with heap:=h',toks:=tk}):
  ∀(k:Nat) (h:Heap) (tk c:Nat) (acc:List Value),n-acc.length=k->acc.length<=n->J acc.length acc h->h.get? s.heap.objs.size=some (lsO acc.toArray c)->KP wr s.heap h->codeAny (model prog w) A (.builtin "list.extend.loop" ⟨[.ref s.heap.objs.size,.ref I,res],[]⟩) R {s with heap:=h,toks:=tk}:=by
 intro k
 induction k with
 |zero=>
  intro h tk c acc hk hi j hS kp
  refine qt_ F.entry_extend_loop ?_
  rw[qa_ xv_ _]
  refine je_ (G.next A.in1 _ acc {s with heap:=h,toks:=tk} _ _ hh j rfl hi (jy_ hS) (fun v h' tk l=>by lia) fun h' tk e j' kk=>?_)
  exact jo_ (hR h' tk acc c j' s!"" (kk _ _ G.nw hS) fun b o m q=>kk b o m (kp b o m q))
 |succ k ih=>
  intro h tk c acc hk hi j hS kp
  refine qt_ F.entry_extend_loop ?_
  rw[qa_ xv_ _]
  refine je_ (G.next A.in1 _ acc {s with heap:=h,toks:=tk} _ _ hh j rfl hi (jy_ hS) (fun v h' tk l j' kk=>?_) fun h' tk e=>by lia)
  have hS':=kk _ _ G.nw hS
  have up:∀b o,b≠s.heap.objs.size->h'.get? b=some o->(h'.update s.heap.objs.size (Obj.mapSeq (·.push v))).get? b=some o:=fun b o m q=>(j9_ _ _ (qf_ m)).trans q
  have hl:(acc++[v]).length=acc.length+1:=by simp
  have:=G.le
  obtain⟨c',hS2⟩:∃c',(h'.update s.heap.objs.size (Obj.mapSeq (·.push v))).get? s.heap.objs.size=some (lsO (acc++[v]).toArray c'):=⟨_,by rw[<-List.push_toArray];exact qO_ _ hS' rfl⟩
  exact je_ (qT_ hS' rfl (jo_ ⟨qM_ xv_ _,ih _ tk c' (acc++[v]) s!"" s!"" (by rw[hl];exact G.frame _ _ _ _ j' up) hS2 fun b o m q=>up b o (jW_ (jy_ q)) (kk b o m (kp b o m q))⟩) (by simp;lia))
theorem Gat.extend    (G:Gat prog w s r I T n wr J Fn)(hh:A.handled=none)(k1:∀b o,s.heap.get? b=some o->h1.get? b=some o)(hz:h1.objs.size=s.heap.objs.size+1)(hS:h1.get? s.heap.objs.size=some (lsO #[] c₀))
  (hZ:∀c t,c.quiet=true->codeAny (model prog w) A c R t->Z (.again c) t)
  (hR:∀h' tk acc c,Fn acc h'->acc.length=n->h'.get? s.heap.objs.size=some (lsO acc.toArray c)->KP wr s.heap h'->R (.ok (.ret res)) {s with heap:=h',toks:=tk}):
  wpAny (model prog w) A.in1 (Builtin.List.listExtendWith (.ref s.heap.objs.size) (.ref r) res) Z E {s with heap:=h1}:=by
 have hr:r<s.heap.objs.size:=let ⟨_,ho,_⟩:=G.type;jy_ ho
 have e1:Builtin.List.listSameRef (.ref s.heap.objs.size) (.ref r)=false:=by simp[Builtin.List.listSameRef,xQ_ hr]
 have hT:Shared.TypeIs {s with heap:=h1} (.ref r) T:=let ⟨o,ho,x⟩:=G.type;⟨o,k1 _ _ ho,x⟩
 have oth:∀(h:Heap) f b o,b≠s.heap.objs.size->h.get? b=some o->(h.update s.heap.objs.size f).get? b=some o:=fun h f b o n q=>(j9_ _ _ (qf_ n)).trans q
 have go:∀(h:Heap) c tk,J 0 [] h->h.get? s.heap.objs.size=some (lsO #[] c)->(∀b o,b≠s.heap.objs.size->h1.get? b=some o->h.get? b=some o)->Z (.again (.builtin "list.extend.loop" ⟨[.ref s.heap.objs.size,.ref I,res],[]⟩)) {s with heap:=h,toks:=tk}:=fun h c tk j q k=>
  hZ _ _ (qM_ xv_ _) (G.loop hh hR n h tk c [] rfl (j1_ _) j q fun b o _ x=>k b o (jW_ (jy_ x)) (k1 b o x))
 unfold Builtin.List.listExtendWith
 refine je_ (xT_ hT ?_)
 simp only[e1,G.nl,G.nt,Bool.or_false,q0_,xO_]
 refine je_ (G.iter A.in1 h1 _ _ k1 hz fun h' j kk=>je_ (qd_ (G.hint A.in1 _ _ _ (fun b o q=>kk b o (k1 b o q)) fun bb tk=>?_)))
 have hS':=kk _ _ hS
 refine za_ (fun _=>?_) fun _=>jo_ (go h' c₀ tk j hS' fun b o _ q=>kk b o q)
 wp_walk
 exact go _ _ tk (G.frame _ _ _ _ (G.frame _ _ _ _ j fun b o m q=>oth _ _ b o m q) fun b o m q=>oth _ _ b o m q) (qO_ _ (qO_ _ hS' rfl) rfl) fun b o m q=>oth _ _ b o m (oth _ _ b o m (kk b o q))
theorem Gat.collect  (G:Gat prog w s r I T n wr J Fn)(hh:A.handled=none)(hQ:∀h' tk acc,Fn acc h'->acc.length=n->KP wr s.heap h'->Q acc {s with heap:=h',toks:=tk}):wpAny (model prog w) A (collect (.ref r)) Q E s:=by
 have hS:(s.heap.push (lsO #[] 0)).get? s.heap.objs.size=some (lsO #[] 0):=jE_ _ rfl
 unfold PySem.collect
 refine je_ (wpAny_runValue (qt_ F.entry_proto_collect ?_))
 rw[qa_ F.plain_proto_collect _]
 wp_walk
 refine⟨qM_ F.plain_list_iadd _,qt_ F.entry_list_iadd ?_⟩
 rw[qa_ F.plain_list_iadd _]
 refine G.extend hh (fun b o e=>jm_ _ e) (xt_ ..) hS (fun _ _ a b=>⟨a,b⟩) fun h' tk acc c k1 k2 k3 k4=>?_
 exact je_ (wpAny_load k3 (jo_ (hQ h' tk acc k1 k2 k4)))
theorem Gat.tuple  (G:Gat prog w s r I T n wr J Fn)(hh:A.handled=none)
  (hQ:∀(h':Heap) tk acc,Fn acc h'->acc.length=n->KP wr s.heap h'->Q (.ref h'.objs.size) {s with heap:=h'.push {cls:=.type "tuple",data:=.seq acc.toArray},toks:=tk}):wpAny (model prog w) A (call (.type "tuple") [.ref r]) Q E s:=by
 have hsub:=sub_tuple_self
 have hinit:=init_tuple_lookup
 have hmh:=madeHere_tuple
 have hT:=G.type
 refine callType_codes (Q₁:=fun obj s₁=>s₁.TypeIs obj "tuple" /\ Q obj s₁) F.called_tuple (F.typeCall_tuple_1 _) F.entry_object_init ?_ fun obj s₁ h₁=>⟨h₁.1,F.args_object_init_2 obj _,object_init_meets F.called_tuple.init.lookup F.called_tuple.made (by decide) prog w A.in1 _ s₁ ⟨h₁.1,rfl,h₁.2⟩⟩
 refine codeAny_of_tree (je_ (wpAny_of_eq (F.newCall_tuple_1 _) (jo_ ⟨qM_ F.plain_tuple_new _,qt_ F.entry_tuple_new ?_⟩)))
 rw[qa_ F.plain_tuple_new _]
 have h2:A.in1.in1.handled=none:=hh
 have n1:=G.nl
 have n2:=G.nt
 wp_walk using xT_ hT,G.collect h2
 intro h' tk acc k1 k2 k3
 have hl:acc.length<=sizeLine:=k2 ▸ G.le
 have q:=hQ h' tk acc k1 k2 k3
 clear k2
 wp_walk
 exact⟨⟨_,jE_ _ rfl,rfl⟩,q⟩
theorem Gat.ofWalks {fp wl:List Addr}{P:Nat->Value->Prop}{St:Nat->Heap->Prop}(W:∀A:Around,A.handled=none->Walks prog w A I fp wl n P St)(hh:A.handled=none)(hf:s.heap.objs.size∉fp)(ty:s.TypeIs (.ref r) T)(nl:(Value.type T==Value.type "list")=false)(nt:(Value.type T==Value.type "tuple")=false)(le:n<=sizeLine)
  (hint:∀(A:Around) (t:Shared) (Q:Bool->Shared->Prop) (E:Value->Shared->Prop),(∀b o,s.heap.get? b=some o->t.heap.get? b=some o)->(∀b tk,Q b {t with toks:=tk})->wpAny (model prog w) A (Builtin.List.listLengthHint (.ref r)) Q E t)
  (iter:∀(A:Around) (h1:Heap) (Q:Value->Shared->Prop) (E:Value->Shared->Prop),(∀b o,s.heap.get? b=some o->h1.get? b=some o)->h1.objs.size=s.heap.objs.size+1->(∀h',St 0 h'->(∀b o,h1.get? b=some o->h'.get? b=some o)->Q (.ref I) {s with heap:=h' })->wpAny (model prog w) A (pyIter (.ref r)) Q E {s with heap:=h1}):
  Gat prog w s r I T n (· ∈ wl) (fun i acc h=>St i h/\∀(j:Nat) v,acc[j]?=some v->P j v) (fun acc _=>∀(j:Nat) v,acc[j]?=some v->P j v) where
 type:=ty
 nl:=nl
 nt:=nt
 le:=le
 hint:=hint
 iter:=fun A h1 Q E k z q=>iter A h1 Q E k z fun h' st=>q h' ⟨st,fun j v e=>by simp at e⟩
 next:=fun A i acc t Q E hh j hl hi _ q1 q2=>by
  have W:=W A hh
  rcases Nat.lt_or_ge i n with l|l
  ·refine W.item i t Q E l j.1 fun v h' tk p st' k=>q1 v h' tk l ⟨st',fun m u e=>?_⟩ k
   rcases Nat.lt_or_ge m acc.length with a|a
   ·rw[jg_ a]at e
    exact j.2 m u e
   ·have:=(jc_.mp e).1
    obtain rfl:m=i:=by simp at this;lia
    rw[jp_ a,hl,j4_]at e
    exact (show v=u by simpa using e) ▸ p
  ·obtain rfl:i=n:=by lia
   exact W.done t Q E j.1 fun h' tk k=>q2 h' tk rfl j.2 k
 frame:=fun i acc h h' j k=>⟨(W A hh).frame _ _ _ j.1 fun b hb o q=>k b o (fun z=>hf (z ▸ hb)) q,j.2⟩
 nw:=fun m=>hf ((W A hh).sub _ m)
end
end PySem
namespace PySem
open Sem (wp)
open AutoSeq1 (wpAny_loadPart')
namespace F
theorem lri_no_len:typeLookup (.type "list_reverseiterator") "__len__"=pure none:=by rw[typeLookup_type,builtinLookup_eq_fast];kernel_rfl
theorem lri_hint:typeLookup (.type "list_reverseiterator") "__length_hint__"=pure (some (.builtin "list_reverseiterator.__length_hint__")):=by rw[typeLookup_type,builtinLookup_eq_fast];kernel_rfl
end F
section
variable {prog:Program} {w:World} {A:Around} {E:Value->Shared->Prop} {s:Shared}
theorem He    (hit:s.heap.IsRevIter I l i)(h:Q false s):wpAny (model prog w) A (Builtin.List.listLengthHint (.ref I)) Q E s:=by
 unfold Builtin.List.listLengthHint
 refine je_ (wpAny_specialOf hit.typeIs F.lri_no_len ?_)
 show wpAny _ A (specialOf (Value.ref I) (Str.ofString "__length_hint__") >>= _) _ _ _
 refine je_ (wpAny_specialOf hit.typeIs F.lri_hint ?_)
 generalize hid:("list_reverseiterator.__length_hint__" : String)=id0
 wp_delta
 rw[show splitId id0=some ("list_reverseiterator","__length_hint__") from by subst hid;decide +kernel]
 subst hid
 refine je_ (wpAny_isInstance (T := "list_reverseiterator") (b:=true) hit.typeIs (by rw[isSubtype_type];kernel_rfl) ?_)
 refine za_ (fun hab=>absurd hab (by decide)) (fun _=>?_)
 refine za_ (fun _=>?_) (fun hab=>absurd (by decide +kernel) hab)
 refine za_ (fun hab=>absurd hab (by decide +kernel)) (fun _=>?_)
 exact jo_ h
theorem QL   (hh:A.handled=none)(hit:s.heap.IsRevIter I l ((items.size:Int)-1))(hl:s.heap.IsList l items)(hz:items.size<=sizeLine):
  Gat prog w s I I "list_reverseiterator" items.size (· ∈ [I]) (fun i acc h=>(i<=items.size/\h.IsRevIter I l ((items.size:Int)-1-(i:Int))/\h.IsList l items)/\∀(j:Nat) v,acc[j]?=some v->items[items.size-1-j]?=some v) (fun acc _=>∀(j:Nat) v,acc[j]?=some v->items[items.size-1-j]?=some v):=by
 obtain⟨oi,e1,e2,e3⟩:=id hit
 obtain⟨ol,f1,f2,f3⟩:=id hl
 have ne:l≠I:=fun z=>by
  subst z
  rw[e1]at f1
  cases f1
  rw[e2]at f2
  exact absurd f2 (by decide)
 refine Gat.ofWalks (fun A h=>Walks.listRev h I l ne items) hh (fun m=>?_) hit.typeIs (by decide) (by decide) hz (fun A t Q E k q=>He (hit.at fun o z=>k _ o z) (q false t.toks)) fun A h1 Q E k _ q=>?_
 ·rcases jJ_.mp m with z|z
  ·exact absurd (jy_ e1) (by rw[<-z];exact qi_ _)
  ·exact absurd (jy_ f1) (by rw[<-jb_.mp z];exact qi_ _)
 ·exact wpAny_pyIter_revIter (hit.at (h':=h1) fun o z=>k _ o z) (q h1 ⟨j1_ _,by simpa using hit.at (h':=h1) fun o z=>k _ o z,hl.at fun o z=>k _ o z⟩ fun b o z=>z)
theorem MB {items:Array Value}{acc:List Value}(l:acc.length=items.size)(h:∀(j:Nat) v,acc[j]?=some v->items[items.size-1-j]?=some v):ItemsOf (fun i v=>items[items.size-1-i]?=some v) acc.toArray items.size:=⟨by simpa using l,fun i v e=>h i v (by simpa using e)⟩
theorem Hf    (hh:A.handled=none)(hit:s.heap.IsRevIter I l ((items.size:Int)-1))(hl:s.heap.IsList l items)(hz:items.size<=sizeLine)
  (hQ:∀(h':Heap) (tk:Nat) (acc':Array Value),(∀b o,b≠I->s.heap.get? b=some o->h'.get? b=some o)->ItemsOf (fun i v=>items[items.size-1-i]?=some v) acc' items.size->Q (.ref h'.objs.size) {s with heap:=h'.push {cls:=.type "tuple",data:=.seq acc' },toks:=tk}):
  wpAny (model prog w) A (call (.type "tuple") [.ref I]) Q E s:=
 (QL hh hit hl hz).tuple hh fun h' tk acc f l k4=>hQ h' tk acc.toArray (fun b o n q=>k4 b o (fun z=>n (jb_.mp z)) q) (MB l f)
end
end PySem
namespace L2
open PySem PySem.Spec PyProof.Rows
section
variable {P:Program} {w:World} {K:α3} {mg:Str->α5} {base:Heap}
theorem Fun.okE  {st:Stmt}      (F:Fun K x qual st f fd)(S:FnScope N ps (Ao st))(len:∀vs H Q E,sp vs H Q E->vs.length=ps.length)
  (hbody:∀(cdv:Value) (A:Around) (outer:List Env) (s:Shared) (H:Hp) (vs:List V) (Q:VK) (E:XK),Room k (A.deeper (envOfC qual (Ao st) s.heap.objs.size f cdv))->sp vs H Q E ->
   ∃t,PSs (cxOf (CXe P w) P w K mg base N qual (Ao st) f cdv A outer s H E) (BU st) t/\t {nx:=fun _ H'=>Q .non H',rt:=Q} (start N vs) H):FnOk P w K mg base (CXe P w) (k+1) f fd ps sp:=by
 obtain⟨oc,od,kV,doc,pm,an,cdv,ct,osl,rfl,lk,hcd⟩:=F.ex
 exact Qs lk hcd S len fun A outer s H vs Q E hr hsp=>hbody cdv A outer s H vs Q E hr hsp
theorem JQ  : IU (CXe P w) X E0:=fun _ _ _ _ _ _ _ h=>by
 obtain⟨_,_,_,_,_,_,_,_,_,_,q⟩:=h
 exact q.elim
end
section
variable {te ta tb:TE} {A:TA} {D:Ends} {σ:St} {H:Hp} {Q:VK} {K:α3} {tbd ts:TS}
theorem Ku   : Mb x vs H Q=∃l b xs zs,x=.ref l/\vs=[.ref b]/\H l=some (.lst xs)/\H b=some (.lst zs)/\xs.length+zs.length<=sizeLine/\Q .non (upd H l (.lst (xs++zs))):=rfl
theorem Sm  : rCat x y H Q=∃l b xs zs,x=.ref l/\y=.ref b/\H l=some (.lst xs)/\H b=some (.lst zs)/\xs.length+zs.length<=sizeLine/\∀p,H p=none->Q (.ref p) (upd H p (.lst (xs++zs))):=rfl
theorem Sn  : rRep x y H Q=∃l k xs,x=.ref l/\y=.int k/\H l=some (.lst xs) /\ -(2 ^ 63)<=k/\k<2 ^ 63/\xs.length*k.toNat<=sizeLine/\∀p,H p=none->Q (.ref p) (upd H p (.lst (List.replicate k.toNat xs).flatten)):=rfl
theorem MC   : Pf C E A D σ H=A σ H fun vs H1=>vs.length<=sizeLine/\E (.ref C) none H1:=rfl
theorem ME    : Ph sp dvs E A σ H Q=A σ H fun vs H1=>sp (vs++dvs) H1 Q (E σ):=rfl
theorem So    : tTry K Ca i E tbd ts D σ H=(tbd D σ H/\∀σ' cls H',E σ' cls none H' ->
 ∃C,cls=.ref C/\exmOne K (.ref C) (.ref Ca)=some true/\∀ea,H' ea=none->ts (D.un i) (σ'.set i (some (.ref ea))) (upd H' ea (excO ea C))):=rfl
theorem Pk  : (Ends.un D i).nx σ H=D.nx (σ.set i none) H:=rfl
theorem Pl   : (Ends.un D i).rt v H=D.rt v H:=rfl
end
section
variable {X:Cx} {tg:Expr}
theorem MF  {its:List Value}  (rv:Vals xs its)(h:ItemsOf (fun i v=>its.toArray[its.toArray.size-1-i]?=some v) acc its.toArray.size):Vals xs.reverse acc.toList:=by
 have hl:=rv.length
 have e:acc.toList=its.reverse:=by
  apply xN_
  intro i
  by_cases hi:i<its.length
  ·have hs:acc.size=its.length:=by rw[h.1,ji_]
   have:=h.2 i acc[i] (by simp[hs,hi])
   rw[ji_]at this
   rw[List.getElem?_reverse hi]
   have z:its[its.length-1-i]?=some acc[i]:=by simpa using this
   rw[z];simp[hs,hi]
  ·have hs:acc.size=its.length:=by rw[h.1,ji_]
   rw[qB_ (by simp;lia),qB_ (by simp;lia)]
 rw[e]
 exact rv.reverse
noncomputable def MG (K:α3)(te:TE):TE:=fun σ H Q=>te σ H fun x H1=>∃a xs,x=.ref a/\SqL K H1 a xs/\∀p,H1 p=none->Q (.ref p) (upd H1 p (.tup xs.reverse))
theorem Kv {K:α3}     : MG K te σ H Q=te σ H fun x H1=>∃a xs,x=.ref a/\SqL K H1 a xs/\∀p,H1 p=none->Q (.ref p) (upd H1 p (.tup xs.reverse)):=rfl
theorem QM {e:Expr}{te:TE}{p pos pos1:Pos}{pins:α7}{σ:St}{H:Hp}{s:Shared}{W:Hp->Addr->List V->Prop}{QQ:List Value->Shared->Prop}(hg:Gl X "reversed")(hm:X.mg "reversed"=none)(he:PE X e te)(I:Inv X pins σ H s)
  (h:te σ H fun x H1=>∃a xs,x=.ref a/\SqL X.K H1 a xs/\W H1 a xs) (hs1:starEach [.Call (.Name "reversed" p) [e] [] pos] X.env=[(false,eval (.Call (.Name "reversed" p) [e] [] pos) X.env)]) (hs:starEach [e] X.env=[(false,eval e X.env)])
  (k:∀s1 H1 a xs its,Inv X pins σ H1 s1->Vals xs its->s1.heap.IsList a its.toArray->xs.length<=sizeLine->H1 a≠none\/True->W H1 a xs->QQ [.ref s1.heap.objs.size] {s1 with heap:=s1.heap.push (revObj a ((its.toArray.size:Int)-1))}):
  wpAny (model X.prog X.w) X.A (spliced (backTo pos1 (starEach [.Call (.Name "reversed" p) [e] [] pos] X.env))) QQ X.xe s:=by
 rw[hs1]
 refine Calls.spliced_cons ?_
 refine Call_ (DB I hg hm boot_reversed (j7_ (thn (Aa he Ad hs pos pins s σ H (fun vs H1=>∃a xs,vs=[.ref a]/\SqL X.K H1 a xs/\W H1 a xs) I ?_) fun us s1 ⟨vs,H1,I1,r1,q1⟩=>?_) hs rfl))
 ·show te σ H _
  have:(fun x H1=>∃a xs,x=V.ref a/\SqL X.K H1 a xs/\W H1 a xs)=(fun x H1=>tNil σ H1 fun xs H2=>∃a ys,x::xs=[V.ref a]/\SqL X.K H2 a ys/\W H2 a ys):=by
   funext x H1
   simp[tNil]
  rw[<-this]
  exact h
 ·obtain⟨a,xs,rfl,hq,q⟩:=q1
  cases r1 with
  |cons r rr=>
   cases rr
   cases r
   obtain⟨its,rv,p,hz⟩:=I1.list hq
   refine call_reversed_list p.isList ?_
   exact Calls.spliced_nil (k s1 H1 a xs its I1 rv p.isList hz (.inr trivial) q)
theorem JR    (hc:X.calm=true)(hg:Gl X "tuple")(hm:X.mg "tuple"=none)(hg2:Gl X "reversed")(hm2:X.mg "reversed"=none)(he:PE X e te)
  (hs1:starEach [.Call (.Name "reversed" p2) [e] [] pos2] X.env=[(false,eval (.Call (.Name "reversed" p2) [e] [] pos2) X.env)]:=by rfl) (hs:starEach [e] X.env=[(false,eval e X.env)]:=by rfl):
  PE X (.Call (.Name "tuple" p) [.Call (.Name "reversed" p2) [e] [] pos2] [] pos) (MG X.K te):=by
 intro pins s σ H Q I h
 refine qE_ (DB I hg hm boot_tuple ?_)
 refine j7_ (QM (W:=fun H1 a xs=>∀p,H1 p=none->Q (.ref p) (upd H1 p (.tup xs.reverse))) hg2 hm2 he I h hs1 hs fun s1 H1 a xs its I1 rv pl hz _ q=>?_) hs1 rfl
 have hl:=rv.length
 refine Hf (items:=its.toArray) (I.ok.hd hc) ⟨_,jE_ _ rfl,rfl,rfl⟩ (pl.at fun o e=>jm_ _ e) (by rw[ji_,<-hl];exact hz) fun h' tk acc' hk hacc=>?_
 have kp:∀b o,s1.heap.get? b=some o->h'.get? b=some o:=fun b o e=>hk b o (jW_ (jy_ e)) (jm_ _ e)
 have I2:Inv X pins σ H1 {s1 with heap:=h',toks:=tk}:=I1.kept kp
 refine⟨.ref h'.objs.size,_,I2.laid (t':=tk) (fun b o e=>jm_ _ e) (jh_ _) (show AX X.prog X.w _ _ _ (.tup xs.reverse) from ⟨by rw[List.length_reverse];exact hz,acc'.toList,MF rv hacc,by simpa using IsTup.new _ _⟩),rfl,q _ (I2.hok.fresh (jh_ _))⟩
end
end L2
namespace L2
open PySem PySem.Spec PyProof.Rows
theorem QN (x y:Int):eqV (.int x) (.int y)=decide (V.int x=V.int y):=by
 by_cases h:x=y
 ·subst h;simp[eqV]
 ·rw[j3_ (fun z=>h (by injection z))];simp[eqV,h]
theorem EqD.ints {K:α3}{H:Hp}{a c:Addr}{xs ys:α2}(hq:(SqL K H a (xs.map V.int)/\SqL K H c (ys.map V.int))\/(SqT K H a (xs.map V.int)/\SqT K H c (ys.map V.int)))(n:Nat):EqD K H (n+1) (.ref a) (.ref c) (decide (xs=ys)):=by
 have:=EqD.flat hq (fun x hx=>by obtain⟨_,_,rfl⟩:=Ge hx;rfl) (fun x hx=>by obtain⟨_,_,rfl⟩:=Ge hx;rfl) (fun x hx y hy=>by obtain⟨_,_,rfl⟩:=Ge hx;obtain⟨_,_,rfl⟩:=Ge hy;exact QN _ _) n
 have e:decide (xs.map V.int=ys.map V.int)=decide (xs=ys):=by
  rw[qj_]
  simp only[jN_]
  constructor
  ·intro h
   exact (List.map_inj_right (fun a b h=>by injection h)).mp h
  ·intro h;rw[h]
 rw[e]at this
 exact this
end L2
namespace L2
open PySem PySem.Spec PyProof.Rows
noncomputable def iSeq (K:α3)(tl:TE):TI:=fun σ H R=>tl σ H fun x H1=>∃a,x=.ref a/\(((∃xs,SqL K H1 a xs)/\R (Itl K a) H1)\/((∃xs,SqT K H1 a xs)/\R (Itt K a) H1))
theorem Pm {K:α3}     : iSeq K te σ H Z=te σ H fun x H1=>∃a,x=.ref a/\(((∃xs,SqL K H1 a xs)/\Z (Itl K a) H1)\/((∃xs,SqT K H1 a xs)/\Z (Itt K a) H1)):=rfl
theorem Po    (hl:PE X l tl):PI X tg l (iSeq X.K tl):=by
 intro pins s σ H R I h
 refine thn (hl pins s σ H _ I h) fun v s1 ⟨x,H1,I1,r1,q1⟩=>?_
 obtain⟨a,e,q⟩:=q1
 subst e
 cases r1
 rcases q with ⟨⟨xs,hq⟩,q⟩|⟨⟨xs,hq⟩,q⟩
 ·obtain⟨its,rv,p,hz⟩:=I1.list hq
  refine xM_ p.isList ?_
  refine⟨s1.heap.objs.size,[s1.heap.objs.size],_,_,H1,rfl,I1.kept (t':=s1.toks) fun b o e=>jm_ _ e,IM a _,⟨_,jE_ _ rfl,rfl,rfl⟩,fun b hb=>?_,q⟩
  have e:b=s1.heap.objs.size:=by simpa using hb
  subst e
  exact I1.fpOk (jh_ _) (I1.hok.fresh (jh_ _))
 ·obtain⟨its,rv,p,hz⟩:=I1.tuple hq
  refine wpAny_pyIter_tuple (show s1.heap.IsTuple a its.toArray from p) ?_
  refine⟨s1.heap.objs.size,[s1.heap.objs.size],_,_,H1,rfl,I1.kept (t':=s1.toks) fun b o e=>jm_ _ e,Hq a _,⟨_,jE_ _ rfl,rfl,rfl⟩,fun b hb=>?_,q⟩
  have e:b=s1.heap.objs.size:=by simpa using hb
  subst e
  exact I1.fpOk (jh_ _) (I1.hok.fresh (jh_ _))
end L2
namespace GW
noncomputable def lessW (xs ys:α2):Bool:=if xs.length=ys.length then HT.lexLt xs ys else decide (xs.length<ys.length)
end GW
namespace L2
open PySem PySem.Spec PyProof.Rows
theorem FJ  {K:α3}(hK:X.K=K):Dk X (.builtin "isinstance") (fun xs H Q=>∃x c cv t b,xs=[x,c]/\TyW K H x t/\(∀u,RelV c u->u=cv)/\kitOne K t cv=some b/\Q (.bl b) H):=by
 subst hK
 exact CQ
section
variable {X:Cx} {K:α3}
theorem GF (h:X.K=K):IxR X (rIxT K):=by subst h;exact Am
theorem Ie (h:X.K=K):Dk X (.type "list") (fun xs H Q=>∃p ys,xs=[.ref p]/\(SqL K H p ys\/SqT K H p ys)/\∀l,H l=none->Q (.ref l) (upd H l (.lst ys))):=by subst h;exact CP
end
end L2
namespace GW
noncomputable def An (ways:α1)(r x:Int):Int:=(ways.getD r.toNat []).getD x.toNat 0
noncomputable def Sq (ways:α1)(ws:α2):Int:=ws.foldl (An ways) 0
structure Wf (L:Int)(marks:α2)(ways:α1):Prop where
 l1:1<=L
 l6:L<=6
 n1:1<=marks.length
 n40:marks.length<=40
 len:ways.length=marks.length
 rows:∀row∈ways,(row.length:Int)=L/\∀x∈row,0<=x/\x<marks.length
 mks:∀m∈marks,0<=m/\m<=1000000000
theorem Ig     (h1:ways[r.toNat]?=some row)(h2:row[x.toNat]?=some g):An ways r x=g:=by
 unfold An
 have e:ways.getD r.toNat []=row:=by rw[js_,h1];rfl
 rw[e,js_,h2];rfl
theorem Wf.row {L:Int}{marks:α2}{ways:α1}(wf:Wf L marks ways){r:Int}(h0:0<=r)(h1:r<marks.length):∃row,ways[r.toNat]?=some row/\row∈ways/\(row.length:Int)=L:=by
 have hlt:r.toNat<ways.length:=by rw[wf.len];lia
 exact⟨ways[r.toNat],by simp[hlt],jB_ hlt,(wf.rows _ (jB_ hlt)).1⟩
theorem Wf.step {L:Int}{marks:α2}{ways:α1}(wf:Wf L marks ways){r x:Int}(h0:0<=r)(h1:r<marks.length)(x0:0<=x)(x1:x<L):∃row g,ways[r.toNat]?=some row/\row[x.toNat]?=some g/\An ways r x=g/\0<=g/\g<marks.length:=by
 obtain⟨row,hr,hm,hl⟩:=wf.row h0 h1
 have hlt:x.toNat<row.length:=by lia
 have hg:row[x.toNat]?=some row[x.toNat]:=by simp[hlt]
 exact⟨row,row[x.toNat],hr,hg,Ig hr hg,(wf.rows row hm).2 _ (jB_ hlt)⟩
end GW
namespace L2
open PySem PySem.Spec PyProof.Rows GW
noncomputable def Rows (K:α3)(H:Hp)(w:Addr)(ways:α1):Prop:=∃ts:List Addr,SqT K H w (ts.map V.ref)/\ts.length=ways.length/\∀(i:Nat) (t:Addr) (row:α2),ts[i]?=some t->ways[i]?=some row->SqT K H t (row.map V.int)
noncomputable def Bc (K:α3)(H:Hp)(h:Addr)(L:Int)(marks:α2)(ways:α1):Prop:=∃m w:Addr,SqT K H h [.int L,.ref m,.ref w]/\SqT K H m (marks.map V.int)/\Rows K H w ways
theorem Rows.mono {K:α3}    (h:Rows K H w ways)(e:Same H H'):Rows K H' w ways:=by
 obtain⟨ts,h1,h2,h3⟩:=h
 exact⟨ts,e.seqT h1,h2,fun i t r a b=>e.seqT (h3 i t r a b)⟩
theorem Bc.mono {K:α3}      (x:Bc K H h L marks ways)(e:Same H H'):Bc K H' h L marks ways:=by
 obtain⟨m,w,h1,h2,h3⟩:=x
 exact⟨m,w,e.seqT h1,e.seqT h2,h3.mono e⟩
theorem Rows.at {K:α3}{H:Hp}{w:Addr}{ways:α1}(h:Rows K H w ways){i:Nat}{row:α2}(hr:ways[i]?=some row):∃xs t,SqT K H w xs/\atI xs (i:Int)=some (V.ref t)/\SqT K H t (row.map V.int):=by
 obtain⟨ts,h1,h2,h3⟩:=h
 have hlt:i<ts.length:=by rw[h2];exact (jc_.mp hr).1
 have ht:ts[i]?=some ts[i]:=by simp[hlt]
 exact⟨_,ts[i],h1,AE (by rw[jw_,ht];rfl),h3 i _ _ ht hr⟩
theorem Rows.atZ {K:α3}    (h:Rows K H w ways)   (h0:0<=r)(hr:ways[r.toNat]?=some row):∃xs t,SqT K H w xs/\atI xs r=some (V.ref t)/\SqT K H t (row.map V.int):=by
 obtain⟨xs,t,a,b,c⟩:=h.at hr
 exact⟨xs,t,a,by rw[<-b];congr 1;lia,c⟩
theorem QO    (h:xs[xs.length-1]?=some v):atI xs (-1)=some v:=by
 have hlt:=(jc_.mp h).1
 unfold atI ixN
 rw[if_neg s!"",if_pos s!""]
 show xs[(-1+(xs.length:Int)).toNat]?=some v
 rw[show (-1+(xs.length:Int)).toNat=xs.length-1 by lia]
 exact h
theorem B9 {ns:α2}{i:Int}{v:Int}(h0:0<=i)(h:ns[i.toNat]?=some v):atI (ns.map V.int) i=some (V.int v):=Mu h0 (by rw[jw_,h];rfl)
theorem BX {K:α3}    (hp:H p=some (.lst zs))(h:SqT K H t xs):SqT K (upd H p (.lst ys)) t xs:=by
 rcases h with (q|⟨o,q⟩)|q
 ·refine .inl (.inl ?_)
  rw[Ag (fun z=>by rw[z,hp]at q;cases q)];exact q
 ·refine .inl (.inr ⟨o,?_⟩)
  rw[Ag (fun z=>by rw[z,hp]at q;cases q)];exact q
 ·exact .inr q
noncomputable def DH (K:α3)(H:Hp)(l:Addr)(ws:α1):Prop:=∃ts:List Addr,H l=some (.lst (ts.map V.ref))/\ts.length=ws.length/\∀(i:Nat) (t:Addr) (w:α2),ts[i]?=some t->ws[i]?=some w->SqT K H t (w.map V.int)
theorem DH.mono {K:α3}    (h:DH K H l ws)(e:Same H H'):DH K H' l ws:=by
 obtain⟨ts,h1,h2,h3⟩:=h
 exact⟨ts,e _ _ h1,h2,fun i t w a b=>e.seqT (h3 i t w a b)⟩
theorem DH.off {K:α3}     (h:DH K H l ws)(hp:H p=some (.lst zs))(ne:l≠p):DH K (upd H p (.lst ys)) l ws:=by
 obtain⟨ts,h1,h2,h3⟩:=h
 exact⟨ts,by rw[Ag ne];exact h1,h2,fun i t w a b=>BX hp (h3 i t w a b)⟩
theorem DH.push {K:α3}     (h:DH K H l ws)(hw:SqT K H t (w.map V.int)):∃xs,H l=some (.lst xs)/\xs.length=ws.length/\DH K (upd H l (.lst (xs++[V.ref t]))) l (ws++[w]):=by
 obtain⟨ts,h1,h2,h3⟩:=h
 refine⟨ts.map V.ref,h1,by rw[jd_,h2],ts++[t],by rw[Ab,jI_];rfl,by simp[h2],fun i t' w' a b=>BX h1 ?_⟩
 by_cases hi:i<ts.length
 ·rw[jg_ hi]at a
  rw[jg_ s!""]at b
  exact h3 i t' w' a b
 ·have ht:=(jc_.mp a).1
  rw[jf_,jq_]at ht
  have e:i=ts.length:=by lia
  subst e
  rw[jp_ (jh_ _),j4_]at a
  rw[jp_ s!"",h2,j4_]at b
  simp at a b
  subst a b
  exact hw
theorem DH.nil {K:α3}   (h:H l=some (.lst [])):DH K H l []:=⟨[],h,rfl,fun i t w a _=>by simp at a⟩
theorem DH.rows {K:α3}    (h:DH K H l ws):∃xs,H l=some (.lst xs)/\∀t,H t=none->Rows K (upd H t (.tup xs)) t ws:=by
 obtain⟨ts,h1,h2,h3⟩:=h
 exact⟨_,h1,fun t ht=>⟨ts,SqT.of Ab,h2,fun i t' w a b=>(Same.new ht).seqT (h3 i t' w a b)⟩⟩
end L2
namespace PySem
open Sem (wp)
open AutoSeq1 (wpAny_loadPart')
section
variable {prog:Program} {w:World} {A:Around} {E:Value->Shared->Prop} {s:Shared}
theorem newT   (hl:l.length<=sizeLine)(h:∀h',s.heap.push {cls:=.type "tuple",data:=.seq l.toArray}=h'->Q (.ref s.heap.objs.size) {s with heap:=h' }):wpAny (model prog w) A (newTuple l) Q E s:=wpAny_newTuple (h _ rfl)
theorem psh {h h':Heap}{o:Obj}(q:h.push o=h')(ho:o.isFreed=false):(∀c u,h.get? c=some u->h'.get? c=some u)/\h'.get? h.objs.size=some o/\h'.objs.size=h.objs.size+1:=by
 subst q
 exact⟨fun c u x=>jm_ _ x,jE_ _ ho,xt_ ..⟩
theorem Lk {it l:Addr}    (hit:s.heap.IsTupleIter it l i)(hl:s.heap.IsTuple l items)
  (hQ:∀x h',items[i]?=some x->h'.IsTupleIter it l (i+1)->Heap.SameBut it s.heap h'->Q x {s with heap:=h' })
  (hE:items[i]?=none->A.handled=none/\∀h' e,Heap.ExtBut it s.heap h'->(∃o,h'.get? e=some o/\o.cls=.type "StopIteration")->E (.ref e) {s with heap:=h' }):wpAny (model prog w) A (Builtin.SmallTypes.nextOf (.ref it)) Q E s:=by
 obtain⟨⟨c,dc,da,sl⟩,ho,hc,hd⟩:=id hit
 obtain⟨⟨c',dc',da',sl'⟩,hol,hc',nl,hdl⟩:=hl
 replace hc:c=_:=hc;replace hd:da=_:=hd;replace hc':c'=_:=hc';replace hdl:da'=_:=hdl
 subst hc hd hc' hdl
 have e1:=F.slot_tuple_iterator_next
 unfold Builtin.SmallTypes.nextOf
 refine je_ (qF_ hit.typeIs e1 (qX_ e1 hit.typeIs F.entry_tuple_iterator_next ?_ (F.args_tuple_iterator_next_1 _)))
 wp_walk
 cases hx:items[i]? with
 |some x=>
  simp only[ju_,hx]
  wp_walk
  exact⟨x,rfl,jo_ (hQ x _ hx ⟨_,qO_ _ ho (by simp[Obj.mapFields,Obj.isFreed]),rfl,by simp[Obj.mapFields,rawInt]⟩ (xw_ ..))⟩
 |none=>
  obtain⟨hh,hE⟩:=hE hx
  have h1:A.in1.handled=none:=hh
  simp only[ju_,hx]
  wp_walk
  unfold raiseNew
  wp_walk
  exact hE _ _ (((xw_ ..).extBut.push _).push _) ⟨_,jE_ _ rfl,rfl⟩
end
end PySem
namespace L2
open PySem PySem.Spec PyProof.Rows
section
variable {X:Cx} {pins:α7} {σ:St} {H:Hp} {s:Shared}
theorem Inv.un2  {e it:Addr}(I:Inv X pins σ H s)(k:∀b o,b≠e->b≠it->s.heap.get? b=some o->h'.get? b=some o)(f1:FpOk X pins H e)(f2:FpOk X pins H it):Un (frs X.stack) [e,it] H H s.heap h'/\HOk X.prog X.w H h':=by
 have ne:∀b u,H b=some u->b≠e/\b≠it:=fun b u q=>⟨(fun z=>by rw[z,f1.1]at q;cases q),(fun z=>by rw[z,f2.1]at q;cases q)⟩
 have nch:∀{b:Addr},b ∉ [e,it]->b≠e/\b≠it:=fun hb=>by simpa using hb
 refine⟨⟨fun b o q _ _ hb=>k b o (nch hb).1 (nch hb).2 q,fun b o q _ _ hb=>⟨o.slots,k b o (nch hb).1 (nch hb).2 q⟩,fun _ _ _ n _=>n,fun b o q hb=>⟨o,k b o (nch hb).1 (nch hb).2 q⟩,fun _ _ q=>q,fun _ _ _ q=>q,fun b ps q=>⟨#[],by rw[q];simp⟩⟩,fun b u q=>?_⟩
 refine (I.hok b u q).stay (fun c v hc qv=>?_) (fun _ q=>q) fun _ _ q=>q
 have hne:c≠e/\c≠it:=by
  rcases hc with rfl|hc
  ·exact ne _ _ q
  ·exact ne _ _ hc
 exact k c v hne.1 hne.2 qv
theorem FpOk.ch  (f:FpOk X pins H b):(b∈X.ex\/X.s₀.heap.objs.size<=b)/\b≠X.env.locals/\(∀x c,X.env.cells.lookup x=some c->c≠b)/\∀p∈X.pn++pins,p.1≠b:=⟨f.2.2.2.1,f.2.1,f.2.2.2.2.1,f.2.2.2.2.2⟩
end
theorem Pp {K:α3}       : gTup K n t v σ H N=∃a xs,v=.ref a/\SqT K H a xs/\xs.length=n/\t xs σ H N:=rfl
theorem MK       : RA t u vs σ H N=∃v r,vs=v::r/\t v σ H fun σ' H'=>u r σ' H' N:=rfl
theorem Pq     : gNil vs σ H N=(vs=[]/\N σ H):=rfl
section
variable {td ty tv tx:TE} {D:Ends} {σ:St} {H:Hp} {Q:VK}
theorem Pu:RS td ty σ H Q=td σ H fun x H1=>ty σ H1 fun y H2=>∃a v,x=.ref a/\DGet H2 a y (some v)/\Q v H2:=rfl
theorem Kw:Ml ty td σ H Q=ty σ H fun y H1=>td σ H1 fun x H2=>∃a o,x=.ref a/\DGet H2 a y o/\Q (.bl (!o.isSome)) H2:=rfl
theorem Px:RT td ty tv D σ H=tv σ H fun v H1=>td σ H1 fun x H2=>ty σ H2 fun y H3=>∃a H4,x=.ref a/\DPut H3 a y v H4/\D.nx σ H4:=rfl
theorem Py  : QA trs σ H Q=∀p,H p=none->GA trs σ (upd H p (.dK [])) fun ps H2=>H2 p=some (.dK [])/\∃kvs:List (Key×V),ps=kvs.map (fun kv=>(kV kv.1,kv.2))/\kvs.length<=15/\Q (.ref p) (upd H2 p (.dK (Ek [] kvs))):=rfl
theorem Kx  : GA [] σ H R=R [] H:=rfl
theorem Ky   : GA ((td,tv)::r) σ H R=td σ H fun x H1=>tv σ H1 fun y H2=>GA r σ H2 fun ps H3=>R ((x,y)::ps) H3:=rfl
end
end L2
namespace GW
noncomputable def PD (w:α2):List (Int×α2)->Nat->α2->List (Int×α2)
 |ents,_,[]=>ents
 |ents,x,g::r=>PD w (if g∈ents.map (·.1) then ents else ents++[(g,w++[(x:Int)])]) (x+1) r
noncomputable def bfs (ways:α1):Nat->List (Int×α2)->Nat->List (Int×α2)
 |0,ents,_=>ents
 |f+1,ents,i=>match ents[i]? with
  |none=>ents
  |some e=>bfs ways f (PD e.2 ents 0 (ways.getD e.1.toNat [])) (i+1)
noncomputable def ML (ways:α1):List (Int×α2):=bfs ways (ways.length+1) [(0,[])] 0
theorem AD:∀(n:Nat) {l:α2},l.Nodup->(∀x∈l,0<=x/\x<(n:Int))->l.length<=n
 |0,l,_,h=>by
  cases l with
  |nil=>simp
  |cons x r=>have:=h x jv_;lia
 |n+1,l,hn,h=>by
  by_cases hm:(n:Int)∈l
  ·have e:=List.length_erase_of_mem hm
   have:=AD n (l:=l.erase (n:Int)) (hn.erase _) (fun x hx=>by
    have h1:=(hn.mem_erase_iff).mp hx
    have h2:=h x h1.2
    have h3:=h1.1
    lia)
   lia
  ·have:=AD n hn (fun x hx=>by
    have h2:=h x hx
    have:x≠n:=fun z=>hm (z ▸ hx)
    lia)
   lia
end GW
namespace L2
open PySem PySem.Spec PyProof.Rows
noncomputable def ups (n:Nat):α2:=(List.range n).map fun i:Nat=>(i:Int)
noncomputable def Kz (te:TE):TE:=fun σ H Q=>te σ H fun x H1=>∃j:Int,x=.int j/\0<=j/\j<=100000/\∀p,H1 p=none->Q (.ref p) (upd H1 p (.lst ((ups j.toNat).map V.int)))
theorem Jl     : Kz te σ H Q=te σ H fun x H1=>∃j:Int,x=.int j/\0<=j/\j<=100000/\∀p,H1 p=none->Q (.ref p) (upd H1 p (.lst ((ups j.toNat).map V.int))):=rfl
theorem MM   (h:ItemsOf (fun i v=>∃t,v=.int ((0:Int)+(i:Nat)*1) t) acc n):Vals ((ups n).map V.int) acc.toList:=by
 have hs:=h.1
 have key:∀(l:List Value) (k:Nat),(∀i v,l[i]?=some v->∃t,v=Value.int ((k+i:Nat):Int) t)->Vals (((List.range l.length).map fun i=>((k+i:Nat):Int)).map V.int) l:=by
  intro l
  induction l with
  |nil=>intro k _;exact .nil
  |cons u r ih=>
   intro k hk
   rw[jR_,List.range_succ_eq_map,jS_,jS_]
   refine .cons ?_ ?_
   ·obtain⟨t,e⟩:=hk 0 u (by simp)
    exact⟨t,by simpa using e⟩
   ·have:=ih (k+1) (fun i v hv=>by
     obtain⟨t,e⟩:=hk (i+1) v (by simpa using hv)
     exact⟨t,by rw[e];congr 1;push_cast;lia⟩)
    have e:((List.map Nat.succ (List.range r.length)).map fun i=>((k+i:Nat):Int))=((List.range r.length).map fun i=>((k+1+i:Nat):Int)):=by
     rw[xB_]
     apply qU_
     intro i _
     show ((k+(i+1):Nat):Int)=_
     congr 1;lia
    rw[e]
    exact this
 have:=key acc.toList 0 (fun i v hv=>by
  obtain⟨t,e⟩:=h.2 i v (by simpa using hv)
  exact⟨t,by rw[e];congr 1;push_cast;lia⟩)
 have hl:acc.toList.length=n:=by simpa using hs
 rw[hl]at this
 have e2:((List.range n).map fun i=>((0+i:Nat):Int))=ups n:=by
  unfold ups
  apply qU_
  intro i _
  congr 1;lia
 rw[e2]at this
 exact this
theorem Ll     (hc:X.calm=true)(hg:Gl X "list")(hm:X.mg "list"=none)(hg2:Gl X "range")(hm2:X.mg "range"=none)(he:PE X e te)
  (hs1:starEach [.Call (.Name "range" p2) [e] [] pos2] X.env=[(false,eval (.Call (.Name "range" p2) [e] [] pos2) X.env)]:=by rfl) (hs:starEach [e] X.env=[(false,eval e X.env)]:=by rfl):
  PE X (.Call (.Name "list" p) [.Call (.Name "range" p2) [e] [] pos2] [] pos) (Kz te):=by
 intro pins s σ H Q I h
 refine qE_ (DB I hg hm boot_list ?_)
 refine j7_ ?_ hs1 rfl
 rw[hs1]
 refine Calls.spliced_cons ?_
 refine Call_ (DB I hg2 hm2 boot_range (j7_ (thn (Aa he Ad hs pos2 pins s σ H (fun vs H1=>∃j:Int,vs=[.int j]/\0<=j/\j<=100000/\∀p,H1 p=none->Q (.ref p) (upd H1 p (.lst ((ups j.toNat).map V.int)))) I ?_) fun us s1 ⟨vs,H1,I1,r1,q1⟩=>?_) hs rfl))
 ·show te σ H _
  have:(fun x H1=>∃j:Int,x=V.int j/\0<=j/\j<=100000/\∀p,H1 p=none->Q (.ref p) (upd H1 p (.lst ((ups j.toNat).map V.int))))=(fun x H1=>tNil σ H1 fun xs H2=>∃j:Int,x::xs=[V.int j]/\0<=j/\j<=100000/\∀p,H2 p=none->Q (.ref p) (upd H2 p (.lst ((ups j.toNat).map V.int)))):=by
   funext x H1
   simp[tNil]
  rw[<-this]
  exact h
 ·obtain⟨j,rfl,h0,h1,q⟩:=q1
  cases r1 with
  |cons r rr=>
   cases rr
   obtain⟨t,rfl⟩:=r
   refine call_range_1 ?_
   refine Calls.spliced_nil ?_
   refine call_list_range (n:=j.toNat) (I.ok.hd hc) (IsRange.new ..) (small_one s!"" s!"" s!"" s!"") ?_ s!"" fun h' tk acc' c' hk hS hacc=>?_
   ·rw[rangeSize_one];split<;>lia
   ·have kp:∀b o,s1.heap.get? b=some o->h'.get? b=some o:=fun b o e=>hk b o (jm_ _ e)
    have hz:(ups j.toNat).length=j.toNat:=by simp[ups]
    have hl:=Au
    refine⟨.ref _,_,I1.laid (t':=tk) kp (by rw[xt_];exact x9_ _) (show AX X.prog X.w _ h' _ (.lst ((ups j.toNat).map V.int)) from ⟨by rw[jd_,hz];lia,acc'.toList,c',MM hacc,by simpa using hS⟩),rfl,q _ (I1.hok.fresh (by rw[xt_];exact x9_ _))⟩
noncomputable def rNeD (K:α3)(n:Nat):R2:=fun x y H Q=>∃a c b,x=.ref a/\y=.ref c/\EqD K H n x y b/\Q (.bl (!b)) H
theorem Sr {K:α3}     : rNeD K n x y H Q=∃a c b,x=.ref a/\y=.ref c/\EqD K H n x y b/\Q (.bl (!b)) H:=rfl
theorem Ss  (n:Nat)(hu:X.A.units+n<cLine):OpR X (compareOp .NotEq) (rNeD X.K n):=by
 intro pins s σ H x y v u Q I rx ry h
 obtain⟨a,c,b,rfl,rfl,h,q⟩:=h
 cases rx
 cases ry
 cases n with
 |zero=>exact absurd (show false=true from h.1) jn_
 |succ n=>
  rcases h with ⟨fx,_⟩|⟨a',c',xs,ys,e1,e2,hq,e,he,rfl⟩
  ·exact absurd (show false=true from fx) jn_
  ·cases e1
   cases e2
   have key:∀(its its2:List Value),Vals xs its->Vals ys its2->∀j (h1:j<its.toArray.size) (h2:j<its2.toArray.size),SeqAt.EqAt X.A.in1 s its.toArray[j] its2.toArray[j] (e j):=fun its its2 r1 r2 j h1 h2=>by
    have l1:=r1.length
    have l2:=r2.length
    rw[ji_]at h1 h2
    obtain⟨u1,g1,q1⟩:=r1.get (i:=j) (x:=xs[j]'s!"") (by simp[show j<xs.length by lia])
    obtain⟨u2,g2,q2⟩:=r2.get (i:=j) (x:=ys[j]'s!"") (by simp[show j<ys.length by lia])
    have k1:its.toArray[j]'(by rw[ji_];exact h1)=u1:=by
     have:=(jc_.mp g1).2
     simpa using this
    have k2:its2.toArray[j]'(by rw[ji_];exact h2)=u2:=by
     have:=(jc_.mp g2).2
     simpa using this
    rw[k1,k2]
    exact (EqD.at I n X.A.in1 (by rw[in1_units];lia) q1 q2 (he j _ _ (by simp[show j<xs.length by lia]) (by simp[show j<ys.length by lia]))).1
   have fin:EP X pins σ Q (.bool (!(decide (xs.length=ys.length)&&(List.range (min xs.length ys.length)).all e))) s:=⟨.bl _,H,I,rfl,q⟩
   rcases hq with ⟨h1,h2⟩|⟨h1,h2⟩
   ·obtain⟨its,r1,p1,_⟩:=I.list h1
    obtain⟨its2,r2,p2,_⟩:=I.list h2
    have l1:=r1.length
    have l2:=r2.length
    by_cases hl:xs.length=ys.length
    ·have:=SeqAt.RcNeAt.lists (e:=e) p1.isList p2.isList (by rw[ji_,ji_];lia) s!"" (key its its2 r1 r2)
     rw[ji_,<-l1]at this
     rw[qv_ hl,Bool.true_and,<-hl,Nat.min_self]at fin
     exact this _ _ _ _ fin
    ·have:=SeqAt.RcNeAt.lists_lengths (A:=X.A) p1.isList p2.isList (by rw[ji_,ji_];simp;lia) s!""
     rw[j3_ hl,Bool.false_and]at fin
     exact this _ _ _ _ fin
   ·obtain⟨its,r1,p1,_⟩:=I.tuple h1
    obtain⟨its2,r2,p2,_⟩:=I.tuple h2
    have l1:=r1.length
    have l2:=r2.length
    have:=SeqAt.RcNeAt.tuples (e:=e) (show s.heap.IsTuple a its.toArray from p1) (show s.heap.IsTuple c its2.toArray from p2) s!"" (key its its2 r1 r2)
    rw[ji_,ji_,<-l1,<-l2,Mq]at this
    exact this _ _ _ _ fin
noncomputable def MN (tk tv:TE):TE:=QA [(tk,tv)]
theorem Oo     (hk:PE X k tk)(hv:PE X v tv):PE X (.Dict [some k] [v] pos) (MN tk tv):=QB (Oe hk hv Qz) rfl rfl (by intro z;cases z) (by show 1<=15;decide)
theorem MO     : MN tk tv σ H Q=∀p,H p=none->tk σ (upd H p (.dK [])) fun x H1=>tv σ H1 fun y H2=>H2 p=some (.dK [])/\∃kvs:List (Key×V),[(x,y)]=kvs.map (fun kv=>(kV kv.1,kv.2))/\kvs.length<=15/\Q (.ref p) (upd H2 p (.dK (Ek [] kvs))):=rfl
theorem QP {X:Cx}{i:Nat}{x:Str}{k v:Expr}{tk tv:TE}{pos pos' dpos:Pos}(hN:X.N.Nodup)(hi:X.N[i]?=some x)(hx:Loc X.env.scope x)(hk:PE X k tk)(hv:PE X v tv)(hs:swapsWith (.Dict [some k] [v] dpos) (some (.Name x pos')) pos.line X.env=pure false)
  (hf:X.fn x=true\/X.env.scope.names.lookup x=some .local):PS X (.Assign [.Name x pos'] (.Dict [some k] [v] dpos) pos) (tAsg (MN tk tv) (HJ i)):=EI hN hi hx (Oo hk hv) hs hf
end L2
namespace L2
open PySem GW
noncomputable def mkW (marks:α2)(r:Int):Int:=marks.getD r.toNat 0
theorem PH   (h0:0<=r)(h1:r<marks.length):atI (marks.map V.int) r=some (V.int (mkW marks r)):=by
 have hlt:r.toNat<marks.length:=by lia
 refine B9 h0 ?_
 unfold mkW
 rw[js_,ja_ hlt];rfl
end L2
namespace L2
open PySem PySem.Spec PyProof.Rows
theorem Vals.ofIx:∀{xs:List V} {us:List Value},us.length=xs.length->(∀(i:Nat) (v:Value),us[i]?=some v->∃x,xs[i]?=some x/\RelV x v)->Vals xs us
 |[],[],_,_=>.nil
 |[],_::_,h,_=>by simp at h
 |_::_,[],h,_=>by simp at h
 |x::xs,u::us,h,k=>by
  refine .cons ?_ (Vals.ofIx (by simpa using h) fun i v hv=>?_)
  ·obtain⟨y,e,r⟩:=k 0 u rfl
   cases e
   exact r
  ·obtain⟨y,e,r⟩:=k (i+1) v (by simpa using hv)
   exact⟨y,by simpa using e,r⟩
theorem Jm   (h:JF k v=true):RelV (kV k) v:=by
 rcases A6 h with ⟨i,t,rfl,e⟩|⟨x,t,rfl,e⟩
 ·exact⟨t,e⟩
 ·exact⟨t,e⟩
theorem Hg  (hc:X.calm=true):Dk X (.type "list") (fun xs H Q=>∃p kvs,xs=[.ref p]/\H p=some (.dK kvs)/\∀l,H l=none->Q (.ref l) (upd H l (.lst (kvs.map fun kv=>kV kv.1)))):=by
 intro pins s σ H xs us Q I r h
 obtain⟨p,kvs,rfl,hp,q⟩:=h
 obtain⟨u,rfl,rx⟩:=vals1 r
 cases rx
 obtain⟨hz,hS,vs,rr,m⟩:=Qw I.hok hp
 obtain⟨ep,hat⟩:=m.dictAt
 have hlen:=rr.length
 have hks:=rr.keys
 refine PySem.W.kdl_call (PySem.W.kdl_dict (knd:=A7 X.prog X.w) (kvs:=vs) (ep:=ep) hS) (I.ok.hd hc) hat s!"" fun h' tk acc' c' hk hD hacc=>?_
 have hv:Vals (kvs.map fun kv=>kV kv.1) acc'.toList:=by
  refine Vals.ofIx (by rw[jd_,hlen];simpa using hacc.1) fun i v hv=>?_
  obtain⟨k,x,hx,hki⟩:=hacc.2 i v (by simpa using hv)
  refine⟨kV k,?_,Jm hki⟩
  have e1:(kvs.map (·.1))[i]?=some k:=by rw[hks,jw_,hx];rfl
  rw[jw_]at e1 ⊢
  cases hq:kvs[i]? with
  |none=>rw[hq]at e1;cases e1
  |some kv=>rw[hq]at e1;cases e1;rfl
 exact⟨.ref _,_,I.laid (t':=tk) hk (jh_ _) (show AX X.prog X.w _ h' _ (.lst (kvs.map fun kv=>kV kv.1)) from ⟨by rw[jd_];exact hz,acc'.toList,c',hv,by simpa using hD⟩),rfl,q _ (I.hok.fresh (jh_ _))⟩
theorem Jn:∀{xs:α2},HT.lexLt xs xs=false
 |[]=>rfl
 |x::xs=>by rw[HT.lexLt_cons,if_pos rfl];exact Jn
end L2
namespace L2
theorem r_in {K:α3}     : rIn K neg x y H Q=∃p xs,y=.ref p/\(SqL K H p xs\/SqT K H p xs)/\B7 x=true/\xs.all B7=true/\Q (.bl (if neg then !inV x xs else inV x xs)) H:=rfl
theorem CS (g:Int)(ns:α2):inV (.int g) (ns.map V.int)=decide (g∈ns):=by
 unfold inV
 rw[List.any_map,qj_,List.any_eq_true,jN_]
 constructor
 ·rintro⟨n,hn,e⟩
  have e:decide (n=g)=true:=by simpa [eqV] using e
  rw[<-xo_ e];exact hn
 ·exact fun h=>⟨g,h,by simp[eqV]⟩
end L2
namespace GW
noncomputable def cnt (keys:α2)(j:Nat):Nat:=((List.range j).filter fun r:Nat=>decide ((r:Int)∈keys)).length
end GW
namespace L2
open PySem PySem.Spec PyProof.Rows
theorem Vals.ofInts:∀{us:List Value} {ns:α2},IntsAre us ns->Vals (ns.map V.int) us
 |_,_,.nil=>.nil
 |_,_,.cons n t h=>.cons ⟨t,rfl⟩ (Vals.ofInts h)
theorem JS  : Dk X (.builtin "sorted") (fun xs H Q=>∃(p:Addr) (ns:α2),xs=[.ref p]/\SqL X.K H p (ns.map V.int)/\ns.length<64/\∀(l:Addr) (ns':α2),H l=none->ns'.Perm ns->ns'.Pairwise (· <= ·)->Q (.ref l) (upd H l (.lst (ns'.map V.int)))):=by
 intro pins s σ H xs us Q I r h
 obtain⟨p,ns,rfl,hq,hz,q⟩:=h
 obtain⟨u,rfl,rx⟩:=vals1 r
 cases rx
 obtain⟨its,r',pl,_⟩:=I.list hq
 have i1:IntsAre its ns:=by simpa using intsAre_of r'
 have hlen:=r'.length
 rw[jd_]at hlen
 have hl:=Au
 refine sorted_ints pl.isList i1 s!"" fun out ns' a1 a2 a3=>?_
 obtain⟨e,he⟩:=sortedAll_at s.heap its out
 have hlp:=a2.length_eq
 exact⟨.ref _,_,I.laid (t':=s.toks) (o:=.lst (ns'.map V.int)) (fun b o hb=>sortedAll_old hb) (x9_ _) (show AX X.prog X.w _ _ _ (.lst (ns'.map V.int)) from ⟨by rw[jd_];lia,out.toList,e,Vals.ofInts a1,by simpa [seqObj] using he⟩),rfl,q _ ns' (I.hok.fresh (x9_ _)) a2 a3⟩
noncomputable def Itm (K:α3)(a:Addr)(xs:List V):It:=⟨fun i H=>i<xs.length/\SqL K H a xs,fun i H x H'=>∃t v,H t=none/\xs[i]?=some v/\x=.ref t/\H'=upd H t (.tup [.int i,v]),fun i H=>i=xs.length/\SqL K H a xs⟩
theorem Lm {P:Program}{w:World}{K:α3}{elts:List Expr}{x1}{tpos:Pos}(a e it:Addr)(hei:e≠it)(hai:a≠it)(hae:a≠e)(xs:List V):Turn P w K (.Tuple elts x1 tpos) (Itm K a xs) [e,it] e (fun i h=>∃old,IsEnum h e it (i:Nat) old/\h.IsListIter it a i) where
 mem:=by simp
 obj:=fun i h st b hb=>by
  obtain⟨old,h1,o,h2,c,d⟩:=st
  rcases jJ_.mp hb with rfl|hb
  ·exact⟨_,h1,fun v z=>by cases z⟩
  ·rw[jb_.mp hb]
   exact⟨o,h2,fun v z=>by rw[d]at z;cases z⟩
 keep:=fun i h h' st k=>by
  obtain⟨old,h1,h2⟩:=st
  exact⟨old,k e (by simp) _ h1,h2.at fun o q=>k it (by simp) o q⟩
 item:=by
  intro X hP hw hK hc i pins s σ H E I hf st hg
  subst hP hw hK
  obtain⟨hi,hq⟩:=hg
  obtain⟨old,he,hit⟩:=st
  obtain⟨its,rv,p,hz⟩:=I.list hq
  have hl:=rv.length
  have pt:s.heap.IsList a its.toArray:=p.isList
  have f1:=hf e (by simp)
  have f2:=hf it (by simp)
  have Dw:=Draws.list (prog:=X.prog) (w:=X.w) (A:=X.A.in1) (I.ok.hd hc) it a hai its.toArray
  refine wpAny_pyNext_enum_itemD Dw he ⟨hit,pt⟩ (by simp;lia) hei (by simp[hei,qf_ hae]) fun u h' tk hu heo hst' hget hsz hk=>?_
  have hT:s.heap.objs.size≠e:=xQ_ (jy_ he)
  refine⟨_,rfl,wpAny_letOwnedTupleGo_enum heo fun h2 he2 hs2=>?_⟩
  have hk2:∀b o,b≠e->b≠it->s.heap.get? b=some o->h2.get? b=some o:=fun b o h1 h3 q=>(hs2.2 b h1).trans (hk b o h1 h3 q)
  obtain⟨un,hok⟩:=I.un2 hk2 f1 f2
  have hn:H s.heap.objs.size=none:=I.hok.fresh (jh_ _)
  have hv:xs[i]?=some xs[i]:=by simp[hi]
  obtain⟨u',hu',ru⟩:=rv.get hv
  have eu:u'=u:=by
   have hu2:its[i]?=some u:=by simpa using hu
   rw[hu']at hu2
   exact jH_ hu2
  subst eu
  have hget2:h2.get? s.heap.objs.size=some {cls:=.type "tuple",data:=.seq #[.int i tk,u']}:=(hs2.2 _ hT).trans hget
  have new:AX X.prog X.w (upd H s.heap.objs.size (.tup [.int i,xs[i]])) h2 s.heap.objs.size (.tup [.int i,xs[i]]):=⟨by have:=Au;simp;lia,[.int i tk,u'],.cons ⟨tk,rfl⟩ (.cons ru .nil),_,hget2,rfl,_,rfl⟩
  refine⟨.ref s.heap.objs.size,upd H s.heap.objs.size (.tup [.int i,xs[i]]),I.call' (s':={s with heap:=h2,toks:=tk+1}) (ch:=[e,it]) rfl (un.track (jh_ _) hn) (hok.track hn new) I.bare (fun b hb=>?_),rfl,⟨_,_,hn,hv,rfl,rfl⟩,?_,fun b hb=>?_⟩
  ·exact (hf b hb).ch
  ·refine⟨u',by simpa using he2,?_⟩
   exact hst'.1.at fun o q=>(hs2.2 it (qf_ hei)).trans q
  ·have hb':=hf b hb
   have:∃o,s.heap.get? b=some o:=by
    rcases jJ_.mp hb with rfl|hb
    ·exact⟨_,he⟩
    ·rw[jb_.mp hb]
     obtain⟨o,ho,_⟩:=hit
     exact⟨o,ho⟩
   obtain⟨o,ho⟩:=this
   rw[Ag (jW_ (jy_ ho))]
   exact hb'.1
 done:=by
  intro X hP hw hK hc i pins s σ H E I hf st hg
  subst hP hw hK
  obtain⟨hi,hq⟩:=hg
  subst hi
  obtain⟨old,he,hit⟩:=st
  obtain⟨its,rv,p,hz⟩:=I.list hq
  have hl:=rv.length
  have pt:s.heap.IsList a its.toArray:=p.isList
  have Dw:=Draws.list (prog:=X.prog) (w:=X.w) (A:=X.A.in1) (I.ok.hd hc) it a hai its.toArray
  obtain⟨f0,f1,f2,f3,f4,f5⟩:=hf it (by simp)
  refine wpAny_pyNext_enum_endD Dw he ⟨by rw[ji_,<-hl];exact hit,pt⟩ fun h' eb=>⟨rfl,I.turned (t':=s.toks) (fun b o hb e=>eb b o hb e) f0 f1 f3 f4 f5⟩
 self:=fun A i s Q E st h=>by
  obtain⟨old,he,_⟩:=st
  exact wpAny_pyIter_enum he h
noncomputable def PJ (K:α3)(tl:TE):TI:=fun σ H R=>tl σ H fun x H1=>∃a xs,x=.ref a/\SqL K H1 a xs/\R (Itm K a xs) H1
theorem KA {K:α3}     : PJ K te σ H Z=te σ H fun x H1=>∃a xs,x=.ref a/\SqL K H1 a xs/\Z (Itm K a xs) H1:=rfl
theorem Ih   {x1}     (hg:Gl X "enumerate")(hm:X.mg "enumerate"=none)(he:PE X e te)(hs:starEach [e] X.env=[(false,eval e X.env)]:=by rfl):PI X (.Tuple elts x1 tpos) (.Call (.Name "enumerate" p) [e] [] pos) (PJ X.K te):=by
 intro pins s σ H R I h
 refine Call_ (DB I hg hm boot_enumerate (j7_ (thn (Aa he Ad hs pos pins s σ H (fun vs H1=>∃a xs,vs=[.ref a]/\SqL X.K H1 a xs/\R (Itm X.K a xs) H1) I ?_) fun us s1 ⟨vs,H1,I1,r1,q1⟩=>?_) hs rfl))
 ·show te σ H _
  have:(fun x H1=>∃a xs,x=V.ref a/\SqL X.K H1 a xs/\R (Itm X.K a xs) H1)=(fun x H1=>tNil σ H1 fun xs H2=>∃a ys,x::xs=[V.ref a]/\SqL X.K H2 a ys/\R (Itm X.K a ys) H2):=by
   funext x H1
   simp[tNil]
  rw[<-this]
  exact h
 ·obtain⟨a,xs,rfl,hq,q⟩:=q1
  cases r1 with
  |cons r rr=>
   cases rr
   cases r
   obtain⟨its,rv,p,hz⟩:=I1.list hq
   have pt:s1.heap.IsList a its.toArray:=p.isList
   obtain⟨oa,hoa,_⟩:=id pt
   have ha:=jy_ hoa
   refine call_enumerate_list pt fun h' he' hit' hsz hk=>?_
   refine wpAny_pyIter_enum (s:={s1 with heap:=h' }) he' ?_
   have I2:Inv X pins σ H1 {s1 with heap:=h' }:=I1.kept (t':=s1.toks) hk
   refine⟨s1.heap.objs.size+1,[s1.heap.objs.size+1,s1.heap.objs.size],_,_,H1,rfl,I2,Lm a (s1.heap.objs.size+1) s1.heap.objs.size (Nat.succ_ne_self _) (jW_ ha) (jW_ (xn_ ha)) xs,⟨_,he',hit'⟩,fun b hb=>?_,q⟩
   have hle:s1.heap.objs.size<=b:=by
    rcases jJ_.mp hb with rfl|hb
    ·lia
    ·rw[jb_.mp hb];exact jh_ _
   exact I1.fpOk hle (I1.hok.fresh hle)
theorem forM {K:α3}        (Pv:Nat->St->Hp->Prop)(h0:Pv 0 σ H)(hl:∀i σ H,i<=xs.length->Pv i σ H->SqL K H a xs)
  (hs:∀i v σ H t,xs[i]?=some v->Pv i σ H->H t=none->g (.ref t) σ (upd H t (.tup [.int i,v])) fun σ2 H2=>tb {D with nx:=Pv (i+1),ct:=Pv (i+1),bk:=D.nx} σ2 H2) (hd:∀σ H,Pv xs.length σ H->D.nx σ H):ForW (Itm K a xs) g tb D σ H:=by
 refine⟨fun i m σ H=>m=xs.length-i/\i<=xs.length/\Pv i σ H,⟨xs.length,by simp,j1_ _,h0⟩,?_⟩
 rintro i m σ H ⟨rfl,hi,p⟩
 by_cases hlt:i<xs.length
 ·refine .inr ⟨⟨hlt,hl i σ H hi p⟩,Pv (i+1),fun σ' H' p'=>⟨xs.length-(i+1),by lia,rfl,hlt,p'⟩,fun x H' y=>?_⟩
  obtain⟨t,v,hn,hv,rfl,rfl⟩:=y
  exact hs i v σ H t hv p hn
 ·have e:i=xs.length:=by lia
  subst e
  exact .inl ⟨⟨rfl,hl _ σ H hi p⟩,hd σ H p⟩
theorem Su     : rPop x vs H Q=∃l xs y,x=.ref l/\vs=[]/\H l=some (.lst xs)/\xs[xs.length-1]?=some y/\Q y (upd H l (.lst xs.dropLast)):=rfl
noncomputable def rng (i j:Int):α2:=(List.range (j-i).toNat).map fun k:Nat=>i+(k:Int)
end L2
namespace GW
open L2
theorem MQ (n:Nat):(ups n).Nodup:=by
 unfold ups
 exact zg_ (R:=(· ≠ ·)) _ (fun a b hab z=>hab s!"") List.nodup_range
theorem JT   : x∈ups n↔0<=x/\x<(n:Int):=by
 unfold ups
 rw[qh_]
 constructor
 ·rintro⟨r,hr,rfl⟩
  have:=q2_.mp hr
  lia
 ·exact fun h=>⟨x.toNat,q2_.mpr s!"",by lia⟩
end GW
namespace L2
theorem GG {n:Nat}{x:Int}(h0:0<=x)(h1:x<(n:Int)):ixN n x=some x.toNat:=by
 unfold ixN
 simp only[h0,h1,and_self,zi_]
end L2
namespace PySem
open Sem (wp)
noncomputable def Heap.DEnt (h:Heap)(d:Addr)(es:Array DictEntry)(ep:Nat):Prop:=∃o,h.get? d=some o/\o.ExactDict/\o.data=.dict es ep
section
variable {prog:Program} {w:World} {A:Around} {E:Value->Shared->Prop} {s:Shared} {d it:Addr} {es:Array DictEntry} {i ep:Nat}
theorem Heap.DEnt.typeIs (h:s.heap.DEnt d es ep):s.TypeIs (.ref d) "dict" := let ⟨o,ho,hc,_⟩:=h;⟨o,ho,hc.1⟩
theorem JU  (hd:(d==sysModules)=false)(hm:s.heap.DEnt d es ep)
  (hQ:Q (.ref s.heap.objs.size) {s with heap:=s.heap.push {cls:=.type "dict_keyiterator",data:=.fields #[.ref d,.int 0 0,.int es.size 0,.int ep 0]} }):wpAny (model prog w) A (pyIter (.ref d)) Q E s:=by
 have hT:=hm.typeIs
 obtain⟨o,ho,hc,hdat⟩:=id hm
 refine wpAny_pyIter_slot hT F.slot_dict_iter (qX_ F.slot_dict_iter hT F.entry_dict_iter (?_:wpAny _ _ (Builtin.«dict.__iter__» _) _ _ s) (F.args_dict_iter_1 _))
 unfold Builtin.«dict.__iter__»;refine wpAny_bind ?_
 unfold Builtin.Dict.dictSlotNone;refine wpAny_bind (wpAny_notOrdered_dict hT ?_)
 show wpAny _ _ (pure (Value.ref d)) _ _ s;refine jo_ ?_
 show wpAny _ _ (Builtin.Dict.showsAll d >>= _) _ _ s;unfold Builtin.Dict.showsAll
 rw[if_neg (fun z=>by rw[hd]at z;cases z)]
 refine je_ (jo_ (je_ (wpAny_dictEntries ho hdat (je_ (wpAny_dictEpoch ho hdat ?_)))))
 refine je_ (qJ_ (jo_ ⟨_,rfl,"dict_keyiterator",_,⟨_,jE_ _ rfl,rfl⟩,qC_.lookup,?_⟩));simpa [rawInt] using hQ
theorem FZ  (hit:s.heap.IsKeyIter it d i es.size ep)(hm:s.heap.DEnt d es ep)(hlt:i<es.size)
  (hQ:∀h',h'.IsKeyIter it d (i+1) es.size ep->Heap.SameBut it s.heap h'->Q (some es[i].key) {s with heap:=h' }):wpAny (model prog w) A (pyNext (.ref it)) Q E s:=by
 obtain⟨o,ho,hc,hd⟩:=id hit
 obtain⟨od,hod,hcd,hdd⟩:=id hm
 have hown:Builtin.Dict_items.ownsTuple "dict_keyiterator"=false:=by decide
 unfold pyNext
 refine je_ (x3_ (qF_ (name:=Str.ofString "__next__") hit.typeIs qC_ (qX_ qC_ hit.typeIs F.entry_dict_keyiterator_next ?_ (F.args_dict_keyiterator_next_1 _))))
 refine je_ (jo_ (je_ (je_ ?_)))
 first|refine je_ (qQ_ hit.typeIs (jo_ (je_ (wpAny_fieldsOf ho hd ?_))))|refine je_ (q9_ hit.typeIs (jo_ (je_ (wpAny_fieldsOf ho hd ?_))))
 simp only[hown,q0_,xO_];show wpAny _ _ (if (Value.ref d==Value.none)=true then _ else _) _ _ s
 rw[if_neg (show ¬ ((Value.ref d==Value.none)=true) from fun z=>jn_ z)]
 refine je_ (jo_ (je_ (wpAny_dictEntries hod hdd ?_)))
 rw[if_neg (by simp)];refine je_ (jo_ (je_ (wpAny_dictEpoch hod hdd ?_)))
 rw[if_neg (by simp)];refine jo_ ?_
 simp only[show ¬ ((i:Int)<0) from by lia,xO_,ju_,Array.getElem?_eq_getElem hlt];refine je_ ?_
 first|refine je_ (qQ_ hit.typeIs (jo_ (je_ (xU_ hit.typeIs ?_))))|refine je_ (q9_ hit.typeIs (jo_ (je_ (xU_ hit.typeIs ?_))))
 show wpAny _ _ (setField (.ref it) 1 (rawInt ((i:Int)+1)) >>= _) _ _ s;refine je_ (wpAny_setField ho hd (by simp) ?_)
 have hit':(s.heap.update it (Obj.mapFields (·.setIfInBounds 1 (rawInt ((i:Int)+1))))).IsKeyIter it d (i+1) es.size ep:=⟨_,qO_ _ ho (Obj.isFreed_of_fields (Obj.data_mapFields hd _)),(Obj.cls_mapFields ..).trans hc,by rw[Obj.data_mapFields hd];simp[rawInt]⟩
 refine je_ (qd_ (je_ (xU_ (s:={s with heap:=s.heap.update it (Obj.mapFields (·.setIfInBounds 1 (rawInt ((i:Int)+1))))}) hit'.typeIs ?_)))
 show wpAny _ _ (pure es[i].key) _ _ _;exact jo_ (jo_ ⟨_,rfl,jo_ (hQ _ hit' (xw_ ..))⟩)
theorem GH  (hh:A.handled=none)(hit:s.heap.IsKeyIter it d i es.size ep)(hm:s.heap.DEnt d es ep)(hge:es.size<=i)
  (hQ:∀h',Heap.ExtBut it s.heap h'->Q none {s with heap:=h' }):wpAny (model prog w) A (pyNext (.ref it)) Q E s:=by
 obtain⟨o,ho,hc,hd⟩:=id hit
 obtain⟨od,hod,hcd,hdd⟩:=id hm
 have hown:Builtin.Dict_items.ownsTuple "dict_keyiterator"=false:=by decide
 unfold pyNext
 refine je_ (x3_ (qF_ (name:=Str.ofString "__next__") hit.typeIs qC_ (qX_ qC_ hit.typeIs F.entry_dict_keyiterator_next ?_ (F.args_dict_keyiterator_next_1 _))))
 refine je_ (jo_ (je_ (je_ ?_)))
 first|refine je_ (qQ_ hit.typeIs (jo_ (je_ (wpAny_fieldsOf ho hd ?_))))|refine je_ (q9_ hit.typeIs (jo_ (je_ (wpAny_fieldsOf ho hd ?_))))
 simp only[hown,q0_,xO_];show wpAny _ _ (if (Value.ref d==Value.none)=true then _ else _) _ _ s
 rw[if_neg (show ¬ ((Value.ref d==Value.none)=true) from fun z=>jn_ z)]
 refine je_ (jo_ (je_ (wpAny_dictEntries hod hdd ?_)))
 rw[if_neg (by simp)];refine je_ (jo_ (je_ (wpAny_dictEpoch hod hdd ?_)))
 rw[if_neg (by simp)];refine jo_ ?_
 simp only[show ¬ ((i:Int)<0) from by lia,xO_,ju_,Array.getElem?_eq_none hge];refine je_ ?_
 first|refine je_ (qQ_ hit.typeIs (jo_ ?_))|refine je_ (q9_ hit.typeIs (jo_ ?_))
 show wpAny _ _ (setField (.ref it) 0 .none >>= _) _ _ s;refine je_ (wpAny_setField ho hd (by simp) ?_)
 show wpAny _ _ (newExc (.type "StopIteration") [] >>= _) _ _ _;refine je_ ?_
 simp only[newExc,newTuple];refine je_ (qJ_ ?_ (by size_fits))
 refine je_ (m:=firstArgMember _ _) (wpAny_of_eq (a:=Value.none) (by first|rfl|(simp only[firstArgMember];rfl)) (qJ_ ?_ (by size_fits)))
 simp only[raiseNew];refine je_ (wpAny_handled ?_)
 rw[show A.in1.handled=none from hh];refine je_ (jo_ (wpAny_throw ?_))
 refine je_ (wpAny_isInstance (T := "StopIteration") (b:=true) ⟨_,jE_ _ rfl,rfl⟩ isSubtype_stop (jo_ (hQ _ (((xw_ ..).extBut.push _).push _))))
end
end PySem
namespace L2
open PySem PySem.Spec PyProof.Rows
theorem Fs {α β:Type}{F:α->β->Prop}:∀{l:List α} {m:List β} {i:Nat} {a:α},Paired F l m->l[i]?=some a->∃b,m[i]?=some b/\F a b
 |_,_,_,_,.nil,e=>by simp at e
 |_,_,0,_,.cons r _,e=>by simp at e;subst e;exact⟨_,rfl,r⟩
 |_,_,i+1,a,.cons _ t,e=>by
  obtain⟨b,h1,h2⟩:=Fs (i:=i) (a:=a) t (by simpa using e)
  exact⟨b,by simpa using h1,h2⟩
theorem MR       (ok:HOk P w H h)(e:Rd H a (.dT kvs)):
  ∃o es ep,h.get? a=some o/\o.ExactDict/\o.data=.dict es ep/\es.size=kvs.length/\(a==sysModules)=false/\kvs.length<=sizeLine /\
   ∀(i:Nat) (k:List Key) (v:V),kvs[i]?=some (k,v)->∃b en,es[i]?=some en/\en.key=.ref b/\H b=some (.tup (k.map kV)):=by
 obtain⟨z,y,xs,r,o,es,ep,h1,h2,h3,h4,h5⟩:=(show AX P w H h a (.dT kvs) from Qv ok e)
 have hl:=Paired.length r
 have hs:es.size=kvs.length:=by rw[<-xb_,h4,jd_,hl]
 refine⟨o,es,ep,h1,h2,h3,hs,y,z,fun i k v hk=>?_⟩
 obtain⟨q,hq,e1,e2,_⟩:=Fs r hk
 refine⟨q.2.1,entryOfKey (tupleKind (A7 P w)) q,?_,rfl,e2⟩
 rw[<-Array.getElem?_toList,h4,jw_,hq];rfl
section
variable {X:Cx} {pins:α7} {σ:St} {H:Hp} {s:Shared} {a:Addr}
theorem Inv.freeze   (I:Inv X pins σ H s)(e:H a=some (.dT kvs))(ho:s.heap.get? a=some o):Inv X pins σ (upd H a (.frz o (.dT kvs))) s:=by
 refine Fo (h':=s.heap) (t':=s.toks) I (by rw[e];exact True.intro) ⟨rfl,fun _ _=>rfl⟩ ⟨o,ho⟩ ?_
 obtain⟨z,y,xs,r,q⟩:=(show AX X.prog X.w H s.heap a (.dT kvs) from I.hok a _ e)
 refine⟨ho,z,y,xs,Paired.mapP r fun p x hx=>⟨hx.1,?_,hx.2.2⟩,q⟩
 rw[Ag (fun z=>by have h1:=hx.2.1;rw[z,e]at h1;cases h1)]
 exact hx.2.1
end
noncomputable def Itd (o:Obj)(a:Addr)(kvs:List (List Key×V)):It:=⟨fun i H=>i<kvs.length/\H a=some (.frz o (.dT kvs)),fun i H x H'=>H'=H/\∃b k v,kvs[i]?=some (k,v)/\x=.ref b/\H b=some (.tup (k.map kV)),fun i H=>kvs.length<=i/\H a=some (.frz o (.dT kvs))⟩
theorem Ln {P:Program}{w:World}{K:α3}{tg:Expr}{o:Obj}{a it:Addr}{kvs:List (List Key×V)}{es:Array DictEntry}{ep:Nat}(hai:a≠it)(hc:o.ExactDict)(hd:o.data=.dict es ep)(hs:es.size=kvs.length):
  Turn P w K tg (Itd o a kvs) [it] it (fun i h=>h.IsKeyIter it a i es.size ep) where
 mem:=by simp
 obj:=fun i h st b hb=>by
  have e:b=it:=by simpa using hb
  subst e
  obtain⟨o,e,c,d⟩:=st
  exact⟨o,e,fun v z=>by rw[d]at z;cases z⟩
 keep:=fun i h h' st k=>st.at fun o e=>k it (by simp) o e
 item:=by
  intro X hP hw hK hcm i pins s σ H E I hf st hg
  subst hP hw hK
  obtain⟨hi,hq⟩:=hg
  obtain⟨hko,_⟩:=(show AX X.prog X.w H s.heap a (.frz o (.dT kvs)) from I.hok a _ hq)
  obtain⟨o',es',ep',g1,g2,g3,g4,g5,g6,g7⟩:=MR I.hok (.inr ⟨o,hq⟩)
  rw[hko]at g1
  cases g1
  rw[hd]at g3
  cases g3
  obtain⟨kv,hkv⟩:∃kv,kvs[i]?=some kv:=⟨kvs[i],by simp[hi]⟩
  obtain⟨k,v⟩:=kv
  obtain⟨b,en,e1,e2,e3⟩:=g7 i k v hkv
  obtain⟨f0,f1,f2,f3,f4,f5⟩:=hf it (by simp)
  have hlt:i<es.size:=by lia
  have ee:es[i]=en:=by rw[Array.getElem?_eq_getElem hlt]at e1;exact jH_ e1
  refine FZ st ⟨o,hko,hc,hd⟩ hlt fun h' st' sb=>?_
  have I1:Inv X pins σ H {s with heap:=h' }:=I.turned (t':=s.toks) (fun b o hb e=>(sb.2 b hb).trans e) f0 f1 f3 f4 f5
  obtain⟨io,e,c,d⟩:=id st'
  exact⟨_,rfl,LN (s:={s with heap:=h' }) e c d (by decide) ⟨.ref b,H,I1,(by rw[ee,e2];rfl),⟨rfl,b,k,v,hkv,rfl,e3⟩,st',fun b hb=>(hf b hb).1⟩⟩
 done:=by
  intro X hP hw hK hcm i pins s σ H E I hf st hg
  subst hP hw hK
  obtain⟨hi,hq⟩:=hg
  obtain⟨hko,_⟩:=(show AX X.prog X.w H s.heap a (.frz o (.dT kvs)) from I.hok a _ hq)
  obtain⟨f0,f1,f2,f3,f4,f5⟩:=hf it (by simp)
  exact GH (I.ok.hd hcm) st ⟨o,hko,hc,hd⟩ s!"" fun h' eb=>⟨rfl,I.turned (t':=s.toks) (fun b o hb e=>eb b o hb e) f0 f1 f3 f4 f5⟩
 self:=fun _ _ _ _ _ st h=>wpAny_pyIter_keyiter st h
noncomputable def PL (td:TE):TI:=fun σ H R=>td σ H fun x H1=>∃a kvs,x=.ref a/\H1 a=some (.dT kvs)/\∀o,R (Itd o a kvs) (upd H1 a (.frz o (.dT kvs)))
theorem KC     : PL te σ H Z=te σ H fun x H1=>∃a kvs,x=.ref a/\H1 a=some (.dT kvs)/\∀o,Z (Itd o a kvs) (upd H1 a (.frz o (.dT kvs))):=rfl
theorem Oq     (hl:PE X l tl):PI X tg l (PL tl):=by
 intro pins s σ H R I h
 refine thn (hl pins s σ H _ I h) fun v s1 ⟨x,H1,I1,r1,q1⟩=>?_
 obtain⟨a,kvs,e,hq,q⟩:=q1
 subst e
 cases r1
 obtain⟨o,es,ep,g1,g2,g3,g4,g5,g6,g7⟩:=MR I1.hok (.inl hq)
 have I2:=I1.freeze hq g1
 refine JU g5 ⟨o,g1,g2,g3⟩ ?_
 refine⟨s1.heap.objs.size,[s1.heap.objs.size],_,_,_,rfl,I2.kept (t':=s1.toks) fun b o e=>jm_ _ e,Ln (o:=o) (kvs:=kvs) (jW_ (jy_ g1)) g2 g3 g4,⟨_,jE_ _ rfl,rfl,rfl⟩,fun b hb=>?_,q o⟩
 have e:b=s1.heap.objs.size:=by simpa using hb
 subst e
 exact I2.fpOk (jh_ _) (I2.hok.fresh (jh_ _))
theorem forD         (Pv:Nat->St->Hp->Prop)(h0:Pv 0 σ H)(hl:∀i σ H,i<=kvs.length->Pv i σ H->H a=some (.frz o (.dT kvs)))
  (hs:∀i k v b σ H,kvs[i]?=some (k,v)->Pv i σ H->H b=some (.tup (k.map kV))->g (.ref b) σ H fun σ2 H2=>tb {D with nx:=Pv (i+1),ct:=Pv (i+1),bk:=D.nx} σ2 H2) (hd:∀σ H,Pv kvs.length σ H->D.nx σ H):ForW (Itd o a kvs) g tb D σ H:=by
 refine⟨fun i m σ H=>m+i=kvs.length/\Pv i σ H,⟨kvs.length,by lia,h0⟩,fun i m σ H ⟨hm,hp⟩=>?_⟩
 have hq:=hl i σ H s!"" hp
 by_cases hi:i<kvs.length
 ·refine .inr ⟨⟨hi,hq⟩,Pv (i+1),fun σ' H' h=>⟨m-1,by lia,by lia,h⟩,fun x H' hy=>?_⟩
  obtain⟨rfl,b,k,v,hk,rfl,hb⟩:=hy
  exact hs i k v b σ _ hk hp hb
 ·have e:i=kvs.length:=by lia
  subst e
  exact .inl ⟨⟨jh_ _,hq⟩,hd σ H hp⟩
noncomputable def JV (tk tv:TE):TE:=fun σ H Q=>∀p,H p=none->tk σ (upd H p (.dT [])) fun x H1=>tv σ H1 fun y H2=>H2 p=some (.dT [])/\∃b k,x=.ref b/\H2 b=some (.tup (k.map kV))/\Q (.ref p) (upd H2 p (.dT [(k,y)]))
theorem KD     : JV tk tv σ H Q=∀p,H p=none->tk σ (upd H p (.dT [])) fun x H1=>tv σ H1 fun y H2=>H2 p=some (.dT [])/\∃b k,x=.ref b/\H2 b=some (.tup (k.map kV))/\Q (.ref p) (upd H2 p (.dT [(k,y)])):=rfl
theorem MS     (hu:X.A.units+1<cLine)(hk:PE X k tk)(hv:PE X v tv):PE X (.Dict [some k] [v] pos) (JV tk tv):=by
 intro pins s σ H Q I q
 have hn:=I.hok.fresh (jh_ s.heap.objs.size)
 have I1:=I.laid (a:=s.heap.objs.size) (o:=.dT []) (h':=s.heap.push {cls:=.type "dict",data:=.dict #[]}) (t':=s.toks) (fun _ _ q=>jm_ _ q) (jh_ _) (Od s.heap I.big)
 refine wpAny_Dict_any rfl rfl (by intro z;cases z) (by show 1<=15;decide) (pairTrees_cons_walk (thn (hk pins _ σ _ _ I1 (q _ hn)) fun u s1 ⟨x,H1,J1,rx,q1⟩=>thn (hv pins s1 σ H1 _ J1 q1) fun w2 s2 ⟨y,H2,J2,ry,q2⟩=>pairTrees_nil_walk ?_))
 obtain⟨e,b,ks,rfl,hb,q3⟩:=q2
 obtain rfl:u=Value.ref b:=rx
 obtain⟨z,hd,xs,rel,dd⟩:=RQ J2.hok e
 cases rel
 unfold storeAll
 rw[List.forIn_cons]
 refine je_ (je_ (wpAny_dictSet_heap (hsz:=by simp) (show (tupleKind (A7 X.prog X.w)).room X.A from (show X.A.units<cLine by lia)) (Je J2.hok hb) dd fun h' dd' hs=>jo_ ?_))
 show wpAny _ _ (forIn [] PUnit.unit _) _ _ _
 rw[List.forIn_nil]
 refine jo_ ⟨.ref s.heap.objs.size,_,?_,rfl,q3⟩
 obtain⟨qo,es,ep,hq,h2,h3,h4,_,h5⟩:=dd'
 have hl:([(ks,y)]:List (List Key×V)).length<=sizeLine:=by rw[sizeLine_eq];simp
 refine Fo J2 (by rw[e];exact True.intro) hs ⟨qo,hq⟩ ⟨hl,hd,_,KT.keeps (.cons ⟨rfl,hb,ry⟩ .nil) fun c ys ec=>?_,qo,es,ep,hq,h2,h3,h4,h5⟩
 rw[Ag (Rr ec e (fun z=>nomatch z))]
 exact ec
theorem Ot {X:Cx}{i:Nat}{x:Str}{k v:Expr}{tk tv:TE}{pos pos' dpos:Pos}(hu:X.A.units+1<cLine)(hN:X.N.Nodup)(hi:X.N[i]?=some x)(hx:Loc X.env.scope x)(hk:PE X k tk)(hv:PE X v tv)(hs:swapsWith (.Dict [some k] [v] dpos) (some (.Name x pos')) pos.line X.env=pure false)
  (hf:X.fn x=true\/X.env.scope.names.lookup x=some .local):PS X (.Assign [.Name x pos'] (.Dict [some k] [v] dpos) pos) (tAsg (JV tk tv) (HJ i)):=EI hN hi hx (MS hu hk hv) hs hf
end L2
namespace HT
open PySem PyProof.Rows
inductive LtD (A:Around)(s:Shared):List Value->List Value->Bool->Prop
 | eq {v w:Value} {vs ws:List Value} {b:Bool}:SeqAt.EqAt A s v w true->LtD A s vs ws b->LtD A s (v::vs) (w::ws) b
 | ne {v w:Value} {vs ws:List Value} {b:Bool}:SeqAt.EqAt A s v w false->(∀(prog:Program) (wd:World) (E:Value->Shared->Prop) (Q:Value->Shared->Prop),Q (.bool b) s->wpAny (model prog wd) A (richCompare .Lt v w) Q E s)->LtD A s (v::vs) (w::ws) b
section
open PySem.SeqAt
open PySem.AutoSeq1 (wpAny_loadPart')
open PySem.MeetsSeq PySem.MeetsSeq2 PySem.MeetsSeq3
theorem Lo (l b:Addr)(items items2:Array Value)(n n2:Nat)(dd dd2:Option Addr)(sl sl2:Array (α5))(r:Bool):
  Meets (Builtin.«tuple.__lt__» ⟨[.ref l,.ref b],[]⟩)
   (fun A R s=>s.heap.get? l=some {cls:=.type "tuple",dict:=dd,data:=.seq items n,slots:=sl}/\s.heap.get? b=some {cls:=.type "tuple",dict:=dd2,data:=.seq items2 n2,slots:=sl2} /\
    LtD A.in1 s items.toList items2.toList r/\R (.ok (.ret (.bool r))) s):=
 .of_wp fun prog w A R s h=>by
  obtain⟨hp,g,d,tk,os⟩:=s;obtain⟨hl,hb,hg,h⟩:=h
  have f2:=xy_
  wp_walk using jU_ hl,jU_ hb,wpAny_forIn_list _ (fun rest b s'=>b.1=none/\s'=⟨hp,g,d,tk,os⟩/\∃(vs ws:List Value),rest=vs.zip ws/\LtD A.in1 ⟨hp,g,d,tk,os⟩ vs ws r) _
  case turn=>
   rintro⟨y,x⟩ rest b s' ⟨hb',rfl,vs,ws,hz,hgd⟩
   cases hgd with
   |eq he hgd' =>
    rw[qr_]at hz
    injection hz with hyx hrest
    injection hyx with hy hx
    subst hy hx
    refine je_ (he prog w _ _ ?_)
    wp_walk
    exact⟨rfl,rfl,_,_,hrest,hgd'⟩
   |ne he hrc=>
    rw[qr_]at hz
    injection hz with hyx hrest
    injection hyx with hy hx
    subst hy hx
    refine je_ (he prog w _ _ ?_)
    have hri:=hrc prog w
    wp_walk using hri
    exact⟨_,rfl,h⟩
  case fin=>
   rintro⟨b1,b2⟩ s' ⟨hb',rfl,vs,ws,hz,hgd⟩
   cases hgd with
   |eq he hgd'=>rw[qr_]at hz;cases hz
   |ne he hrc=>rw[qr_]at hz;cases hz
  case h=>
   exact⟨rfl,rfl,items.toList,items2.toList,rfl,hg⟩
end
theorem lt_tupD      (hl:IsTup s.heap l items)(hb:IsTup s.heap b items2)(hg:LtD A.in1 s items.toList items2.toList r)(hu:A.units<cLine)
  (prog:Program) (w:World) (E Q:Value->Shared->Prop) (h:Q (.bool r) s):wpAny (model prog w) A (richCompare .Lt (.ref l) (.ref b)) Q E s:=by
 obtain⟨⟨cls,dd,data,sl⟩,ho,hc,n,hd⟩:=id hl
 obtain⟨⟨cls2,dd2,data2,sl2⟩,ho2,hc2,n2,hd2⟩:=id hb
 simp only at hc hd hc2 hd2
 subst hc hd hc2 hd2
 exact xJ_ (op:=.Lt) ⟨_,ho,rfl⟩ ⟨_,ho2,rfl⟩ xS_ xK_ (xD_ _ _) (Lo l b items items2 n n2 dd dd2 sl sl2 r)
  ⟨ho,ho2,hg,show Value.bool r≠Value.notImplemented/\Q (.bool r) s from ⟨(fun x=>nomatch x),h⟩⟩ hu
theorem rcLt_intD (A:Around)(s:Shared)(a:Int)(t:Tok)(c:Int)(u:Tok)(prog:Program)(w:World)(E:Value->Shared->Prop)(Q:Value->Shared->Prop)(h:Q (.bool (decide (a<c))) s):
  wpAny (model prog w) A (richCompare .Lt (.int a t) (.int c u)) Q E s:=
 (PyProof.Rows.lt_int h:wpAny (model prog w) A (compareOp .Lt (.int a t) (.int c u)) Q E s)
theorem LtD.ints   : ∀{vs ws:List Value} {ns ms:α2},IntsAre vs ns->IntsAre ws ms->ns.length=ms.length->ns≠ms->LtD A s vs ws (lexLt ns ms):=by
 intro vs ws ns ms h1
 induction h1 generalizing ws ms with
 |nil=>intro h2 hl hx;cases h2 with
  |nil=>exact absurd rfl hx
  |cons=>cases hl
 |cons a t h1' ih=>intro h2 hl hx;cases h2 with
  |nil=>cases hl
  |cons c u h2' =>
   rw[lexLt_cons]
   obtain⟨e,he,hiff⟩:=eqAt_int A s a t c u
   cases e with
   |true=>
    have hac:=hiff.mp rfl
    rw[if_pos hac]
    exact .eq he (ih h2' (by simpa using hl) (fun z=>hx (by rw[hac,z])))
   |false=>
    rw[if_neg (fun q=>absurd (hiff.mpr q) jn_)]
    exact .ne he fun prog w E Q hq=>rcLt_intD A s a t c u prog w E Q hq
end HT
namespace GB
open GW
variable {α:Type} [DecidableEq α]
noncomputable def Ft (step:α->Int->α)(a:α)(ws:α2):α:=ws.foldl step a
theorem Hu (step:α->Int->α)(a:α)(ws:α2)(x:Int):Ft step a (ws++[x])=step (Ft step a ws) x:=by
 unfold Ft
 rw[jK_];rfl
theorem Lp (step:α->Int->α)(a:α)(ws:α2)(x:Int):Ft step a (x::ws)=Ft step (step a x) ws:=rfl
noncomputable def put (step:α->Int->α)(r:α)(w:α2)(ents:List (α×α2))(x:Nat):List (α×α2):=if step r x∈ents.map (·.1) then ents else ents++[(step r x,w++[(x:Int)])]
noncomputable def addF (step:α->Int->α)(r:α)(w:α2):Nat->Nat->List (α×α2)->List (α×α2)
 |0,_,ents=>ents
 |m+1,x,ents=>addF step r w m (x+1) (put step r w ents x)
noncomputable def bfsF (step:α->Int->α)(m:Nat):Nat->List (α×α2)->Nat->List (α×α2)
 |0,ents,_=>ents
 |f+1,ents,i=>match ents[i]? with
  |none=>ents
  |some e=>bfsF step m f (addF step e.1 e.2 m 0 ents) (i+1)
theorem MT {step:α->Int->α}{m:Nat}{ents:List (α×α2)}{i:Nat}(h:ents[i]?=none):∀f,bfsF step m f ents i=ents
 |0=>rfl
 |f+1=>by rw[bfsF,h]
theorem MU {step:α->Int->α}  {ents:List (α×α2)}   (h:ents[i]?=some e)(f:Nat):bfsF step m (f+1) ents i=bfsF step m f (addF step e.1 e.2 m 0 ents) (i+1):=by rw[bfsF,h]
theorem MV (step:α->Int->α)(r:α)(w:α2)(x:Nat)(ents:List (α×α2)):addF step r w 0 x ents=ents:=rfl
theorem MW (step:α->Int->α)(r:α)(w:α2)(m x:Nat)(ents:List (α×α2)):addF step r w (m+1) x ents=addF step r w m (x+1) (put step r w ents x):=rfl
structure B (L:Int)(step:α->Int->α)(st:α)(ok:α->Prop)(ents:List (α×α2))(i:Nat)(top:Int):Prop where
 hd:ents[0]?=some (st,[])
 il:i<=ents.length
 sh:∀(j:Nat) (e:α×α2),ents[j]?=some e->e.2.length<=j
 nod:(ents.map (·.1)).Nodup
 rng:∀e∈ents,ok e.1
 wd:∀e∈ents,isW L e.2=true/\Ft step st e.2=e.1
 inc:∀(j k:Nat) (a b:α×α2),j<k->ents[j]?=some a->ents[k]?=some b->Bt L a.2<Bt L b.2
 bnd:∀e∈ents,Bt L e.2<top
 don:∀j,j<i->∀e,ents[j]?=some e->∀x:Int,0<=x->x<L->∃e'∈ents,e'.1=step e.1 x/\Bt L e'.2<=Bt L (e.2++[x])
variable {L:Int} {step:α->Int->α} {st:α} {ok:α->Prop} {ents:List (α×α2)} {i:Nat} {top:Int}
theorem B.start (L:Int)(step:α->Int->α){st:α}  (h:ok st):B L step st ok [(st,[])] 0 1:=by
 refine⟨rfl,by simp,(fun j e he=>by cases j with|zero=>(simp at he;subst he;simp)|succ j=>simp at he),by simp,fun e he=>?_,fun e he=>?_,fun j k a b h h1 h2=>?_,fun e he=>?_,fun j hj=>absurd hj (qp_ _)⟩
 ·simp at he;subst he;exact h
 ·simp at he;subst he;exact⟨rfl,rfl⟩
 ·have:=(jc_.mp h2).1;simp at this;lia
 ·simp at he;subst he;simp[Bt,Kt]
theorem B.up  (h:B L step st ok ents i top)(ht:top<=top'):B L step st ok ents i top' :=
 ⟨h.hd,h.il,h.sh,h.nod,h.rng,h.wd,h.inc,fun e he=>Int.lt_of_lt_of_le (h.bnd e he) ht,h.don⟩
theorem B.add (h:B L step st ok ents i top)    (hw:(r,w)∈ents)(hx:0<=x/\x<L)(ht:top<=Bt L w*L+x+1)
  (hgr:ok (step r x)) (hno:step r x∉ents.map (·.1)):B L step st ok (ents++[(step r x,w++[x])]) i (Bt L w*L+x+2):=by
 obtain⟨v1,v2⟩:=h.wd _ hw
 have hp:=Fq L w x
 have hlen:0<ents.length:=by have:=(jc_.mp h.hd).1;lia
 refine⟨?_,by have:=h.il;simp;lia,fun j e he=>?_,?_,fun e he=>?_,fun e he=>?_,fun j k a b hjk h1 h2=>?_,fun e he=>?_,fun j hj e he y hy0 hy1=>?_⟩
 ·rw[jg_ hlen];exact h.hd
 ·have hj:=(jc_.mp he).1
  rw[jf_,jq_]at hj
  by_cases hjl:j<ents.length
  ·rw[jg_ hjl]at he
   exact h.sh j e he
  ·have e1:j=ents.length:=by lia
   subst e1
   rw[jp_ (jh_ _),j4_]at he
   simp at he
   subst he
   obtain⟨j',hj',ej⟩:=qm_ hw
   have:=h.sh j' (r,w) (by rw[ja_ hj',ej])
   have this':w.length<=j':=this
   show (w++[x]).length<=ents.length
   simp;lia
 ·rw[jI_,qc_]
  refine⟨h.nod,by simp,fun a ha b hb=>?_⟩
  simp at hb
  subst hb
  exact fun z=>hno (z ▸ ha)
 ·rcases jj_.mp he with he|he
  ·exact h.rng e he
  ·rw[jb_.mp he];exact hgr
 ·rcases jj_.mp he with he|he
  ·exact h.wd e he
  ·rw[jb_.mp he]
   refine⟨?_,?_⟩
   ·rw[B8]at v1 ⊢
    intro z hz
    rcases jj_.mp hz with hz|hz
    ·exact v1 z hz
    ·rw[jb_.mp hz];exact hx
   ·show Ft step st (w++[x])=step r x
    rw[Hu]
    have v2':Ft step st w=r:=v2
    rw[v2']
 ·have hk:=(jc_.mp h2).1
  rw[jf_,jq_]at hk
  by_cases hkl:k<ents.length
  ·rw[jg_ hkl]at h2
   rw[jg_ s!""]at h1
   exact h.inc j k a b hjk h1 h2
  ·have hke:k=ents.length:=by lia
   subst hke
   rw[jg_ s!""]at h1
   rw[jp_ (jh_ _),j4_]at h2
   simp at h2
   subst h2
   have:=h.bnd a (jl_ h1)
   show Bt L a.2<Bt L (w++[x])
   rw[hp];lia
 ·rcases jj_.mp he with he|he
  ·have:=h.bnd e he;lia
  ·rw[jb_.mp he]
   show Bt L (w++[x])<_
   rw[hp];lia
 ·have hjl:j<ents.length\/j=ents.length:=by
   have:=(jc_.mp he).1
   rw[jf_,jq_]at this
   lia
  rcases hjl with hjl|hjl
  ·rw[jg_ hjl]at he
   obtain⟨e',m,q⟩:=h.don j hj e he y hy0 hy1
   exact⟨e',jr_ _ m,q⟩
  ·exact absurd hjl (by have:=h.il;lia)
noncomputable def Ou (L:Int)(step:α->Int->α)(ents:List (α×α2))(r:α)(w:α2)(x:Nat):Prop:=∀y:Int,0<=y->y<x->∃e'∈ents,e'.1=step r y/\Bt L e'.2<=Bt L (w++[y])
theorem B.letter {x:Nat}{w:α2}{r:α}(h:B L step st ok ents i (Bt L w*L+x+1))(hs:Ou L step ents r w x)(hw:(r,w)∈ents)(hx:(x:Int)<L)
  (hgr:ok (step r x)):B L step st ok (put step r w ents x) i (Bt L w*L+((x+1:Nat):Int)+1)/\Ou L step (put step r w ents x) r w (x+1):=by
 unfold put
 by_cases hm:step r x∈ents.map (·.1)
 ·rw[if_pos hm]
  refine⟨h.up (by push_cast;lia),fun y hy0 hy1=>?_⟩
  by_cases hyx:y<x
  ·exact hs y hy0 hyx
  ·have e:y=x:=by push_cast at hy1;lia
   subst e
   obtain⟨e',he',e1⟩:=qh_.mp hm
   refine⟨e',he',e1,?_⟩
   have:=h.bnd e' he'
   rw[Fq];lia
 ·rw[if_neg hm]
  refine⟨(h.add hw ⟨by lia,hx⟩ (Int.le_refl _) hgr hm).up (by push_cast;lia),fun y hy0 hy1=>?_⟩
  by_cases hyx:y<x
  ·obtain⟨e',m,q⟩:=hs y hy0 hyx
   exact⟨e',jr_ _ m,q⟩
  ·have e:y=x:=by push_cast at hy1;lia
   subst e
   exact⟨_,jk_ _ jv_,rfl,Int.le_refl _⟩
theorem B.next (hL:0<L){m:Nat}{w:α2}{r:α}(h:B L step st ok ents i (Bt L w*L+m+1))(hm:(m:Int)=L)(hs:Ou L step ents r w m)(hw:ents[i]?=some (r,w)):
  B L step st ok ents (i+1) (Bt L w*L+L+1)/\∀e,ents[i+1]?=some e->Bt L w*L+L+1<=Bt L e.2*L+1:=by
 have hi:=(jc_.mp hw).1
 rw[hm]at h
 refine⟨⟨h.hd,hi,h.sh,h.nod,h.rng,h.wd,h.inc,h.bnd,fun j hj e he x h0 h1=>?_⟩,fun e he=>?_⟩
 ·by_cases hji:j<i
  ·exact h.don j hji e he x h0 h1
  ·have e1:j=i:=by lia
   subst e1
   rw[hw]at he
   cases he
   exact hs x h0 s!""
 ·have:=h.inc i (i+1) _ _ (Nat.lt_succ_self _) hw he
  have h2:=qP_ (show Bt L w+1<=Bt L e.2 from this) (Int.le_of_lt hL)
  rw[Int.add_mul]at h2
  lia
theorem Ov {r:α}{w:α2}{x j:Nat}{e:α×α2}(h:ents[j]?=some e):(put step r w ents x)[j]?=some e:=by
 unfold put
 split
 ·exact h
 ·rw[jg_ (jc_.mp h).1];exact h
theorem B.least (h:B L step st ok ents ents.length top){ws:α2}(hv:isW L ws=true):∀i,i<=ws.length->∃w',(Ft step st (ws.take i),w')∈ents/\Bt L w'<=Bt L (ws.take i)
 |0,_=>⟨[],by simpa [Ft] using jl_ h.hd,by simp⟩
 |i+1,hi=>by
  obtain⟨w',m,hp⟩:=B.least h hv i s!""
  have hwi:ws[i]?=some ws[i]:=by simp
  have hin:=B8.mp hv ws[i] (jB_ _)
  obtain⟨j,hj,ej⟩:=qm_ m
  obtain⟨e',me,e1,e2⟩:=h.don j hj _ (by rw[ja_ hj,ej]) ws[i] hin.1 hin.2
  obtain⟨g,v⟩:=e'
  have e1:g=step (Ft step st (ws.take i)) ws[i]:=e1
  have e2:Bt L v<=Bt L (w'++[ws[i]]):=e2
  have et:ws.take (i+1)=ws.take i++[ws[i]]:=by rw[jF_,hwi];rfl
  have hL:0<=L:=by lia
  refine⟨v,?_,?_⟩
  ·rw[et,Hu,<-e1];exact me
  ·rw[et]
   rw[Fq]at e2 ⊢
   have:=qP_ hp hL
   lia
theorem B.leastW (h:B L step st ok ents ents.length top)  (hv:isW L ws=true):∃w',(Ft step st ws,w')∈ents/\Bt L w'<=Bt L ws:=by
 have:=h.least hv ws.length (jh_ _)
 rwa [jL_]at this
noncomputable def EO (w1 w2:α1)(p:Int×Int)(x:Int):Int×Int:=(An w1 p.1 x,An w2 p.2 x)
noncomputable def okP (n m:Nat)(p:Int×Int):Prop:=(0<=p.1/\p.1<(n:Int))/\(0<=p.2/\p.2<(m:Int))
noncomputable def DI (ways:α1)(r:Int)(ws:α2):Int:=ws.foldl (An ways) r
theorem Fu (ways:α1)(r x:Int)(ws:α2):DI ways r (x::ws)=DI ways (An ways r x) ws:=rfl
theorem Lq (ways:α1)(r x:Int)(ws:α2):DI ways r (ws++[x])=An ways (DI ways r ws) x:=by
 unfold DI
 rw[jK_];rfl
theorem Lr {ways:α1}{ws:α2}{i:Nat}{x r:Int}(h:ws[i]?=some x):DI ways r (ws.take (i+1))=An ways (DI ways r (ws.take i)) x:=by
 rw[jF_,h]
 exact Lq _ _ _ _
theorem QR (w1 w2:α1):∀(ws:α2) (p:Int×Int),Ft (EO w1 w2) p ws=(DI w1 p.1 ws,DI w2 p.2 ws)
 |[],p=>rfl
 |x::ws,p=>by rw[Lp,QR w1 w2 ws,Fu,Fu];rfl
theorem Ii {L:Int}{marks:α2}{ways:α1}(wf:Wf L marks ways):∀(ws:α2) {r:Int},isW L ws=true->0<=r->r<marks.length->0<=DI ways r ws/\DI ways r ws<marks.length
 |[],r,_,h0,h1=>⟨h0,h1⟩
 |x::ws,r,hv,h0,h1=>by
  have hx:=B8.mp hv x jv_
  obtain⟨_,g,_,_,h,g0,g1⟩:=wf.step h0 h1 hx.1 hx.2
  rw[Fu,h]
  exact Ii wf ws (B8.mpr fun y hy=>B8.mp hv y (jx_ _ hy)) g0 g1
theorem Ow (n m:Nat){l:List (Int×Int)}(hn:l.Nodup)(h:∀p∈l,okP n m p):l.length<=n*m:=by
 have hk:∀p∈l.map (fun p:Int×Int=>p.1*m+p.2),0<=p/\p<((n*m:Nat):Int):=fun q hq=>by
  obtain⟨p,hp,rfl⟩:=qh_.mp hq
  obtain⟨⟨a0,a1⟩,b0,b1⟩:=h p hp
  have h1:=Int.mul_nonneg a0 (show (0:Int)<=m by lia)
  have h2:=qP_ (show p.1<=(n:Int)-1 by lia) (show (0:Int)<=m by lia)
  rw[Int.sub_mul]at h2
  push_cast
  exact⟨by show 0<=p.1*m+p.2;lia,by show p.1*m+p.2<_;lia⟩
 have hd:(l.map (fun p:Int×Int=>p.1*m+p.2)).Nodup:=by
  refine List.pairwise_map.mpr (List.Pairwise.imp_of_mem (fun {a b} ha hb hab z=>hab ?_) hn)
  obtain⟨⟨a0,a1⟩,b0,b1⟩:=h a ha
  obtain⟨⟨c0,c1⟩,d0,d1⟩:=h b hb
  have z:a.1*m+a.2=b.1*m+b.2:=z
  have e1:a.1=b.1:=by
   have q1:(a.1*m+a.2) / m=a.1:=by rw[Int.add_comm,xg_ _ _ s!"",xh_ b0 b1];lia
   have q2:(b.1*m+b.2) / m=b.1:=by rw[Int.add_comm,xg_ _ _ s!"",xh_ d0 d1];lia
   rw[<-q1,<-q2,z]
  rw[e1]at z
  exact Prod.ext e1 s!""
 have:=AD (n*m) hd hk
 simpa using this
theorem B.lenP   {st:Int×Int}{ents:List ((Int×Int)×α2)}   (h:B L (EO w1 w2) st (okP n m) ents i top):ents.length<=n*m:=by
 have:=Ow n m h.nod (fun p hp=>by
  obtain⟨e,he,rfl⟩:=qh_.mp hp
  exact h.rng e he)
 simpa using this
end GB
namespace L2
open PySem PySem.Spec PyProof.Rows GW GB
noncomputable def TK (H H':Hp):Prop:=∀b xs,H b=some (.tup xs)->H' b=some (.tup xs)
theorem TK.of  (s:Same H H'):TK H H':=fun b xs h=>s b _ h
theorem TK.new    (h:H p=none):TK H (upd H p o):=TK.of (Same.new h)
theorem TK.lst {H:Hp}{p:Addr}{o:HO}{xs:List V}(h:H p=some (.lst xs)):TK H (upd H p o):=fun b ys e=>by rw[Ag (fun z=>by rw[z,h]at e;cases e)];exact e
theorem TK.dT {H:Hp}{p:Addr}{o:HO}{kvs:List (List Key×V)}(h:H p=some (.dT kvs)):TK H (upd H p o):=fun b ys e=>by rw[Ag (fun z=>by rw[z,h]at e;cases e)];exact e
noncomputable def keyP (p:Int×Int):List Key:=[Sum.inl p.1,Sum.inl p.2]
theorem KG  (h:keyP p=keyP q):p=q:=by
 unfold keyP at h
 injection h with h1 h2
 injection h2 with h2 _
 injection h1 with h1
 injection h2 with h2
 exact Prod.ext h1 h2
noncomputable def B3 (H:Hp)(ents:List ((Int×Int)×α2))(kvs:List (List Key×V)):Prop:=kvs.length=ents.length/\∀(i:Nat) (e:(Int×Int)×α2),ents[i]?=some e->∃v,kvs[i]?=some (keyP e.1,v) /\
 ((v=.non/\e.2=[]) \/ ∃(t p:Addr) (x:Int) (e':(Int×Int)×α2),v=.ref t/\H t=some (.tup [.ref p,.int x])/\H p=some (.tup [.int e'.1.1,.int e'.1.2])/\e'∈ents/\e.2=e'.2++[x])
theorem B3.mono  {ents:List ((Int×Int)×α2)}  (h:B3 H ents kvs)(k:TK H H'):B3 H' ents kvs:=by
 refine⟨h.1,fun i e he=>?_⟩
 obtain⟨v,h1,h2⟩:=h.2 i e he
 refine⟨v,h1,?_⟩
 rcases h2 with h2|⟨t,p,x,e',a,b,c,d⟩
 ·exact .inl h2
 ·exact .inr ⟨t,p,x,e',a,k _ _ b,k _ _ c,d⟩
theorem B3.no  {ents:List ((Int×Int)×α2)}  (h:B3 H ents kvs)  (hg:g∉ents.map (·.1)):valV kvs (keyP g)=none:=by
 unfold valV
 rw[Option.map_eq_none_iff,List.find?_eq_none]
 intro kv hkv
 obtain⟨i,hi,e⟩:=qm_ hkv
 have hie:i<ents.length:=by rw[<-h.1];exact hi
 obtain⟨v,h1,_⟩:=h.2 i ents[i] (by simp[hie])
 rw[ja_ hi,e]at h1
 cases h1
 simp only[jN_]
 intro z
 exact hg (qh_.mpr ⟨ents[i],jB_ _,KG z⟩)
theorem QS {κ:Type}[DecidableEq κ]{kvs:List (κ×V)}{i:Nat}{k:κ}{v:V}(hn:(kvs.map (·.1)).Nodup)(h:kvs[i]?=some (k,v)):valV kvs k=some v:=by
 induction kvs generalizing i with
 |nil=>simp at h
 |cons p r ih=>
  rw[jS_,q6_]at hn
  cases i with
  |zero=>simp at h;subst h;exact BA rfl
  |succ i=>
   have h':r[i]?=some (k,v):=by simpa using h
   rw[BB (fun z=>hn.1 (qh_.mpr ⟨(k,v),jl_ h',z.symm⟩))]
   exact ih hn.2 h'
theorem B3.nod  {ents:List ((Int×Int)×α2)}  (h:B3 H ents kvs)(hn:(ents.map (·.1)).Nodup):(kvs.map (·.1)).Nodup:=by
 have e:kvs.map (·.1)=(ents.map (·.1)).map keyP:=by
  refine xN_ fun i=>?_
  rw[jw_,jw_,jw_]
  cases he:ents[i]? with
  |none=>
   rw[qB_ (by rw[h.1];exact List.getElem?_eq_none_iff.mp he)];rfl
  |some e=>
   obtain⟨v,h1,_⟩:=h.2 i e he
   rw[h1];rfl
 rw[e]
 exact zg_ (R:=(· ≠ ·)) _ (fun a b hab z=>hab (KG z)) hn
theorem B3.yes  {ents:List ((Int×Int)×α2)}  (h:B3 H ents kvs)(hn:(ents.map (·.1)).Nodup)  (he:e∈ents):∃v,valV kvs (keyP e.1)=some v /\
  ((v=.non/\e.2=[]) \/ ∃(t p:Addr) (x:Int) (e':(Int×Int)×α2),v=.ref t/\H t=some (.tup [.ref p,.int x])/\H p=some (.tup [.int e'.1.1,.int e'.1.2])/\e'∈ents/\e.2=e'.2++[x]):=by
 obtain⟨i,hi,ei⟩:=qm_ he
 obtain⟨v,h1,h2⟩:=h.2 i e (by rw[ja_ hi,ei])
 exact⟨v,QS (h.nod hn) h1,h2⟩
theorem B3.put  {ents:List ((Int×Int)×α2)}  (h:B3 H ents kvs)  (hg:g∉ents.map (·.1))    (ht:H t=some (.tup [.ref p,.int x]))(hp:H p=some (.tup [.int e'.1.1,.int e'.1.2]))(he:e'∈ents):
  B3 H (ents++[(g,e'.2++[x])]) (putK kvs (keyP g) (.ref t)):=by
 rw[Oa _ (h.no hg)]
 refine⟨by rw[jf_,jf_,h.1];rfl,fun i e hi=>?_⟩
 by_cases hil:i<ents.length
 ·rw[jg_ hil]at hi
  rw[jg_ (by rw[h.1];exact hil)]
  obtain⟨v,h1,h2⟩:=h.2 i e hi
  refine⟨v,h1,?_⟩
  rcases h2 with h2|⟨t,p,x,e',a,b,c,d,f⟩
  ·exact .inl h2
  ·exact .inr ⟨t,p,x,e',a,b,c,jr_ _ d,f⟩
 ·have:=(jc_.mp hi).1
  rw[jf_,jq_]at this
  have ei:i=ents.length:=by lia
  subst ei
  rw[jp_ (jh_ _),j4_]at hi
  simp at hi
  subst hi
  refine⟨.ref t,?_,.inr ⟨t,p,x,e',rfl,ht,hp,jr_ _ he,rfl⟩⟩
  rw[jp_ (by rw[h.1];exact jh_ _),h.1,j4_];rfl
noncomputable def ER (H:Hp)(ps:List (Int×Int))(rs:List V):Prop:=rs.length=ps.length/\∀(i:Nat) (p:Int×Int),ps[i]?=some p->∃b,rs[i]?=some (.ref b)/\H b=some (.tup [.int p.1,.int p.2])
theorem ER.mono    (h:ER H ps rs)(k:TK H H'):ER H' ps rs:=by
 refine⟨h.1,fun i p hp=>?_⟩
 obtain⟨b,h1,h2⟩:=h.2 i p hp
 exact⟨b,h1,k _ _ h2⟩
theorem ER.snoc    (h:ER H ps rs)   (hb:H b=some (.tup [.int p.1,.int p.2])):ER H (ps++[p]) (rs++[.ref b]):=by
 refine⟨by rw[jf_,jf_,h.1];rfl,fun i q hi=>?_⟩
 by_cases hil:i<ps.length
 ·rw[jg_ hil]at hi
  rw[jg_ (by rw[h.1];exact hil)]
  exact h.2 i q hi
 ·have:=(jc_.mp hi).1
  rw[jf_,jq_]at this
  have ei:i=ps.length:=by lia
  subst ei
  rw[jp_ (jh_ _),j4_]at hi
  simp at hi
  subst hi
  refine⟨b,?_,hb⟩
  rw[jp_ (by rw[h.1];exact jh_ _),h.1,j4_];rfl
end L2
namespace GB
open GW
theorem Ox   (h:isW L w=true)(j:Nat):isW L (w.take j)=true:=B8.mpr fun x hx=>B8.mp h x (xr_ hx)
end GB
namespace L2
open PySem PySem.Spec PyProof.Rows GW
noncomputable def LLs (H0 H:Hp)(xs:List V)(ws:α1):Prop:=∃ts:List Addr,xs=ts.map V.ref/\ts.length=ws.length/\ts.Nodup/\(∀(i:Nat) (t:Addr) (w:α2),ts[i]?=some t->ws[i]?=some w->H t=some (.lst (w.map V.int)))/\∀t∈ts,H0 t=none
theorem LLs.nil (H0 H:Hp):LLs H0 H [] []:=⟨[],rfl,rfl,xP_,fun i t w h=>by simp at h,fun t h=>by simp at h⟩
theorem LLs.mono    (h:LLs H0 H xs ws)(s:Same H H'):LLs H0 H' xs ws:=by
 obtain⟨ts,a,b,c,d,e⟩:=h
 exact⟨ts,a,b,c,fun i t w h1 h2=>s _ _ (d i t w h1 h2),e⟩
theorem LLs.len    (h:LLs H0 H xs ws):xs.length=ws.length:=by
 obtain⟨ts,a,b,_⟩:=h
 rw[a,jd_,b]
theorem LLs.snoc      (h:LLs H0 H xs ws)(h0:H0 p=none)(hp:H p=none):LLs H0 (upd H p (.lst (w.map V.int))) (xs++[.ref p]) (ws++[w]):=by
 obtain⟨ts,a,b,c,d,e⟩:=h
 have hts:∀t∈ts,t≠p:=fun t ht z=>by
  obtain⟨i,hi,ei⟩:=qm_ ht
  have:=d i t ws[i] (by rw[ja_ hi,ei]) (by simp[show i<ws.length by lia])
  rw[z,hp]at this;cases this
 refine⟨ts++[p],by rw[a];simp,by simp[b],?_,fun i t v h1 h2=>?_,fun t ht=>?_⟩
 ·rw[qc_]
  refine⟨c,by simp,fun x hx y hy=>?_⟩
  simp at hy;subst hy;exact hts x hx
 ·by_cases hi:i<ts.length
  ·rw[jg_ hi]at h1
   rw[jg_ s!""]at h2
   rw[Ag (hts t (jl_ h1))]
   exact d i t v h1 h2
  ·have:=(jc_.mp h1).1
   rw[jf_,jq_]at this
   have ei:i=ts.length:=by lia
   subst ei
   rw[jp_ (jh_ _),j4_]at h1
   rw[b,jp_ (jh_ _),j4_]at h2
   simp at h1 h2
   subst h1 h2
   exact Ab
 ·rcases jj_.mp ht with ht|ht
  ·exact e t ht
  ·rw[jb_.mp ht];exact h0
theorem LLs.at    (h:LLs H0 H xs ws)   (hw:ws[i]?=some w):∃t,xs[i]?=some (.ref t)/\H t=some (.lst (w.map V.int))/\H0 t=none/\∀j x,LLs H0 (upd H t (.lst ((w.set j x).map V.int))) xs (ws.set i (w.set j x)):=by
 obtain⟨ts,a,b,c,d,e⟩:=h
 have hi:i<ts.length:=by rw[b];exact (jc_.mp hw).1
 have ht:ts[i]?=some ts[i]:=by simp[hi]
 refine⟨ts[i],by rw[a,jw_,ht];rfl,d i _ w ht hw,e _ (jB_ hi),fun j x=>⟨ts,a,by rw[j8_];exact b,c,fun k t v h1 h2=>?_,e⟩⟩
 by_cases hk:k=i
 ·subst hk
  rw[ht]at h1;cases h1
  rw[jM_ s!""]at h2;cases h2
  exact Ab
 ·have hne:t≠ts[i]:=fun z=>hk (by
   have hk':=(jc_.mp h1).1
   refine (xX_ (h₀:=hk') (h₁:=hi) c).mp ?_
   rw[<-z]
   exact (jc_.mp h1).2)
  rw[jY_ (qf_ hk)]at h2
  rw[Ag hne]
  exact d k t v h1 h2
theorem Same.none  (s:Same H H')  (h:H' p=none):H p=none:=by
 cases e:H p with
 |none=>rfl
 |some u=>rw[s _ _ e]at h;cases h
theorem Oy {K:α3}         (hl:SqL K H a xs)(hlen:xs.length=ws.length)(e:cp.st σ=Option.none::σ')(hz:xs.length<sizeLine)
  (hs:∀(i:Nat) (x:V) (w:α2) H2,Same H H2->xs[i]?=some x->ws[i]?=some w->∀R:VK,(∀p H3,Same H2 H3->SqT K H3 p (w.map V.int)->R (.ref p) H3)->te (some x::σ') H2 R)
  (hd:∀H2 D ys,Same H H2->H2 D=Option.none->DH K (upd H2 D (.lst ys)) D ws->Q (.ref D) (upd H2 D (.lst ys))):JO (Itl K a) cp (HJ 0) QD te σ H Q:=by
 refine QF (xs:=xs) (fun i ys σ2 H2=>Same H H2/\(∃ts:List Addr,ys=ts.map V.ref/\ts.length=i/\∀(j:Nat) (t:Addr) (w:α2),ts[j]?=some t->ws[j]?=some w->SqT K H2 t (w.map V.int))/\∃o,σ2=o::σ') ⟨Same.refl _,⟨[],rfl,rfl,fun j t w h=>by simp at h⟩,Option.none,e⟩ hz (fun i ys σ2 H2 hi h=>?_) (fun i x ys σ2 H2 hx h=>?_) (fun ys σ2 H2 h=>?_)
 ·obtain⟨s,⟨ts,rfl,hm,_⟩,_⟩:=h
  exact⟨s.seq hl,by rw[jd_];lia⟩
 ·obtain⟨s,⟨ts,rfl,hm,ht⟩,o,rfl⟩:=h
  have hi:i<ws.length:=by rw[<-hlen];exact (jc_.mp hx).1
  refine hs i x ws[i] H2 s hx (by simp[hi]) _ fun p H3 s3 hp=>⟨s.trans s3,⟨ts++[p],by simp,by simp[hm],fun j t w h1 h2=>?_⟩,some x,rfl⟩
  by_cases hj:j<ts.length
  ·rw[jg_ hj]at h1
   exact s3.seqT (ht j t w h1 h2)
  ·have:=(jc_.mp h1).1
   rw[jf_,jq_]at this
   have ej:j=i:=by lia
   subst ej
   rw[<-hm,jp_ (jh_ _),j4_]at h1
   simp at h1
   subst h1
   rw[ja_ hi]at h2
   cases h2
   exact hp
 ·obtain⟨s,⟨ts,rfl,hm,ht⟩,_⟩:=h
  exact fun D hD=>hd H2 D _ s hD ⟨ts,Ab,by lia,fun j t w h1 h2=>(Same.new hD).seqT (ht j t w h1 h2)⟩
end L2
namespace L2
open PySem GW
theorem LLs.off      (h:LLs H0 H xs ws)(hp:H0 p=some u):LLs H0 (upd H p o) xs ws:=by
 obtain⟨ts,a,b,c,d,e⟩:=h
 refine⟨ts,a,b,c,fun i t w h1 h2=>?_,e⟩
 rw[Ag (fun z=>by have:=e t (jl_ h1);rw[z,hp]at this;cases this)]
 exact d i t w h1 h2
end L2
namespace L2
open PySem PySem.Spec PyProof.Rows GW
noncomputable def CT (K:α3)(H:Hp)(xs:List V)(ws:α1):Prop:=xs.length=ws.length/\∀(i:Nat) (w:α2),ws[i]?=some w->∃t,xs[i]?=some (.ref t)/\H t=some (.tup (w.map V.int))
theorem CT.mono {K:α3}    (h:CT K H xs ws)(k:TK H H'):CT K H' xs ws:=by
 refine⟨h.1,fun i w hw=>?_⟩
 obtain⟨t,a,b⟩:=h.2 i w hw
 exact⟨t,a,k _ _ b⟩
theorem CT.snoc {K:α3}    (h:CT K H xs ws)   (ht:H t=some (.tup (w.map V.int))):CT K H (xs++[.ref t]) (ws++[w]):=by
 refine⟨by rw[jf_,jf_,h.1];rfl,fun i v hi=>?_⟩
 by_cases hil:i<ws.length
 ·rw[jg_ hil]at hi
  rw[jg_ (by rw[h.1];exact hil)]
  exact h.2 i v hi
 ·have:=(jc_.mp hi).1
  rw[jf_,jq_]at this
  have ei:i=ws.length:=by lia
  subst ei
  rw[jp_ (jh_ _),j4_]at hi
  simp at hi
  subst hi
  refine⟨t,?_,ht⟩
  rw[jp_ (by rw[h.1];exact jh_ _),h.1,j4_];rfl
theorem CT.at {K:α3}{H:Hp}{xs:List V}{ws:α1}(h:CT K H xs ws){i:Nat}{x:V}(hx:xs[i]?=some x):∃t w,ws[i]?=some w/\x=.ref t/\H t=some (.tup (w.map V.int)):=by
 have hi:i<ws.length:=by rw[<-h.1];exact (jc_.mp hx).1
 obtain⟨t,a,b⟩:=h.2 i ws[i] (by simp[hi])
 rw[hx]at a
 exact⟨t,ws[i],by simp[hi],jH_ a,b⟩
noncomputable def rInW (K:α3)(neg:Bool):R2:=fun x y H Q=>∃p t xs w ws,y=.ref p/\x=.ref t/\SqL K H p xs/\CT K H xs ws/\SqT K H t (w.map V.int)/\Q (.bl (if neg then !decide (w∈ws) else decide (w∈ws))) H
theorem Sv {K:α3}     : rInW K neg x y H Q=∃p t xs w ws,y=.ref p/\x=.ref t/\SqL K H p xs/\CT K H xs ws/\SqT K H t (w.map V.int)/\Q (.bl (if neg then !decide (w∈ws) else decide (w∈ws))) H:=rfl
theorem Oz          (hu:X.A.units+8<cLine)(I:Inv X pins σ H s)(hp:SqL X.K H p xs)(hw:CT X.K H xs ws)(ht:SqT X.K H t (w.map V.int)):
  ∃(its:Array Value) (e:Value->Bool),s.heap.IsList p its/\(∀y,y∈its->SeqAt.EqAt X.A.in1 s y (.ref t) (e y))/\its.any e=decide (w∈ws):=by
 obtain⟨its,r,pl,_⟩:=I.list hp
 have hl:=r.length
 let e:Value->Bool:=fun y => @decide (∃(i:Nat) (a:Addr),y=.ref a/\xs[i]?=some (.ref a)/\ws[i]?=some w) (Classical.propDecidable _)
 have ee:∀(i:Nat) (a:Addr) (v:α2),xs[i]?=some (.ref a)->ws[i]?=some v->e (.ref a)=decide (v=w):=fun i a v hx hv=>by
  obtain⟨a',a1,a2⟩:=hw.2 i v hv
  rw[hx]at a1
  cases a1
  rw[qj_]
  show @decide _ (Classical.propDecidable _)=true↔_
  rw[@decide_eq_true_iff _ (Classical.propDecidable _),jN_]
  constructor
  ·rintro⟨j,b,hb,hxj,hwj⟩
   cases hb
   obtain⟨b',b1,b2⟩:=hw.2 j w hwj
   rw[hxj]at b1
   cases b1
   rw[a2]at b2
   have:=jH_ b2
   injection this with this
   exact (List.map_inj_right (fun x y z=>V.int.inj z)).mp this
  ·rintro rfl
   exact⟨i,a,rfl,hx,hv⟩
 refine⟨its.toArray,e,pl.isList,fun y hy=>?_,?_⟩
 ·have hy':y∈its:=by simpa using hy
  obtain⟨i,hi,ei⟩:=qm_ hy'
  have hix:i<xs.length:=by lia
  obtain⟨u,hu',ru⟩:=r.get (i:=i) (x:=xs[i]) (by simp[hix])
  rw[ja_ hi,ei]at hu'
  cases hu'
  obtain⟨a,v,e1,e2,e3⟩:=hw.at (i:=i) (x:=xs[i]) (by simp[hix])
  rw[e2]at ru
  cases ru
  rw[ee i a v (by rw[ja_ hix,e2]) e1]
  exact (EqD.at (x:=V.ref a) (y:=V.ref t) I 2 X.A.in1 (by rw[in1_units];lia) rfl rfl (EqD.ints (xs:=v) (ys:=w) (.inr ⟨SqT.of e3,ht⟩) 1)).1
 ·rw[qj_,jN_]
  rw[show its.toArray.any e=its.any e by simp,List.any_eq_true]
  constructor
  ·rintro⟨y,hy,hey⟩
   obtain⟨j,b,_,_,hwj⟩:=(@decide_eq_true_iff _ (Classical.propDecidable _)).mp hey
   exact jl_ hwj
  ·intro hm
   obtain⟨i,hi,ei⟩:=qm_ hm
   obtain⟨a,a1,a2⟩:=hw.2 i w (by rw[ja_ hi,ei])
   obtain⟨u,hu',ru⟩:=r.get a1
   cases ru
   refine⟨.ref a,jl_ hu',?_⟩
   rw[ee i a w a1 (by rw[ja_ hi,ei])]
   simp
theorem MX  (hu:X.A.units+8<cLine):OpR X (compareOp .NotIn) (rInW X.K true):=by
 intro pins s σ H x y v u Q I rx ry h
 obtain⟨p,t,xs,w,ws,rfl,rfl,hp,hw,ht,q⟩:=h
 cases ry
 cases rx
 obtain⟨its,e,h1,h2,h3⟩:=Oz hu I hp hw ht
 refine SeqAt.notIn_listAt e h1 h2 ⟨.bl _,H,I,rfl,?_⟩
 rw[h3]
 exact q
theorem Cg.ofS {K:α3}     (ha:H a=some (.tup xs))(hb:H b=some (.tup ys))(hz:xs.length+ys.length<=sizeLine)(h:∀p H',Same H H'->H' p=some (.tup (xs++ys))->Q (.ref p) H'):Cg K (.ref a) (.ref b) H Q:=by
 refine⟨a,b,xs,ys,rfl,rfl,SqT.of ha,SqT.of hb,hz,fun e=>?_,fun _ e=>?_,fun _ _ p hp=>h p _ (Same.new hp) Ab⟩
 ·subst e;exact h b H (Same.refl _) (by simpa using hb)
 ·subst e;exact h a H (Same.refl _) (by simpa using ha)
theorem Inv.unL        (I:Inv X pins σ H s)(k:∀b o,b∉fp->s.heap.get? b=some o->h'.get? b=some o)(f:∀b∈fp,FpOk X pins H b):Un (frs X.stack) fp H H s.heap h'/\HOk X.prog X.w H h':=by
 have ne:∀b u,H b=some u->b∉fp:=fun b u q hb=>by rw[(f b hb).1]at q;cases q
 refine⟨⟨fun b o q _ _ hb=>k b o hb q,fun b o q _ _ hb=>⟨o.slots,k b o hb q⟩,fun _ _ _ n _=>n,fun b o q hb=>⟨o,k b o hb q⟩,fun _ _ q=>q,fun _ _ _ q=>q,fun b ps q=>⟨#[],by rw[q];simp⟩⟩,fun b u q=>?_⟩
 refine (I.hok b u q).stay (fun c v hc qv=>?_) (fun _ q=>q) fun _ _ q=>q
 have hne:c∉fp:=by
  rcases hc with rfl|hc
  ·exact ne _ _ q
  ·exact ne _ _ hc
 exact k c v hne qv
end L2
namespace GW
noncomputable def ins (s:α1)(w:α2):α1:=if w∈s then s else s++[w]
end GW
namespace L2
open PySem PySem.Spec PyProof.Rows GW
noncomputable def wkey (w:α2):List Key:=w.map Sum.inl
end L2
namespace PySem.W
open PySem PySem.Calls PyProof.Rows PyProof.V PySem.Spec
end PySem.W
namespace L2
open PySem PySem.Spec PyProof.Rows
noncomputable def ents (es:List (α2×Int)):List (List Key×V):=es.map fun e=>(wkey e.1,V.int e.2)
end L2
namespace PrimeO
noncomputable def S8 (p:Nat):Prop:=∀d,2<=d->d<p->p%d≠0
noncomputable def Pr (p:Int):Prop:=2<=p/\p<1000000000000000000/\S8 p.toNat
end PrimeO
namespace PySem
open Sem (wp)
open PySem.F
noncomputable def C6 (t:Bool)(h:Heap)(l:Addr)(xs:Array Value):Prop:=match t with|false=>h.IsList l xs|true=>h.IsTuple l xs
noncomputable def B4 (t:Bool)(h:Heap)(i l:Addr)(k:Nat):Prop:=match t with|false=>h.IsListIter i l k|true=>h.IsTupleIter i l k
theorem C6.extBut   {a b items}(x:C6 t h a items)(hs:Heap.ExtBut b h h')(hab:a≠b):C6 t h' a items:=by
 cases t
 ·exact Heap.IsList.extBut x hs hab
 ·exact Heap.IsTuple.extBut x hs hab
theorem C6.push   {a items}(x:C6 t h a items)(o:Obj):C6 t (h.push o) a items:=by
 cases t
 ·exact Heap.IsList.push x o
 ·exact Heap.IsTuple.push x o
theorem C6.lt   {a items}(x:C6 t h a items):a<h.objs.size:=by
 cases t
 ·obtain⟨_,e,_⟩:=x;exact jy_ e
 ·obtain⟨_,e,_⟩:=x;exact jy_ e
theorem B4.extBut   {a b l i}(x:B4 t h a l i)(hs:Heap.ExtBut b h h')(hab:a≠b):B4 t h' a l i:=by
 cases t
 ·exact Heap.IsListIter.extBut x hs hab
 ·exact Heap.IsTupleIter.extBut x hs hab
theorem B4.at   {a l i}(x:B4 t h a l i)(e:∀o,h.get? a=some o->h'.get? a=some o):B4 t h' a l i:=by
 cases t
 ·exact Heap.IsListIter.at x e
 ·exact Heap.IsTupleIter.at x e
theorem B4.ob   {a l i}(x:B4 t h a l i):∃o,h.get? a=some o/\o.data=.fields #[.ref l,.int i 0]:=by
 cases t
 ·obtain⟨o,e,_,d⟩:=x;exact⟨o,e,d⟩
 ·obtain⟨o,e,_,d⟩:=x;exact⟨o,e,d⟩
section
variable {prog:Program} {w:World} {A:Around} {E:Value->Shared->Prop} {s:Shared}
theorem MY  {it l:Addr}    (hit:B4 t s.heap it l i)(hl:C6 t s.heap l items)
  (hQ:∀x h',items[i]?=some x->B4 t h' it l (i+1)->Heap.SameBut it s.heap h'->Q x {s with heap:=h' })
  (hE:items[i]?=none->A.handled=none/\∀h' e,Heap.ExtBut it s.heap h'->(∃o,h'.get? e=some o/\o.cls=.type "StopIteration")->E (.ref e) {s with heap:=h' }):wpAny (model prog w) A (Builtin.SmallTypes.nextOf (.ref it)) Q E s:=by
 cases t
 ·cases hx:items[i]? with
  |some x=>exact wpAny_nextOf_list_item hit hl hx fun h'=>hQ x h' hx
  |none=>exact wpAny_nextOf_list_end (hE hx).1 hit hl hx (hE hx).2
 ·exact Lk hit hl hQ hE
noncomputable def QT (t:Bool):Value:=match t with|false=>.type "list_iterator" |true=>.type "tuple_iterator"
theorem B4.mk    (g:h.get? a=some {cls:=QT t,data:=.fields #[.ref l,.int 0 0]}):B4 t h a l 0:=by
 cases t
 ·exact⟨_,g,rfl,rfl⟩
 ·exact⟨_,g,rfl,rfl⟩
theorem F0   {items}  (hl:C6 t s.heap l items)
  (hQ:Q (.ref s.heap.objs.size) {s with heap:=s.heap.push {cls:=QT t,data:=.fields #[.ref l,.int 0 0]} }):wpAny (model prog w) A (pyIter (.ref l)) Q E s:=by
 cases t
 ·exact xM_ hl hQ
 ·exact wpAny_pyIter_tuple hl hQ
end
section
variable {prog:Program} {w:World} {A:Around} {E:Value->Shared->Prop} {s:Shared}
theorem MZ   {items}  (hl:C6 t s.heap l items)(h:∀h',s.heap.push {cls:=QT t,data:=.fields #[.ref l,.int 0 0]}=h'->Q (.ref s.heap.objs.size) {s with heap:=h' }):wpAny (model prog w) A (pyIter (.ref l)) Q E s:=F0 hl (h _ rfl)
theorem zipN  {z TI TO i1 i2 l1 l2:Addr}     (D:ZipApart z TI TO i1 i2 l1 l2)(hz:IsZip s.heap z TI TO .none)(hTI:IsPair s.heap TI (.ref i1) (.ref i2))(hTO:IsPair s.heap TO a b)
  (h1:B4 t1 s.heap i1 l1 k1) (h2:B4 t2 s.heap i2 l2 k2) (hl1:C6 t1 s.heap l1 xs) (hl2:C6 t2 s.heap l2 ys)
  (hQ:∀x y h',xs[k1]?=some x->ys[k2]?=some y->IsZip h' z TI TO (rawInt s.heap.objs.size)->IsPair h' TO x y->B4 t1 h' i1 l1 (k1+1)->B4 t2 h' i2 l2 (k2+1)->IsPair h' s.heap.objs.size x y->h'.objs.size=s.heap.objs.size+1->(∀c o,c≠z->c≠TO->c≠i1->c≠i2->s.heap.get? c=some o->h'.get? c=some o)->Q (some (.ref s.heap.objs.size)) {s with heap:=h' })
  (hN:xs[k1]?=none\/ys[k2]?=none->A.handled=none/\∀h',(∀c o,c≠z->c≠TO->c≠i1->c≠i2->s.heap.get? c=some o->h'.get? c=some o)->Q none {s with heap:=h' }):wpAny (model prog w) A (pyNext (.ref z)) Q E s:=by
 have hT:s.TypeIs (.ref z) "zip" := ⟨_,hz,rfl⟩
 have e1:=F.slot_zip_next
 unfold pyNext
 refine je_ (x3_ (qF_ hT e1 (qX_ e1 hT F.entry_zip_next ?_ (F.args_zip_next_1 _))))
 wp_walk using xG_ hz
 ·exact xl_ rfl
 intro u0 g0 k0
 replace g0:IsZip u0 z TI TO .ellipsis:=g0
 have m1:B4 t1 u0 i1 l1 k1:=h1.extBut k0.extBut D.i1z
 have m2:C6 t1 u0 l1 xs:=hl1.extBut k0.extBut D.l1z
 simp only[List.zipIdx_cons,List.zipIdx_nil,List.forIn_cons,List.forIn_nil]
 have stop:∀h' (e:Addr),(∀c o,c≠z->c≠TO->c≠i1->c≠i2->s.heap.get? c=some o->h'.get? c=some o)->IsZip h' z TI TO .ellipsis->(∃o,h'.get? e=some o/\o.cls=.type "StopIteration")->xs[k1]?=none\/ys[k2]?=none ->
   wpAny (model prog w) A.in1 (setField (.ref z) 0 .none) (fun _ s''=>wpAny (model prog w) A (do if <- isInstance (.ref e) (.type "StopIteration") then pure none else throw (.ref e)) Q E s'') (fun e s'=>wpAny (model prog w) A (do if <- isInstance e (.type "StopIteration") then pure none else throw e) Q E s') {s with heap:=h' }:=fun h' e kk hz' he hx=>by
  obtain⟨o,e2,e3⟩:=he
  have n:e≠z:=fun x=>by subst x;rw[hz']at e2;cases e2;simp at e3
  refine xG_ hz' (xl_ rfl) fun h2 _ k2=>je_ (wpAny_isInstance (T := "StopIteration") (b:=true) ⟨o,k2.extBut e o n e2,e3⟩ isSubtype_stop (jo_ ((hN hx).2 h2 fun c o n1 n2 n3 n4 q=>k2.extBut c o n1 (kk c o n1 n2 n3 n4 q))))
 wp_walk using wpAny_onRaise,MY (A:=A.in1) (s:={s with heap:=u0}) m1 m2
 ·intro x u1 hx m3 k3
  have y0:IsPair u1 TO a b:=k3.extBut TO _ D.TOi1 (k0.extBut TO _ D.TOz hTO)
  wp_walk using wpAny_updateSeq_pair y0
  intro u2 y2 k4
  replace y2:IsPair u2 TO x b:=y2
  have kk:∀c o,c≠z->c≠TO->c≠i1->s.heap.get? c=some o->u2.get? c=some o:=fun c o n1 n2 n3 q=>k4.extBut c o n2 (k3.extBut c o n3 (k0.extBut c o n1 q))
  have g2:IsZip u2 z TI TO .ellipsis:=k4.extBut _ _ D.TOz.symm (k3.extBut _ _ D.i1z.symm g0)
  have m4:B4 t2 u2 i2 l2 k2:=h2.at fun o q=>kk _ o D.i2z D.TOi2.symm D.i12.symm q
  have m5:C6 t2 u2 l2 ys:=((hl2.extBut k0.extBut D.l2z).extBut k3.extBut D.l2i1).extBut k4.extBut D.l2TO
  wp_walk using wpAny_onRaise,MY (A:=A.in1) (s:={s with heap:=u2}) m4 m5
  ·intro y u3 hy m6 k5
   have y3:IsPair u3 TO x b:=k5.extBut TO _ D.TOi2 y2
   wp_walk using wpAny_updateSeq_pair y3
   intro u4 y4 k6
   replace y4:IsPair u4 TO x y:=y4
   have g4:IsZip u4 z TI TO .ellipsis:=k6.extBut _ _ D.TOz.symm (k5.extBut _ _ D.i2z.symm g2)
   have zz:u4.objs.size=s.heap.objs.size:=k6.1.trans (k5.1.trans (k4.1.trans (k3.1.trans k0.1)))
   wp_walk using newT
   ·exact (show 2<=sizeLine from by decide)
   intro u5 q5
   have kp:∀c o,u4.get? c=some o->u5.get? c=some o:=fun c o q=>by rw[<-q5];exact jm_ _ q
   have g5:=kp z _ g4
   have y5:IsPair u5 u4.objs.size x y:=by rw[<-q5];exact jE_ _ rfl
   have z5:u5.objs.size=u4.objs.size+1:=by rw[<-q5];exact xt_ ..
   wp_walk using xG_ g5
   ·exact xl_ rfl
   intro u6 g6 k7
   replace g6:IsZip u6 z TI TO (rawInt u4.objs.size):=g6
   wp_walk using xG_ g6
   ·exact xl_ rfl
   intro u7 g7 k8
   replace g7:IsZip u7 z TI TO (rawInt u4.objs.size):=g7
   refine jo_ ⟨_,rfl,jo_ ?_⟩
   show Q (some (Value.ref u4.objs.size)) _
   have up:∀c o,c≠z->u4.get? c=some o->u7.get? c=some o:=fun c o n q=>k8.extBut c o n (k7.extBut c o n (kp c o q))
   have nz:u4.objs.size≠z:=xQ_ (jy_ g4)
   have y7:=k8.extBut _ _ nz (k7.extBut _ _ nz y5)
   rw[zz]at g7 y7 z5 ⊢
   exact hQ x y u7 hx hy g7 (up _ _ D.TOz y4) ((m3.at fun o q=>k6.extBut _ o D.TOi1.symm (k5.extBut _ o D.i12 (k4.extBut _ o D.TOi1.symm q))).at fun o q=>up _ o D.i1z q) ((m6.at fun o q=>k6.extBut _ o D.TOi2.symm q).at fun o q=>up _ o D.i2z q) y7 ((k8.1.trans k7.1).trans z5)
    fun c o n1 n2 n3 n4 q=>up c o n1 (k6.extBut c o n2 (k5.extBut c o n4 (kk c o n1 n2 n3 q)))
  ·refine fun hy=>⟨(hN (.inr hy)).1,fun u3 e k5 he=>?_⟩
   exact stop u3 e (fun c o n1 n2 n3 n4 q=>k5 c o n4 (kk c o n1 n2 n3 q)) (k5 z _ D.i2z.symm g2) he (.inr hy)
 ·refine fun hx=>⟨(hN (.inl hx)).1,fun u1 e k3 he=>?_⟩
  exact stop u1 e (fun c o n1 n2 n3 n4 q=>k3 c o n3 (k0.extBut c o n1 q)) (k3 z _ D.i1z.symm g0) he (.inl hx)
theorem JW     (hl1:C6 t1 s.heap l1 xs)(hl2:C6 t2 s.heap l2 ys)
  (h:∀h',IsZip h' (s.heap.objs.size+4) (s.heap.objs.size+2) (s.heap.objs.size+3) .none->IsPair h' (s.heap.objs.size+2) (.ref s.heap.objs.size) (.ref (s.heap.objs.size+1))->IsPair h' (s.heap.objs.size+3) .none .none->B4 t1 h' s.heap.objs.size l1 0->B4 t2 h' (s.heap.objs.size+1) l2 0->h'.objs.size=s.heap.objs.size+5->(∀c o,s.heap.get? c=some o->h'.get? c=some o)->Q (.ref (s.heap.objs.size+4)) {s with heap:=h' }):
  wpAny (model prog w) A (call (.type "zip") [.ref l1,.ref l2]) Q E s:=by
 have M:Meets (Builtin.«zip.__new__» ⟨[.type "zip",.ref l1,.ref l2],[]⟩) fun _ R t=>t=s/\∀h',IsZip h' (s.heap.objs.size+4) (s.heap.objs.size+2) (s.heap.objs.size+3) .none->IsPair h' (s.heap.objs.size+2) (.ref s.heap.objs.size) (.ref (s.heap.objs.size+1))->IsPair h' (s.heap.objs.size+3) .none .none->B4 t1 h' s.heap.objs.size l1 0->B4 t2 h' (s.heap.objs.size+1) l2 0->h'.objs.size=s.heap.objs.size+5->(∀c o,s.heap.get? c=some o->h'.get? c=some o)->R (.ok (.ret (.ref (s.heap.objs.size+4)))) {s with heap:=h' }:=.of_wp fun prog w A R t ⟨e,q⟩=>by
  subst e
  obtain⟨hp,g,d,tk,os⟩:=t
  have hsub:=sub_zip
  wp_walk using MZ hl1
  intro u1 q1
  obtain⟨a1,b1,c1⟩:=psh q1 rfl
  have hl2':C6 t2 u1 l2 ys:=by rw[<-q1];exact C6.push hl2 _
  wp_walk using MZ (s:=⟨u1,g,d,tk,os⟩) hl2'
  intro u2 q2
  obtain⟨a2,b2,c2⟩:=psh q2 rfl
  wp_walk using newT
  ·exact (show 2<=sizeLine from by decide)
  intro u3 q3
  obtain⟨a3,b3,c3⟩:=psh q3 rfl
  wp_walk using newT
  ·exact (show 2<=sizeLine from by decide)
  intro u4 q4
  obtain⟨a4,b4,c4⟩:=psh q4 rfl
  wp_walk
  refine⟨_,rfl,?_⟩
  have Z1:u1.objs.size=hp.objs.size+1:=c1
  have Z2:u2.objs.size=hp.objs.size+2:=(show u2.objs.size=u1.objs.size+1 from c2).trans (by rw[Z1])
  have Z3:u3.objs.size=hp.objs.size+3:=(show u3.objs.size=u2.objs.size+1 from c3).trans (by rw[Z2])
  have Z4:u4.objs.size=hp.objs.size+4:=(show u4.objs.size=u3.objs.size+1 from c4).trans (by rw[Z3])
  obtain⟨a5,b5,c5⟩:=psh (rfl:u4.push {cls:=.type "zip",data:=.fields #[.none,.bool false,.bool false,.ref u2.objs.size,.ref u3.objs.size]}=_) rfl
  replace b1:u1.get? hp.objs.size=_:=b1
  replace b2:u2.get? u1.objs.size=_:=b2
  replace b3:IsPair u3 u2.objs.size (.ref hp.objs.size) (.ref u1.objs.size):=b3
  replace b4:IsPair u4 u3.objs.size .none .none:=b4
  show R (.ok (.ret (.ref u4.objs.size))) ⟨u4.push {cls:=.type "zip",data:=.fields #[.none,.bool false,.bool false,.ref u2.objs.size,.ref u3.objs.size]},g,d,tk,os⟩
  rw[Z1,Z2]at b3
  rw[Z1]at b2
  rw[Z3]at b4
  rw[Z2,Z3,Z4]at b5
  rw[Z2,Z3]at a5 c5 ⊢
  rw[Z4]at c5 ⊢
  exact q _ b5 (a5 _ _ (a4 _ _ b3)) (a5 _ _ b4) (B4.mk (a5 _ _ (a4 _ _ (a3 _ _ (a2 _ _ b1))))) (B4.mk (a5 _ _ (a4 _ _ (a3 _ _ b2)))) c5 fun c o x=>a5 _ _ (a4 _ _ (a3 _ _ (a2 _ _ (a1 _ _ x))))
 exact callType_new F.called_zip (by decide) (F.typeCall_zip_2 _ _) (F.newCall_zip_2 _ _) (fun obj=>F.args_object_init_3 obj _ _) F.entry_zip_new M ⟨rfl,fun h' a b c d e f g=>⟨⟨_,a,rfl⟩,h h' a b c d e f g⟩⟩
end
end PySem
namespace L2
open PySem PySem.Spec PyProof.Rows GW
noncomputable def SqB (K:α3)(H:Hp)(t:Bool)(a:Addr)(xs:List V):Prop:=match t with|false=>SqL K H a xs|true=>SqT K H a xs
theorem SqB.mono {K:α3}     (h:SqB K H t a xs)(s:Same H H'):SqB K H' t a xs:=by
 cases t
 ·exact s.seq h
 ·exact s.seqT h
theorem Inv.seqB         (I:Inv X pins σ H s)(h:SqB X.K H t a xs):∃its:List Value,Vals xs its/\C6 t s.heap a its.toArray:=by
 cases t
 ·obtain⟨its,r,p,_⟩:=I.list h
  exact⟨its,r,p.isList⟩
 ·obtain⟨its,r,p,_⟩:=I.tuple h
  exact⟨its,r,p⟩
noncomputable def Itz2 (K:α3)(t1 t2:Bool)(a b:Addr)(xs ys:List V):It:=⟨fun i H=>i<xs.length/\i<ys.length/\SqB K H t1 a xs/\SqB K H t2 b ys,fun i H x H'=>∃t u v,H t=none/\xs[i]?=some u/\ys[i]?=some v/\x=.ref t/\H'=upd H t (.tup [u,v]),fun i H=>(xs.length<=i\/ys.length<=i)/\SqB K H t1 a xs/\SqB K H t2 b ys⟩
theorem M0 {P:Program}{w:World}{K:α3}{elts:List Expr}{x1}{tpos:Pos}{t1 t2:Bool}{a b z TI TO i1 i2:Addr}(D:ZipApart z TI TO i1 i2 a b)(xs ys:List V):Turn P w K (.Tuple elts x1 tpos) (Itz2 K t1 t2 a b xs ys) [z,TI,TO,i1,i2] z
  (fun i h=>IsZip h z TI TO .none/\IsPair h TI (.ref i1) (.ref i2)/\(∃c d,IsPair h TO c d)/\B4 t1 h i1 a i/\B4 t2 h i2 b i) where
 mem:=by simp
 obj:=fun i h st c hc=>by
  obtain⟨h1,h2,⟨u,v,h3⟩,h4',h5'⟩:=st
  obtain⟨o4,h4,d4⟩:=h4'.ob
  obtain⟨o5,h5,d5⟩:=h5'.ob
  simp only[jJ_,xu_,or_false]at hc
  rcases hc with rfl|rfl|rfl|rfl|rfl
  ·exact⟨_,h1,fun v z=>by cases z⟩
  ·exact⟨_,h2,fun v z=>by cases z⟩
  ·exact⟨_,h3,fun v z=>by cases z⟩
  ·exact⟨o4,h4,fun v z=>by rw[d4]at z;cases z⟩
  ·exact⟨o5,h5,fun v z=>by rw[d5]at z;cases z⟩
 keep:=fun i h h' st k=>by
  obtain⟨h1,h2,⟨u,v,h3⟩,h4,h5⟩:=st
  exact⟨k z (by simp) _ h1,k TI (by simp) _ h2,⟨u,v,k TO (by simp) _ h3⟩,h4.at fun o q=>k i1 (by simp) o q,h5.at fun o q=>k i2 (by simp) o q⟩
 item:=by
  intro X hP hw hK hc i pins s σ H E I hf st hg
  subst hP hw hK
  obtain⟨hi,hj,hq,hq2⟩:=hg
  obtain⟨hz,hTI,⟨c,d,hTO⟩,h1,h2⟩:=st
  obtain⟨its,rv,p⟩:=I.seqB hq
  obtain⟨its2,rv2,p2⟩:=I.seqB hq2
  obtain⟨u,hu,ru⟩:=rv.get (i:=i) (x:=xs[i]) (by simp[hi])
  obtain⟨v,hv,rv'⟩:=rv2.get (i:=i) (x:=ys[i]) (by simp[hj])
  have l1:=rv.length
  have l2:=rv2.length
  refine zipN D hz hTI hTO h1 h2 p p2 (fun u' v' h' eu ev g1 g2 g3 g4 g5 gs gk=>?_) fun y=>by simp at y;lia
  obtain rfl:u=u':=by simpa [hu] using eu
  obtain rfl:v=v':=by simpa [hv] using ev
  have hTz:s.heap.objs.size≠z:=xQ_ (jy_ hz)
  refine⟨_,rfl,wpAny_letOwnedTupleGo_zip g1 fun h2' e1 hs2=>?_⟩
  have hk2:∀b o,b ∉ [z,TI,TO,i1,i2]->s.heap.get? b=some o->h2'.get? b=some o:=fun b o hb q=>by
   simp only[jJ_,xu_,or_false,not_or]at hb
   exact (hs2.2 b hb.1).trans (gk b o hb.1 hb.2.2.1 hb.2.2.2.1 hb.2.2.2.2 q)
  obtain⟨un,hok⟩:=I.unL hk2 hf
  have hn:H s.heap.objs.size=none:=I.hok.fresh (jh_ _)
  have new:AX X.prog X.w (upd H s.heap.objs.size (.tup [xs[i],ys[i]])) h2' s.heap.objs.size (.tup [xs[i],ys[i]]):=⟨by have:=Au;simp;lia,[u,v],.cons ru (.cons rv' .nil),_,(hs2.2 _ hTz).trans g5,rfl,_,rfl⟩
  refine⟨.ref s.heap.objs.size,upd H s.heap.objs.size (.tup [xs[i],ys[i]]),I.call' (s':={s with heap:=h2' }) (ch:=[z,TI,TO,i1,i2]) rfl (un.track (jh_ _) hn) (hok.track hn new) I.bare (fun b hb=>?_),rfl,⟨_,_,_,hn,by simp[hi],by simp[hj],rfl,rfl⟩,?_,fun b hb=>?_⟩
  ·exact (hf b hb).ch
  ·refine⟨e1,(hs2.2 TI D.TIz).trans (gk TI _ D.TIz D.TITO D.TIi1 D.TIi2 hTI),⟨u,v,(hs2.2 TO D.TOz).trans g2⟩,g3.at fun o q=>(hs2.2 i1 D.i1z).trans q,g4.at fun o q=>(hs2.2 i2 D.i2z).trans q⟩
  ·have hb':=hf b hb
   have:∃o,s.heap.get? b=some o:=by
    simp only[jJ_,xu_,or_false]at hb
    rcases hb with rfl|rfl|rfl|rfl|rfl
    ·exact⟨_,hz⟩
    ·exact⟨_,hTI⟩
    ·exact⟨_,hTO⟩
    ·obtain⟨o,ho,_⟩:=h1.ob;exact⟨o,ho⟩
    ·obtain⟨o,ho,_⟩:=h2.ob;exact⟨o,ho⟩
   obtain⟨o,ho⟩:=this
   rw[Ag (jW_ (jy_ ho))]
   exact hb'.1
 done:=by
  intro X hP hw hK hc i pins s σ H E I hf st hg
  subst hP hw hK
  obtain⟨hi,hq,hq2⟩:=hg
  obtain⟨hz,hTI,⟨c,d,hTO⟩,h1,h2⟩:=st
  obtain⟨its,rv,p⟩:=I.seqB hq
  obtain⟨its2,rv2,p2⟩:=I.seqB hq2
  have l1:=rv.length
  have l2:=rv2.length
  refine zipN D hz hTI hTO h1 h2 p p2 (fun u v h' eu ev=>by have a:=(Array.getElem?_eq_some_iff.mp eu).1;have b:=(Array.getElem?_eq_some_iff.mp ev).1;simp at a b;lia) fun _=>⟨I.ok.hd hc,fun h' gk=>⟨rfl,?_⟩⟩
  obtain⟨un,hok⟩:=I.unL (h':=h') (fun b o hb q=>by
   simp only[jJ_,xu_,or_false,not_or]at hb
   exact gk b o hb.1 hb.2.2.1 hb.2.2.2.1 hb.2.2.2.2 q) hf
  exact I.call' (s':={s with heap:=h' }) (ch:=[z,TI,TO,i1,i2]) rfl un hok I.bare fun b hb=>(hf b hb).ch
 self:=fun A i s Q E st h=>wpAny_pyIter_zip st.1 h
noncomputable def Sw (K:α3)(ta:TA):TI:=fun σ H R=>ta σ H fun vs H1=>∃a b xs ys t1 t2,vs=[.ref a,.ref b]/\SqB K H1 t1 a xs/\SqB K H1 t2 b ys/\R (Itz2 K t1 t2 a b xs ys) H1
theorem M3 {K:α3}     : Sw K ta σ H Z=ta σ H fun vs H1=>∃a b xs ys t1 t2,vs=[.ref a,.ref b]/\SqB K H1 t1 a xs/\SqB K H1 t2 b ys/\Z (Itz2 K t1 t2 a b xs ys) H1:=rfl
theorem M4   {x1}     (hg:Gl X "zip")(hm:X.mg "zip"=none)(ha:PA X [e,f] ta)(hs:starEach [e,f] X.env=[(false,eval e X.env),(false,eval f X.env)]:=by rfl)(hs2:starEach [f] X.env=[(false,eval f X.env)]:=by rfl):PI X (.Tuple elts x1 tpos) (.Call (.Name "zip" p) [e,f] [] pos) (Sw X.K ta):=by
 intro pins s σ H R I h
 refine Call_ (DB I hg hm boot_zip (j7_ (thn (ha pos pins s σ H _ I h) fun us s1 ⟨vs,H1,I1,r1,q1⟩=>?_) (by rw[hs,hs2]) (by rw[hs2];rfl)))
 obtain⟨a,b,xs,ys,t1,t2,ev,hq,hq2,q⟩:=q1
 subst ev
 cases r1 with
 |cons r rr=>cases rr with
  |cons r' rr=>
   cases rr
   cases r
   cases r'
   obtain⟨its,rv,pl⟩:=I1.seqB hq
   obtain⟨its2,rv2,pl2⟩:=I1.seqB hq2
   refine JW pl pl2 fun h' hz hTI hTO hi1 hi2 hsz hk=>?_
   refine wpAny_pyIter_zip (s:={s1 with heap:=h' }) hz ?_
   have I2:Inv X pins σ H1 {s1 with heap:=h' }:=I1.kept (t':=s1.toks) hk
   refine⟨_,_,_,_,H1,rfl,I2,M0 (zipApart_new pl.lt pl2.lt) xs ys,⟨hz,hTI,⟨_,_,hTO⟩,hi1,hi2⟩,fun c hc=>?_,q⟩
   have hle:s1.heap.objs.size<=c:=by
    simp only[jJ_,xu_,or_false]at hc
    rcases hc with rfl|rfl|rfl|rfl|rfl
    ·exact x0_ _ 4
    ·exact x0_ _ 2
    ·exact x0_ _ 3
    ·exact jh_ _
    ·exact x0_ _ 1
   exact I1.fpOk hle (I1.hok.fresh hle)
theorem S9 {K:α3}         (n:Nat)(hn1:n<=xs.length)(hn2:n<=ys.length)(hn3:xs.length=n\/ys.length=n)(Pv:Nat->St->Hp->Prop)(h0:Pv 0 σ H)(hl:∀i σ H,i<=n->Pv i σ H->SqB K H t1 a xs/\SqB K H t2 b ys)
  (hs:∀i u v σ H t,i<n->xs[i]?=some u->ys[i]?=some v->Pv i σ H->H t=none->g (.ref t) σ (upd H t (.tup [u,v])) fun σ2 H2=>tb {D with nx:=Pv (i+1),ct:=Pv (i+1),bk:=D.nx} σ2 H2) (hd:∀σ H,Pv n σ H->D.nx σ H):ForW (Itz2 K t1 t2 a b xs ys) g tb D σ H:=by
 refine⟨fun i m σ H=>m+i=n/\Pv i σ H,⟨n,by lia,h0⟩,fun i m σ H ⟨hm,hp⟩=>?_⟩
 obtain⟨q1,q2⟩:=hl i σ H s!"" hp
 by_cases hi:i<n
 ·refine .inr ⟨⟨by lia,by lia,q1,q2⟩,Pv (i+1),fun σ' H' h=>⟨m-1,by lia,by lia,h⟩,fun x H' hy=>?_⟩
  obtain⟨t,u,v,e1,e2,e3,rfl,rfl⟩:=hy
  exact hs i u v σ H t hi e2 e3 hp e1
 ·have e:i=n:=by lia
  subst e
  exact .inl ⟨⟨by lia,q1,q2⟩,hd σ H hp⟩
theorem Sx {K:α3}           (n:Nat)(hn1:n<=xs.length)(hn2:n<=ys.length)(hn3:xs.length=n\/ys.length=n)(Pv:Nat->List V->St->Hp->Prop)(h0:Pv 0 [] (cp.st σ) H)(hz:n<sizeLine)
  (hl:∀i zs σ H,i<=n->Pv i zs σ H->SqB K H t1 a xs/\SqB K H t2 b ys/\zs.length<=i)
  (hs:∀i u v zs σ H t,i<n->xs[i]?=some u->ys[i]?=some v->Pv i zs σ H->H t=none->g (.ref t) σ (upd H t (.tup [u,v])) fun σ2 H2=>tc σ2 H2 fun b H3=>if b=true then te σ2 H3 fun v H4=>Pv (i+1) (zs++[v]) σ2 H4 else Pv (i+1) zs σ2 H3)
  (hd:∀zs σ H,Pv n zs σ H->∀D,H D=none->Q (.ref D) (upd H D (.lst zs))):JO (Itz2 K t1 t2 a b xs ys) cp g tc te σ H Q:=by
 refine⟨fun i m zs σ H=>m=n-i/\i<=n/\Pv i zs σ H,⟨n,by simp,j1_ _,h0⟩,?_⟩
 rintro i m zs σ H ⟨rfl,hi,p⟩
 obtain⟨q1,q2,ly⟩:=hl i zs σ H hi p
 refine⟨by lia,?_⟩
 by_cases hlt:i<n
 ·refine .inr ⟨⟨by lia,by lia,q1,q2⟩,Pv (i+1),fun zs' σ' H' p'=>⟨n-(i+1),by lia,rfl,hlt,p'⟩,fun x H' y=>?_⟩
  obtain⟨t,u,v,e1,e2,e3,rfl,rfl⟩:=y
  exact hs i u v zs σ H t hlt e2 e3 p e1
 ·have e:i=n:=by lia
  subst e
  exact .inl ⟨⟨by lia,q1,q2⟩,hd zs σ H p⟩
theorem Ij (l:Addr)(its:Array Value)(n:Nat)(b:Addr)(its2:Array Value)(hz:its.size+its2.size<=sizeLine):
  Meets (Builtin.«list.extend» ⟨[.ref l,.ref b],[]⟩) (fun _ R s=>s.heap.get? l=some {cls:=.type "list",dict:=none,data:=.seq its n,slots := #[]}/\(∃o m,s.heap.get? b=some o/\o.cls=.type "tuple" /\ o.data=.seq its2 m)/\R (.ok (.ret Value.none)) {s with heap:=s.heap.update l (Obj.mapSeq fun x=>x++its2)}):=
 .of_wp fun prog w A R s h=>by
  obtain⟨hS,⟨o,m,ho,hc,hd⟩,h⟩:=h
  show wpAny _ A.in1 (Builtin.List.listExtendWith (.ref l) (.ref b) .none) _ _ s
  unfold Builtin.List.listExtendWith
  refine je_ (xT_ ⟨o,ho,hc⟩ ?_)
  have h1:(Builtin.List.listSameRef (.ref l) (.ref b)||Value.type "tuple" == Value.type "list" || Value.type "tuple" == Value.type "tuple")=true:=by simp
  simp only[h1,zi_]
  refine je_ ?_
  unfold Builtin.List.listItems
  refine je_ (q3_ ho hd (jo_ ?_))
  refine je_ ?_
  refine je_ (q3_ hS rfl (jo_ ?_))
  have hlong:(!its.isEmpty&&Builtin.List.listTooLong (its.size+its2.size))=false:=by rw[HW hz,Bool.and_false]
  rw[hlong]
  show wpAny _ A.in1 (updateSeq l (· ++ its2) >>= fun _=>ret .none) _ _ s
  refine je_ (qT_ hS rfl ?_ (hz:=by lia) (_hz':=by rw[Array.size_append];lia))
  exact jo_ ⟨_,rfl,h⟩
noncomputable def KH (K:α3):V->List V->Hp->VK->Prop:=fun x vs H Q=>∃l b xs zs,x=.ref l/\vs=[.ref b]/\H l=some (.lst xs)/\SqT K H b zs/\xs.length+zs.length<=sizeLine/\Q .non (upd H l (.lst (xs++zs)))
theorem Jo {K:α3}     : KH K x vs H Q=∃l b xs zs,x=.ref l/\vs=[.ref b]/\H l=some (.lst xs)/\SqT K H b zs/\xs.length+zs.length<=sizeLine/\Q .non (upd H l (.lst (xs++zs))):=rfl
theorem Ls  : MtM X "list.extend" (KH X.K):=by
 intro pins s σ H x vs v us Q I rx rv h
 obtain⟨l,b,xs,zs,rfl,rfl,hH,hB,hz,q⟩:=h
 cases rx
 obtain⟨u,rfl,ru⟩:=rv.one
 cases ru
 obtain⟨z,its,n,r,hl,e⟩:=I.lstM hH
 obtain⟨its2,r2,⟨o2,e2,c2,n2,d2⟩,_⟩:=I.tuple hB
 have l2:=r2.length
 have hsz:its.toArray.size+its2.toArray.size<=sizeLine:=by rw[ji_,ji_];lia
 refine xf_ F.slot_list_extend ⟨_,e,rfl⟩ F.entry_list_extend (F.args_list_extend_2 _ _)
  (Ij l its.toArray n b its2.toArray hsz) ⟨e,⟨o2,n2,e2,c2,d2⟩,?_⟩
 refine⟨.non,_,I.lset (its':=its++its2) hH e (by simp) (r.append r2) ?_,rfl,q⟩
 rw[jf_]
 lia
end L2
namespace Nest
noncomputable def sl (row:α2)(b i:Nat):α2:=(row.take i).drop b
theorem Fv (row:α2)(i:Nat):sl row i i=[]:=by unfold sl;exact List.drop_of_length_le (by rw[j5_];lia)
theorem BV    (h:row[i]?=some x)(hb:b<=i):sl row b (i+1)=sl row b i++[x]:=by
 have hi:=(jc_.mp h).1
 unfold sl
 rw[jF_,h,q1_,List.drop_append_of_le_length (by rw[j5_];lia)]
noncomputable def dl (p e x:Int):Int:=if x=e then -1 else if p<=x then 1 else 0
noncomputable def bal (p e:Int)(l:α2):Int:=(l.map (dl p e)).sum
theorem Fw (p e:Int)(l m:α2):bal p e (l++m)=bal p e l+bal p e m:=by unfold bal;rw[jI_,List.sum_append]
theorem Ez (p e x:Int):bal p e [x]=dl p e x:=by unfold bal;simp
theorem JX (p e:Int):bal p e []=0:=rfl
noncomputable def outF (p e:Int)(s:α2×Int)(x:Int):α2×Int:=if x=e then (s.1,s.2-1) else (if s.2=0 then s.1++[x] else s.1,if p<=x then s.2+1 else s.2)
noncomputable def outS (p e:Int)(l:α2):α2×Int:=l.foldl (outF p e) ([],0)
noncomputable def outW (p e:Int)(l:α2):α2:=(outS p e l).1
theorem Cs (p e:Int)(l:α2)(x:Int):outS p e (l++[x])=outF p e (outS p e l) x:=by unfold outS;rw[jK_];rfl
noncomputable def PM (p e:Int)(row:α2)(i a:Nat):Prop:=a<i/\bal p e (sl row a i)=1/\∀b,a<b->b<=i->bal p e (sl row b i)<=0
noncomputable def prtF (p e:Int)(s:List (Int×α2)×α2×α1)(x:Int):List (Int×α2)×α2×α1:=
 if x=e then (s.1++[(s.2.1.getLastD 0,s.2.2.getLastD [])],s.2.1.dropLast,s.2.2.dropLast)
 else if p<=x then (s.1,s.2.1++[x-p],s.2.2.dropLast++[s.2.2.getLastD []++[x]]++[[]])
 else (s.1,s.2.1,s.2.2.dropLast++[s.2.2.getLastD []++[x]])
noncomputable def prtS (p e:Int)(ws:α2):List (Int×α2)×α2×α1:=ws.foldl (prtF p e) ([],[],[[]])
theorem DT {p e:Int}{ws:α2}{i:Nat}{x:Int}(h:ws[i]?=some x):prtS p e (ws.take (i+1))=prtF p e (prtS p e (ws.take i)) x:=by
 unfold prtS
 rw[jF_,h,q1_,jK_];rfl
noncomputable def GI (p e:Int)(ws:α2):List (Int×α2):=(prtS p e ws).1++[(0,(prtS p e ws).2.2.headD [])]
noncomputable def AI (p e:Int):α2->Nat->Bool
 |[],d=>decide (d=0)
 |x::l,d=>if x<0\/e<x then false else if x=e then (match d with|0=>false|d+1=>AI p e l d) else if p<=x then AI p e l (d+1) else AI p e l d
theorem Cz {p e:Int}{ws:α2}{i:Nat}{x:Int}(h:ws[i]?=some x)(d:Nat):AI p e (ws.drop i) d=if x<0\/e<x then false else if x=e then (match d with|0=>false|d+1=>AI p e (ws.drop (i+1)) d) else if p<=x then AI p e (ws.drop (i+1)) (d+1) else AI p e (ws.drop (i+1)) d:=by
 have hi:=(jc_.mp h).1
 rw[List.drop_eq_getElem_cons hi,(jc_.mp h).2]
 rfl
structure Open (p e:Int)(row:α2)(i:Nat)(S:List Nat):Prop where
 lt:∀(j a:Nat),S[j]?=some a->a<i
 ba:∀(j a:Nat),S[j]?=some a->bal p e (sl row a i)=(j:Int)+1
 le:∀(j a:Nat),S[j]?=some a->∀b,a<b->b<=i->bal p e (sl row b i)<=j
 de:∀(j a:Nat),S[j]?=some a->(outS p e (sl row (a+1) i)).2=(j:Int)
 db:(outS p e (row.take i)).2=(S.length:Int)
theorem Open.zero (p e:Int)(row:α2):Open p e row 0 []:=⟨fun j a h=>by simp at h,fun j a h=>by simp at h,fun j a h=>by simp at h,fun j a h=>by simp at h,by simp[outS]⟩
theorem Open.plain      (h:Open p e row i S)(hx:row[i]?=some x)(h1:x≠e)(h2:¬ p<=x):Open p e row (i+1) S:=by
 have hd:dl p e x=0:=by unfold dl;rw[if_neg h1,if_neg h2]
 have hF:∀s:α2×Int,(outF p e s x).2=s.2:=fun s=>by unfold outF;rw[if_neg h1];simp[h2]
 refine⟨fun j a ha=>xn_ (h.lt j a ha),fun j a ha=>?_,fun j a ha b hb hb2=>?_,fun j a ha=>?_,?_⟩
 ·rw[BV hx (qY_ (h.lt j a ha)),Fw,Ez,hd,h.ba j a ha];lia
 ·by_cases hbi:b=i+1
  ·subst hbi;rw[Fv,JX];lia
  ·rw[BV hx s!"",Fw,Ez,hd]
   have:=h.le j a ha b hb s!"";lia
 ·rw[BV hx (h.lt j a ha),Cs,hF,h.de j a ha]
 ·rw[jF_,hx,q1_,Cs,hF,h.db]
theorem Open.call      (h:Open p e row i S)(hx:row[i]?=some x)(h1:x≠e)(h2:p<=x):Open p e row (i+1) (i::S):=by
 have hd:dl p e x=1:=by unfold dl;rw[if_neg h1,if_pos h2]
 have hF:∀s:α2×Int,(outF p e s x).2=s.2+1:=fun s=>by unfold outF;rw[if_neg h1];simp[h2]
 refine⟨fun j a ha=>?_,fun j a ha=>?_,fun j a ha b hb hb2=>?_,fun j a ha=>?_,?_⟩
 ·cases j with
  |zero=>simp at ha;lia
  |succ j=>exact xn_ (h.lt j a (by simpa using ha))
 ·cases j with
  |zero=>
   simp at ha;subst ha
   rw[BV hx (jh_ _),Fv,qw_,Ez,hd];rfl
  |succ j=>
   have ha:S[j]?=some a:=by simpa using ha
   rw[BV hx (qY_ (h.lt j a ha)),Fw,Ez,hd,h.ba j a ha];lia
 ·by_cases hbi:b=i+1
  ·subst hbi;rw[Fv,JX];lia
  ·cases j with
   |zero=>simp at ha;lia
   |succ j=>
    have ha:S[j]?=some a:=by simpa using ha
    rw[BV hx s!"",Fw,Ez,hd]
    have:=h.le j a ha b hb s!"";lia
 ·cases j with
  |zero=>simp at ha;subst ha;rw[Fv];simp[outS]
  |succ j=>
   have ha:S[j]?=some a:=by simpa using ha
   rw[BV hx (h.lt j a ha),Cs,hF,h.de j a ha];lia
 ·rw[jF_,hx,q1_,Cs,hF,h.db,jR_];lia
theorem Open.ends     (h:Open p e row i (c::S))(hx:row[i]?=some e):Open p e row (i+1) S/\PM p e row i c:=by
 have hd:dl p e e = -1:=by unfold dl;rw[if_pos rfl]
 have hF:∀s:α2×Int,(outF p e s e).2=s.2-1:=fun s=>by unfold outF;rw[if_pos rfl]
 have sh:∀{j a:Nat},S[j]?=some a->(c::S)[j+1]?=some a:=fun ha=>by simpa using ha
 refine⟨⟨fun j a ha=>xn_ (h.lt _ a (sh ha)),fun j a ha=>?_,fun j a ha b hb hb2=>?_,fun j a ha=>?_,?_⟩,h.lt 0 c rfl,?_,fun b h1 h2=>?_⟩
 ·rw[BV hx (qY_ (h.lt _ a (sh ha))),Fw,Ez,hd,h.ba _ a (sh ha)];lia
 ·by_cases hbi:b=i+1
  ·subst hbi;rw[Fv,JX];lia
  ·rw[BV hx s!"",Fw,Ez,hd]
   have:=h.le _ a (sh ha) b hb s!"";lia
 ·rw[BV hx (h.lt _ a (sh ha)),Cs,hF,h.de _ a (sh ha)];lia
 ·rw[jF_,hx,q1_,Cs,hF,h.db,jR_];lia
 ·have:=h.ba 0 c rfl;simpa using this
 ·have:=h.le 0 c rfl b h1 h2;simpa using this
noncomputable def wd (p e:Int)(row:α2)(i a:Nat):α2:=outW p e (sl row (a+1) i)
noncomputable def gt (p:Int)(row:α2)(a:Nat):Int:=row.getD a 0-p
structure Stk (p e:Int)(row:α2)(i:Nat)(S:List Nat)(t:List (Int×α2)×α2×α1):Prop where
 op:Open p e row i S
 cs:t.2.1=(S.map (gt p row)).reverse
 ws:t.2.2=outW p e (row.take i)::(S.map (wd p e row i)).reverse
theorem KI    (h:(outS p e l).2≠0):outW p e (l++[x])=outW p e l:=by
 unfold outW;rw[Cs];unfold outF;split
 ·rfl
 ·simp[h]
theorem M5   : outW p e (l++[e])=outW p e l:=by
 unfold outW;rw[Cs];unfold outF;rw[if_pos rfl]
theorem M6    (h:(outS p e l).2=0)(hx:x≠e):outW p e (l++[x])=outW p e l++[x]:=by
 unfold outW;rw[Cs];unfold outF;rw[if_neg hx];simp[h]
theorem KJ       (h:Stk p e row i S t)(hx:row[i]?=some x)(h1:x≠e):t.2.2.dropLast++[t.2.2.getLastD []++[x]]=outW p e (row.take (i+1))::(S.map (wd p e row (i+1))).reverse:=by
 have ht:row.take (i+1)=row.take i++[x]:=by rw[jF_,hx];rfl
 rw[h.ws]
 cases S with
 |nil=>
  have hz:(outS p e (row.take i)).2=0:=by have:=h.op.db;simpa using this
  simp[ht,M6 hz h1]
 |cons c S=>
  have hb:(outS p e (row.take i)).2≠0:=by have:=h.op.db;rw[this];simp;lia
  have hc:wd p e row (i+1) c=wd p e row i c++[x]:=by
   unfold wd
   rw[BV hx (h.op.lt 0 c rfl)]
   exact M6 (by have:=h.op.de 0 c rfl;simpa using this) h1
  have hS:S.map (wd p e row (i+1))=S.map (wd p e row i):=by
   refine qU_ fun a ha=>?_
   obtain⟨j,hj,ej⟩:=qm_ ha
   have hja:(c::S)[j+1]?=some a:=by rw[xd_,ja_ hj,ej]
   unfold wd
   rw[BV hx (h.op.lt _ a hja)]
   exact KI (by have:=h.op.de _ a hja;rw[this];lia)
  rw[ht,KI hb,jS_,jS_,qu_,qu_,hc,hS]
  rw[<-qb_,jP_,jZ_];rfl
theorem Stk.plain       (h:Stk p e row i S t)(hx:row[i]?=some x)(h1:x≠e)(h2:¬ p<=x):Stk p e row (i+1) S (prtF p e t x):=by
 unfold prtF
 rw[if_neg h1,if_neg h2]
 exact⟨h.op.plain hx h1 h2,h.cs,KJ h hx h1⟩
theorem Stk.call       (h:Stk p e row i S t)(hx:row[i]?=some x)(h1:x≠e)(h2:p<=x):Stk p e row (i+1) (i::S) (prtF p e t x):=by
 unfold prtF
 rw[if_neg h1,if_pos h2]
 refine⟨h.op.call hx h1 h2,?_,?_⟩
 ·show t.2.1++[x-p]=_
  rw[h.cs,jS_,qu_]
  unfold gt
  rw[js_,hx];rfl
 ·show t.2.2.dropLast++[t.2.2.getLastD []++[x]]++[[]]=_
  rw[KJ h hx h1,jS_,qu_,qb_]
  congr 2
  unfold wd
  rw[Fv];rfl
theorem Stk.ends      (h:Stk p e row i (c::S) t)(hx:row[i]?=some e):Stk p e row (i+1) S (prtF p e t e)/\(prtF p e t e).1=t.1++[(gt p row c,wd p e row i c)]/\PM p e row i c:=by
 have hop:=h.op.ends hx
 have ht:row.take (i+1)=row.take i++[e]:=by rw[jF_,hx];rfl
 unfold prtF
 rw[if_pos rfl]
 refine⟨⟨hop.1,?_,?_⟩,?_,hop.2⟩
 ·show t.2.1.dropLast=_
  rw[h.cs,jS_,qu_,jP_]
 ·show t.2.2.dropLast=_
  rw[h.ws,jS_,qu_,<-qb_,jP_,ht,M5]
  congr 2
  refine qU_ fun a ha=>?_
  obtain⟨j,hj,ej⟩:=qm_ ha
  have hja:(c::S)[j+1]?=some a:=by rw[xd_,ja_ hj,ej]
  unfold wd
  rw[BV hx (h.op.lt _ a hja),M5]
 ·show t.1++_=_
  rw[h.cs,h.ws,jS_,jS_,qu_,qu_,jZ_,<-qb_,jZ_]
theorem Stk.zero (p e:Int)(row:α2):Stk p e row 0 [] (prtS p e (row.take 0)):=⟨Open.zero p e row,rfl,by simp[prtS,outW,outS]⟩
theorem Bj (p e x:Int)(l:α2)(d:Nat):AI p e (x::l) d=if x<0\/e<x then false else if x=e then (match d with|0=>false|d+1=>AI p e l d) else if p<=x then AI p e l (d+1) else AI p e l d:=rfl
theorem C7 {p e:Int}:∀(row:α2) (k d:Nat) (rest:α2),AI p e row k=true->AI p e (row++rest) (d+k)=AI p e rest d
 |[],k,d,rest,h=>by
  have:k=0:=by simpa [AI] using h
  subst this;rfl
 |x::l,k,d,rest,h=>by
  rw[qb_,Bj]
  rw[Bj]at h
  by_cases h1:x<0\/e<x
  ·rw[if_pos h1]at h;cases h
  ·rw[if_neg h1]at h ⊢
   by_cases h2:x=e
   ·rw[if_pos h2]at h ⊢
    cases k with
    |zero=>cases h
    |succ k=>exact C7 l k d rest h
   ·rw[if_neg h2]at h ⊢
    by_cases h3:p<=x
    ·rw[if_pos h3]at h ⊢;exact C7 l (k+1) d rest h
    ·rw[if_neg h3]at h ⊢;exact C7 l k d rest h
theorem nestR_ends {p e:Int}(he:0<=e):∀(k:Nat) (rest:α2) (d:Nat),AI p e (List.replicate k e++rest) (d+k)=AI p e rest d
 |0,rest,d=>by simp
 |k+1,rest,d=>by
  rw[qy_,qb_,Bj,if_neg s!"",if_pos rfl]
  exact nestR_ends he k rest d
theorem nestR_snoc    (h:∀rest,AI p e (row++rest) 0=AI p e rest d)(h0:0<=x)(h1:x<=e)(h2:x=e->d≠0):∀rest,AI p e ((row++[x])++rest) 0=AI p e rest (if x=e then d-1 else if p<=x then d+1 else d):=by
 intro rest
 rw[jX_,h,List.singleton_append]
 conv=>lhs;unfold AI
 rw[if_neg s!""]
 by_cases hx:x=e
 ·rw[if_pos hx,if_pos hx]
  cases d with
  |zero=>exact absurd rfl (h2 hx)
  |succ d=>rfl
 ·rw[if_neg hx,if_neg hx]
  by_cases hp:p<=x
  ·rw[if_pos hp,if_pos hp]
  ·rw[if_neg hp,if_neg hp]
noncomputable def dueW (p e:Int)(row:α2)(i:Nat):List (Int×α2):=(prtS p e (row.take i)).1
theorem walk   (hn:AI p e row 0=true)(i:Nat)(hi:i<=row.length):∃S,Stk p e row i S (prtS p e (row.take i))/\AI p e (row.drop i) S.length=true:=by
 induction i with
 |zero=>exact⟨[],Stk.zero p e row,hn⟩
 |succ i ih=>
  obtain⟨S,hS,hd⟩:=ih s!""
  have hx:row[i]?=some row[i]:=by simp[show i<row.length by lia]
  generalize row[i]=x at hx
  rw[Cz hx]at hd
  rw[DT hx]
  by_cases h1:x<0\/e<x
  ·rw[if_pos h1]at hd;cases hd
  ·rw[if_neg h1]at hd
   by_cases h2:x=e
   ·rw[if_pos h2]at hd
    subst h2
    cases S with
    |nil=>cases hd
    |cons c S=>exact⟨S,(hS.ends hx).1,hd⟩
   ·rw[if_neg h2]at hd
    by_cases h3:p<=x
    ·rw[if_pos h3]at hd;exact⟨i::S,hS.call hx h2 h3,hd⟩
    ·rw[if_neg h3]at hd;exact⟨S,hS.plain hx h2 h3,hd⟩
theorem parts_due   (hn:AI p e row 0=true):GI p e row=dueW p e row row.length++[(0,outW p e row)]/\(prtS p e row).2.2.headD []=outW p e row:=by
 obtain⟨S,hS,hd⟩:=walk hn row.length (jh_ _)
 have hw:=hS.ws
 rw[jL_]at hw
 unfold GI dueW
 rw[jL_,hw]
 exact⟨rfl,rfl⟩
end Nest
namespace L2
open PySem PySem.Spec PyProof.Rows GW
theorem QU  {K:α3}      (hK:X.K=K)(hc:X.calm=true)(h:PGs X es t)
  (hn:(assignEach es X.env).length=n:=by rfl) (hst:(assignEach es X.env).findIdx? (·.1)=none:=by rfl):PG X (.Tuple es k pos) (gTup K n t):=by
 subst hK
 exact FF hc h hn hst
end L2
namespace HT
open PySem PySem.Spec PyProof.Rows L2
section
variable {prog:Program} {w:World} {A:Around} {E:Value->Shared->Prop} {s:Shared}
theorem getItem_tuple_whole {t sl:Addr}   {lo hi:Option Int}  (ht:IsTup s.heap t items)(hs:s.heap.IsSliceOf sl vl vu .none)(pl:IsPart vl lo)(pu:IsPart vu hi)
  (hw:sIx items.size 0 lo=0/\sIx items.size items.size hi=items.size) (h:Q (.ref t) s):wpAny (model prog w) A (getItem (.ref t) (.ref sl)) Q E s:=by
 obtain⟨os,hos,hcs,hds⟩:=id hs
 have hTs:s.TypeIs (.ref sl) "slice" := ⟨os,hos,hcs⟩
 unfold getItem
 try with_reducible refine qd_ ?_
 first|refine je_ (jo_ ?_)|skip
 refine je_ (wpAny_sequenceKey ht.typeIs (by decide) ?_)
 refine je_ (qF_ (name:=Str.ofString "__getitem__") ht.typeIs ql_
  (qX_ ql_ ht.typeIs entry_tuple_getitem ?_ (args_tuple_getitem _ _)))
 show wpAny _ _ (Builtin.Tuple.tupleItemsOf (.ref t) >>= _) _ _ s
 refine je_ (tupleItemsOf_ ht ?_)
 refine je_ (xT_ hTs ?_)
 rw[if_pos (by decide)]
 refine je_ (DC hs pl pu ?_)
 rw[hw.1,hw.2]
 show wpAny _ _ (if ((((0:Nat):Int)==0&&(1:Int)==1&&(items.size-0)==items.size)=true) then _ else _) _ _ s
 rw[if_pos (by simp)]
 refine je_ ?_
 unfold Builtin.Tuple.tupleIsExact
 refine je_ (xT_ ht.typeIs (jo_ ?_))
 rw[if_pos (by decide)]
 refine je_ (wpAny_rule ?_)
 exact jo_ ⟨_,rfl,jo_ h⟩
end
end HT
namespace L2
open PySem PySem.Spec PyProof.Rows GW
noncomputable def Sy (K:α3):V->Option Int->Option Int->Hp->VK->Prop:=fun x lo hi H Q=>∃a xs,x=.ref a/\SqT K H a xs/\∀p H',Same H H'->SqT K H' p (cutV xs lo hi)->Q (.ref p) H'
theorem PN {K:α3}  {lo hi:Option Int}   : Sy K x lo hi H Q=∃a xs,x=.ref a/\SqT K H a xs/\∀p H',Same H H'->SqT K H' p (cutV xs lo hi)->Q (.ref p) H':=rfl
theorem M7  : SlR X (Sy X.K):=by
 intro pins s σ H x v vl vu lo hi sl Q I rx hs pl pu h
 obtain⟨a,xs,rfl,hx,q⟩:=h
 by_cases hw:HT.sIx xs.length 0 lo=0/\HT.sIx xs.length xs.length hi=xs.length
 ·cases rx
  obtain⟨its,r,ht,hz⟩:=I.tuple hx
  have hlen:its.toArray.size=xs.length:=by rw[ji_];exact r.length.symm
  refine⟨"tuple",_,ql_.lookup,ht.typeIs,?_⟩
  refine HT.getItem_tuple_whole ht hs pl pu (by rw[hlen];exact hw) ⟨.ref a,H,I,rfl,q a H (Same.refl _) ?_⟩
  unfold cutV
  rw[hw.1,hw.2,List.drop_zero,Nat.sub_zero,jL_]
  exact hx
 ·exact RK pins s σ H (.ref a) v vl vu lo hi sl Q I rx hs pl pu ⟨a,xs,rfl,hx,hw,fun p hp=>q p _ (Same.new hp) (SqT.of Ab)⟩
end L2
namespace Nest
noncomputable def Lu (s:List (Int×α2)×α2×α1)(W:α1)(w:α2)(t:List (Int×α2)×α2×α1):List (Int×α2)×α2×α1:=(s.1++t.1,s.2.1++t.2.1,W++((w++t.2.2.headD [])::t.2.2.tail))
theorem Lv        (hb:t.2.2=b::bs)(hl:bs.length=t.2.1.length)(he:x=e->t.2.1 ≠ []):prtF p e (Lu s W w t) x=Lu s W w (prtF p e t x):=by
 obtain⟨t1,cs,ws⟩:=t
 obtain⟨s1,s2,s3⟩:=s
 have hb:ws=b::bs:=hb
 subst hb
 have hl:bs.length=cs.length:=hl
 have he:x=e->cs ≠ []:=he
 unfold Lu prtF
 simp only[List.headD_cons,List.tail_cons]
 by_cases hx:x=e
 ·rw[if_pos hx,if_pos hx]
  obtain⟨cs',c,rfl⟩:∃us u,cs=us++[u]:=⟨cs.dropLast,cs.getLast (he hx),(qs_ _).symm⟩
  obtain⟨bs',z,rfl⟩:∃us u,bs=us++[u]:=⟨bs.dropLast,bs.getLast (fun q=>by rw[q]at hl;simp at hl),(qs_ _).symm⟩
  have e1:W++(w++b)::(bs'++[z])=(W++(w++b)::bs')++[z]:=by simp
  have e2:b::(bs'++[z])=(b::bs')++[z]:=by simp
  have e3:s2++(cs'++[c])=(s2++cs')++[c]:=(jX_ ..).symm
  have e4:(b::bs'++[z]).dropLast=b::bs':=jP_
  rw[e1,e2,e3,e4]
  simp only[jP_,jZ_,List.headD_cons,List.tail_cons]
  simp[jX_]
 ·rw[if_neg hx,if_neg hx]
  by_cases hp:p<=x
  ·rw[if_pos hp,if_pos hp]
   rcases List.eq_nil_or_concat bs with rfl|⟨bs',z,rfl⟩
   ·have e1:W++[w++b]=W++[w++b]:=rfl
    have e2:[b]=[]++[b]:=rfl
    simp only[jP_,jZ_]
    rw[e2]
    simp only[jP_,jZ_]
    simp[jX_]
   ·have e1:W++(w++b)::(bs'++[z])=(W++(w++b)::bs')++[z]:=by simp
    have e2:b::(bs'++[z])=(b::bs')++[z]:=by simp
    simp only[List.concat_eq_append]
    rw[e1,e2]
    simp only[jP_,jZ_]
    simp[jX_]
  ·rw[if_neg hp,if_neg hp]
   rcases List.eq_nil_or_concat bs with rfl|⟨bs',z,rfl⟩
   ·have e2:[b]=[]++[b]:=rfl
    simp only[jP_,jZ_]
    rw[e2]
    simp only[jP_,jZ_]
    simp[jX_]
   ·have e1:W++(w++b)::(bs'++[z])=(W++(w++b)::bs')++[z]:=by simp
    have e2:b::(bs'++[z])=(b::bs')++[z]:=by simp
    simp only[List.concat_eq_append]
    rw[e1,e2]
    simp only[jP_,jZ_]
    simp[jX_]
theorem GJ   (hn:AI p e row 0=true)(s1:List (Int×α2))(s2:α2)(W:α1)(w:α2):row.foldl (prtF p e) (s1,s2,W++[w])=(s1++(prtS p e row).1,s2,W++[w++outW p e row]):=by
 have key:∀i,i<=row.length->(row.take i).foldl (prtF p e) (s1,s2,W++[w])=Lu (s1,s2,W++[w]) W w (prtS p e (row.take i)):=by
  intro i
  induction i with
  |zero=>intro _;simp[Lu,prtS]
  |succ i ih=>
   intro hi
   have hx:row[i]?=some row[i]:=by simp[show i<row.length by lia]
   generalize row[i]=x at hx
   obtain⟨S,hS,hd⟩:=walk hn i s!""
   rw[DT hx,jF_,hx,q1_,jK_,ih s!""]
   refine Lv hS.ws ?_ ?_
   ·rw[hS.cs];simp
   ·intro hxe
    rw[Cz hx]at hd
    rw[hS.cs]
    intro hnil
    have:S=[]:=by simpa using hnil
    subst this
    split at hd
    ·cases hd
    ·simp[hxe]at hd
 have h1:=key row.length (jh_ _)
 rw[jL_]at h1
 rw[h1]
 obtain⟨S,hS,hd⟩:=walk hn row.length (jh_ _)
 rw[jL_]at hS
 rw[List.drop_length]at hd
 have hS0:S=[]:=by
  have:S.length=0:=by simpa [AI] using hd
  exact List.eq_nil_of_length_eq_zero this
 subst hS0
 unfold Lu
 rw[hS.cs,hS.ws]
 simp
noncomputable def spreadN (p e:Int)(rows:α1)(ws:α2):α2:=ws.flatMap fun x=>if p<=x then x::(rows.getD (x-p).toNat []++[e]) else [x]
noncomputable def dueN (p e:Int)(rows:α1)(ws:α2):List (Int×α2):=ws.flatMap fun x=>if p<=x then (prtS p e (rows.getD (x-p).toNat [])).1++[(x-p,outW p e (rows.getD (x-p).toNat []))] else []
end Nest
namespace Nest
theorem ES {p e:Int}:∀(l:α2) (d:Nat),AI p e l d=true->∀x∈l,0<=x/\x<=e
 |[],_,_,x,hx=>by cases hx
 |y::l,d,h,x,hx=>by
  rw[Bj]at h
  by_cases hy:y<0\/e<y
  ·rw[if_pos hy]at h;cases h
  rw[if_neg hy]at h
  rcases jJ_.mp hx with rfl|hx
  ·lia
  by_cases he:y=e
  ·rw[if_pos he]at h
   cases d with
   |zero=>cases h
   |succ d=>exact ES l d h x hx
  rw[if_neg he]at h
  by_cases hp:p<=y
  ·rw[if_pos hp]at h;exact ES l _ h x hx
  ·rw[if_neg hp]at h;exact ES l _ h x hx
structure POk (h e:Int)(n:Nat)(t:List (Int×α2)×α2×α1):Prop where
 tl:∀pr∈t.1,0<=pr.1/\pr.1<h/\pr.2.length<=n/\∀x∈pr.2,0<=x/\x<e
 cs:∀c∈t.2.1,0<=c/\c<h
 ws:∀w∈t.2.2,w.length<=n/\∀x∈w,0<=x/\x<e
theorem FK {α}{l:List α}{d:α}:l.getLastD d=d\/l.getLastD d∈l:=by
 rw[List.getLastD_eq_getLast?]
 cases z:l.getLast? with
 |none=>left;rfl
 |some a=>right;exact List.mem_of_getLast? z
theorem POk.step {p h:Int}{n:Nat}{t:List (Int×α2)×α2×α1}{x:Int}(hh:1<=h)(k:POk h (p+h) n t)(h0:0<=x)(h1:x<=p+h):POk h (p+h) (n+1) (prtF p (p+h) t x):=by
 have hw:(t.2.2.getLastD []).length<=n/\∀x∈t.2.2.getLastD [],0<=x/\x<p+h:=by
  rcases FK (l:=t.2.2) (d:=[]) with z|z
  ·rw[z];exact⟨j1_ _,fun x hx=>by cases hx⟩
  ·exact k.ws _ z
 have hc:0<=t.2.1.getLastD 0/\t.2.1.getLastD 0<h:=by
  rcases FK (l:=t.2.1) (d:=0) with z|z
  ·rw[z];lia
  ·exact k.cs _ z
 have hd:∀w∈t.2.2.dropLast,w.length<=n+1/\∀x∈w,0<=x/\x<p+h:=fun w hw'=>by
  have:=k.ws w (List.dropLast_subset _ hw')
  exact⟨by lia,this.2⟩
 have ht:∀pr∈t.1,0<=pr.1/\pr.1<h/\pr.2.length<=n+1/\∀x∈pr.2,0<=x/\x<p+h:=fun pr hp=>by
  have:=k.tl pr hp
  exact⟨this.1,this.2.1,by lia,this.2.2.2⟩
 unfold prtF
 by_cases he:x=p+h
 ·rw[if_pos he]
  refine⟨fun pr hp=>?_,fun c hc'=>k.cs c (List.dropLast_subset _ hc'),hd⟩
  rcases jj_.mp hp with hp|hp
  ·exact ht pr hp
  ·rw[jb_.mp hp]
   exact⟨hc.1,hc.2,Nat.le_succ_of_le hw.1,hw.2⟩
 rw[if_neg he]
 have hn:(t.2.2.getLastD []++[x]).length<=n+1/\∀y∈t.2.2.getLastD []++[x],0<=y/\y<p+h:=by
  refine⟨by rw[jf_,jq_];have:=hw.1;lia,fun y hy=>?_⟩
  rcases jj_.mp hy with hy|hy
  ·exact hw.2 y hy
  ·rw[jb_.mp hy];lia
 by_cases hp:p<=x
 ·rw[if_pos hp]
  refine⟨ht,fun c hc'=>?_,fun w hw'=>?_⟩
  ·rcases jj_.mp hc' with hc' | hc'
   ·exact k.cs c hc'
   ·rw[jb_.mp hc'];lia
  ·rcases jj_.mp hw' with hw' | hw'
   ·rcases jj_.mp hw' with hw' | hw'
    ·exact hd w hw'
    ·rw[jb_.mp hw'];exact hn
   ·rw[jb_.mp hw'];exact⟨j1_ _,fun x hx=>by cases hx⟩
 ·rw[if_neg hp]
  refine⟨ht,k.cs,fun w hw'=>?_⟩
  rcases jj_.mp hw' with hw' | hw'
  ·exact hd w hw'
  ·rw[jb_.mp hw'];exact hn
theorem POk.fold {p h:Int}(hh:1<=h):∀(l:α2) (n:Nat) (t:List (Int×α2)×α2×α1),POk h (p+h) n t->(∀x∈l,0<=x/\x<=p+h)->POk h (p+h) (n+l.length) (l.foldl (prtF p (p+h)) t)
 |[],n,t,k,_=>k
 |x::l,n,t,k,hl=>by
  have:=POk.fold hh l (n+1) _ (k.step hh (hl x (by simp)).1 (hl x (by simp)).2) (fun y hy=>hl y (by simp[hy]))
  rw[qo_,jR_,show n+(l.length+1)=n+1+l.length by lia]
  exact this
theorem partsW_ok  (hh:1<=h)  (hn:AI p (p+h) l 0=true):∀pr∈GI p (p+h) l,0<=pr.1/\pr.1<h/\pr.2.length<=l.length/\∀x∈pr.2,0<=x/\x<p+h:=by
 have k:POk h (p+h) (0+l.length) (prtS p (p+h) l):=POk.fold hh l 0 _ ⟨fun pr hp=>(by cases hp),fun c hc=>(by cases hc),fun w hw=>by rw[jb_.mp hw];exact⟨j1_ _,fun x hx=>by cases hx⟩⟩ (ES l 0 hn)
 rw[Nat.zero_add]at k
 intro pr hp
 unfold GI at hp
 rcases jj_.mp hp with hp|hp
 ·exact k.tl pr hp
 ·rw[jb_.mp hp]
  refine⟨Int.le_refl _,by lia,?_⟩
  cases z:(prtS p (p+h) l).2.2 with
  |nil=>exact⟨j1_ _,fun x hx=>by cases hx⟩
  |cons w ws=>exact k.ws w (by rw[z];simp)
end Nest
set_option maxHeartbeats 1000000
set_option maxHeartbeats 4000000
namespace L2
section
variable {α:Type} [DecidableEq α]
noncomputable def ins1 (acc:List α)(x:α):List α:=if x∈acc then acc else acc++[x]
noncomputable def QV (acc row:List α):List α:=row.foldl ins1 acc
noncomputable def M8 (row:List α):List α:=QV [] row
noncomputable def num (row:List α):α2:=row.map fun x=>((M8 row).idxOf x:Int)
noncomputable def ncl (row:List α):Nat:=(M8 row).length
end
noncomputable def rowB (n:Nat)(b:α2->Nat->Int)(w:α2):α2:=(List.range n).map (b w)
noncomputable abbrev StC:=α1×α2
noncomputable def Ta (n:Nat)(b:α2->Nat->Int)(w:α2)(st:StC)(x:Nat):StC:=if ncl st.2<ncl (st.2.zip (rowB n b ((x:Int)::w))) then (st.1++[(x:Int)::w],num (st.2.zip (rowB n b ((x:Int)::w)))) else st
noncomputable def Sz (n:Nat)(b:α2->Nat->Int)(w:α2)(L:Nat)(st:StC):StC:=(List.range L).foldl (Ta n b w) st
noncomputable def PQ (n:Nat)(b:α2->Nat->Int)(L:Nat):Nat->Nat->StC->StC
 |0,_,st=>st
 |f+1,k,st=>if k<st.1.length then PQ n b L f (k+1) (Sz n b (st.1.getD k []) L st) else st
section
variable {n L:Nat} {b:α2->Nat->Int} {w:α2} {st:StC}
noncomputable def wcOf (n L:Nat)(b:α2->Nat->Int):StC:=PQ n b L 41 0 ([[]],num (rowB n b []))
end
end L2
namespace L2
open GW GB
noncomputable def bW (marks:α2)(ways:α1)(w:α2)(r:Nat):Int:=marks.getD (DI ways (r:Int) w).toNat 0
noncomputable def cf (c:α2)(r:Int):Int:=c.getD r.toNat 0
noncomputable def hm (c R:α2)(r:Int):Int:=(((M8 (R.map (cf c))).idxOf (cf c r):Nat):Int)
noncomputable def SA (c acc:α2)(r:Int):α2:=if cf c r∈acc.map (cf c) then acc else acc++[r]
noncomputable def FR (c R:α2):α2:=R.foldl (SA c) []
noncomputable def hrow (c R:α2)(ways:α1)(r:Int):α2:=(ways.getD r.toNat []).map (hm c R)
noncomputable def cOf (L:Nat)(marks:α2)(ways:α1):α2:=(wcOf marks.length L (bW marks ways)).2
noncomputable def rOf (ways:α1):α2:=(ML ways).map (·.1)
noncomputable def sF (L:Nat)(marks:α2)(ways:α1):α2:=FR (cOf L marks ways) (rOf ways)
noncomputable def hO (L:Nat)(marks:α2)(ways:α1)(r:Int):Int:=hm (cOf L marks ways) (rOf ways) r
section
variable {L:Nat} {marks:α2} {ways:α1}
noncomputable def wi (ways:α1)(r:Int):α2:=(((ML ways).find? fun e=>decide (e.1=r)).map (·.2)).getD []
end
end L2
set_option maxHeartbeats 1000000
namespace L2
open PySem PySem.Spec PyProof.Rows
noncomputable def nt (n:Int):Str:=Str.ofString (toString n)
end L2
set_option maxHeartbeats 4000000
namespace L2
open PySem PySem.Spec PyProof.Rows
section
variable {X:Cx} {pins:α7} {σ:St} {H:Hp} {s:Shared} {a:Addr}
theorem Inv.freezeK   (I:Inv X pins σ H s)(e:H a=some (.dK kvs))(ho:s.heap.get? a=some o):Inv X pins σ (upd H a (.frz o (.dK kvs))) s:=by
 refine Fo (h':=s.heap) (t':=s.toks) I (by rw[e];exact True.intro) ⟨rfl,fun _ _=>rfl⟩ ⟨o,ho⟩ ?_
 exact⟨ho,(show AX X.prog X.w H s.heap a (.dK kvs) from I.hok a _ e)⟩
end
theorem dkAt       (ok:HOk P w H h)(e:Rd H a (.dK kvs)):
  ∃vs ep,h.DictAt (A7 P w) a vs ep/\KV kvs vs/\(a==sysModules)=false/\kvs.length<=sizeLine:=by
 obtain⟨z,y,vs,r,m⟩:=Mh ok e
 obtain⟨ep,hat⟩:=m.dictAt
 exact⟨vs,ep,hat,r,y,z⟩
theorem KV.get {kvs:List (Key×V)}{vs:List (Key×Value)}(r:KV kvs vs){i:Nat}{k:Key}{v:V}(h:kvs[i]?=some (k,v)):∃u,vs[i]?=some (k,u)/\RelV v u:=by
 obtain⟨q,hq,e1,e2⟩:=Fs r h
 exact⟨q.2,by rw[hq,show k=q.1 from e1],e2⟩
noncomputable def ItkK (o:Obj)(a:Addr)(kvs:List (Key×V)):It:=⟨fun i H=>i<kvs.length/\H a=some (.frz o (.dK kvs)),fun i H x H'=>H'=H/\∃k v,kvs[i]?=some (k,v)/\x=kV k,fun i H=>kvs.length<=i/\H a=some (.frz o (.dK kvs))⟩
theorem SD          (ok:HOk P w H h)(hd:o.data=.dict es ep)(e:H a=some (.frz o (.dK kvs))):∃vs,h.DictAt (A7 P w) a vs ep/\KV kvs vs/\vs.length=kvs.length:=by
 obtain⟨hko,_⟩:=(show AX P w H h a (.frz o (.dK kvs)) from ok a _ e)
 obtain⟨vs,ep',hat,r,_,_⟩:=dkAt ok (.inr ⟨o,e⟩)
 obtain⟨o',es',g1,g2,g3,g4⟩:=id hat
 rw[hko]at g1
 cases g1
 rw[hd]at g3
 cases g3
 exact⟨vs,hat,r,r.length.symm⟩
noncomputable def FzAt (d:Addr)(H H':Hp):Prop:=(∀a u,a≠d->H a=some u->H' a=some u)/\∀u,H d=some u->H' d=some u \/ ∃kvs o,u=.dK kvs/\H' d=some (.frz o (.dK kvs))
theorem FzAt.of   (s:Same H H'):FzAt d H H':=⟨fun a u _ h=>s a u h,fun u h=>.inl (s d u h)⟩
theorem FzAt.new     (h:Rd H d (.dK kvs))(h1:H' d=some (.frz o (.dK kvs)))(h2:∀b,b≠d->H' b=H b)(h3:∀o',H d=some (.frz o' (.dK kvs))->o'=o):FzAt d H H':=by
 refine⟨fun a u ha e=>by rw[h2 a ha];exact e,fun u e=>?_⟩
 rcases h with h|⟨o',h⟩
 ·rw[h]at e;cases e;exact .inr ⟨kvs,o,rfl,h1⟩
 ·rw[h]at e;cases e;rw[h3 o' h] ;exact .inl h1
theorem frzK        (I:Inv X pins σ H s)(e:Rd H a (.dK kvs)):
  ∃o es vs ep H2,Inv X pins σ H2 s/\H2 a=some (.frz o (.dK kvs))/\FzAt a H H2/\s.heap.DictAt (A7 X.prog X.w) a vs ep/\s.heap.get? a=some o/\o.ExactDict/\o.data=.dict es ep/\vs.length=kvs.length/\(a==sysModules)=false:=by
 obtain⟨vs,ep,hat,r,g5,g6⟩:=dkAt I.hok e
 obtain⟨od,es,g1,g2,g3,g4⟩:=id hat
 rcases e with e|⟨o,e⟩
 ·exact⟨od,es,vs,ep,_,I.freezeK e g1,Ab,FzAt.new (.inl e) Ab (fun b hb=>Ag hb) (fun o' z=>by rw[e]at z;cases z),hat,g1,g2,g3,r.length.symm,g5⟩
 ·obtain⟨hko,_⟩:=(show AX X.prog X.w H s.heap a (.frz o (.dK kvs)) from I.hok a _ e)
  rw[hko]at g1
  cases g1
  exact⟨_,es,vs,ep,H,I,e,FzAt.of (Same.refl _),hat,hko,g2,g3,r.length.symm,g5⟩
theorem Lw {P:Program}{w:World}{K:α3}{tg:Expr}{o:Obj}{a it:Addr}{kvs:List (Key×V)}{es:Array DictEntry}{ep:Nat}(hai:a≠it)(hd:o.data=.dict es ep):
  Turn P w K tg (ItkK o a kvs) [it] it (fun i h=>h.IsKeyIter it a i kvs.length ep) where
 mem:=by simp
 obj:=fun i h st b hb=>by
  have e:b=it:=by simpa using hb
  subst e
  obtain⟨o,e,c,d⟩:=st
  exact⟨o,e,fun v z=>by rw[d]at z;cases z⟩
 keep:=fun i h h' st k=>st.at fun o e=>k it (by simp) o e
 item:=by
  intro X hP hw hK hcm i pins s σ H E I hf st hg
  subst hP hw hK
  obtain⟨hi,hq⟩:=hg
  obtain⟨vs,hat,r,hl⟩:=SD I.hok hd hq
  obtain⟨kv,hkv⟩:∃kv,kvs[i]?=some kv:=⟨kvs[i],by simp[hi]⟩
  obtain⟨k,v⟩:=kv
  obtain⟨u,hu,ru⟩:=KV.get r hkv
  obtain⟨f0,f1,f2,f3,f4,f5⟩:=hf it (by simp)
  refine wpAny_pyNext_dict_item (kvs:=vs) (by rw[hl];exact st) hat hu fun key h' hk st' sb=>?_
  rw[hl]at st'
  have I1:Inv X pins σ H {s with heap:=h' }:=I.turned (t':=s.toks) (fun b o hb e=>(sb.2 b hb).trans e) f0 f1 f3 f4 f5
  obtain⟨io,e,c,d⟩:=id st'
  exact⟨_,rfl,LN (s:={s with heap:=h' }) e c d (by decide) ⟨kV k,H,I1,Jm hk,⟨rfl,k,v,hkv,rfl⟩,st',fun b hb=>(hf b hb).1⟩⟩
 done:=by
  intro X hP hw hK hcm i pins s σ H E I hf st hg
  subst hP hw hK
  obtain⟨hi,hq⟩:=hg
  obtain⟨vs,hat,r,hl⟩:=SD I.hok hd hq
  obtain⟨f0,f1,f2,f3,f4,f5⟩:=hf it (by simp)
  exact wpAny_pyNext_dict_end (kvs:=vs) (I.ok.hd hcm) (by rw[hl];exact st) hat (qB_ s!"") fun h' eb=>⟨rfl,I.turned (t':=s.toks) (fun b o hb e=>eb b o hb e) f0 f1 f3 f4 f5⟩
 self:=fun _ _ _ _ _ st h=>wpAny_pyIter_keyiter st h
noncomputable def PR (td:TE):TI:=fun σ H R=>td σ H fun x H1=>∃a kvs,x=.ref a/\Rd H1 a (.dK kvs)/\∀o H2,H2 a=some (.frz o (.dK kvs))->FzAt a H1 H2->R (ItkK o a kvs) H2
theorem KL     : PR te σ H Z=te σ H fun x H1=>∃a kvs,x=.ref a/\Rd H1 a (.dK kvs)/\∀o H2,H2 a=some (.frz o (.dK kvs))->FzAt a H1 H2->Z (ItkK o a kvs) H2:=rfl
theorem KN     (hl:PE X l tl):PI X tg l (PR tl):=by
 intro pins s σ H R I h
 refine thn (hl pins s σ H _ I h) fun v s1 ⟨x,H1,I1,r1,q1⟩=>?_
 obtain⟨a,kvs,e,hq,q⟩:=q1
 subst e
 cases r1
 obtain⟨o,es,vs,ep,H2,I2,hfz,hF,hat,g1,g2,g3,hlen,g5⟩:=frzK I1 hq
 refine wpAny_pyIter_dict g5 hat ?_
 refine⟨s1.heap.objs.size,[s1.heap.objs.size],_,_,_,rfl,I2.kept (t':=s1.toks) fun b o e=>jm_ _ e,Lw (o:=o) (kvs:=kvs) (jW_ (jy_ g1)) g3,⟨_,jE_ _ rfl,rfl,by rw[hlen];rfl⟩,fun b hb=>?_,q o H2 hfz hF⟩
 have e:b=s1.heap.objs.size:=by simpa using hb
 subst e
 exact I2.fpOk (jh_ _) (I2.hok.fresh (jh_ _))
theorem Tc         (Pv:Nat->St->Hp->Prop)(h0:Pv 0 σ H)(hl:∀i σ H,i<=kvs.length->Pv i σ H->H a=some (.frz o (.dK kvs)))
  (hs:∀i k v σ H,kvs[i]?=some (k,v)->Pv i σ H->g (kV k) σ H fun σ2 H2=>tb {D with nx:=Pv (i+1),ct:=Pv (i+1),bk:=D.nx} σ2 H2) (hd:∀σ H,Pv kvs.length σ H->D.nx σ H):ForW (ItkK o a kvs) g tb D σ H:=by
 refine⟨fun i m σ H=>m+i=kvs.length/\Pv i σ H,⟨kvs.length,by lia,h0⟩,fun i m σ H ⟨hm,hp⟩=>?_⟩
 have hq:=hl i σ H s!"" hp
 by_cases hi:i<kvs.length
 ·refine .inr ⟨⟨hi,hq⟩,Pv (i+1),fun σ' H' h=>⟨m-1,by lia,by lia,h⟩,fun x H' hy=>?_⟩
  obtain⟨rfl,k,v,hk,rfl⟩:=hy
  exact hs i k v σ _ hk hp
 ·have e:i=kvs.length:=by lia
  subst e
  exact .inl ⟨⟨jh_ _,hq⟩,hd σ H hp⟩
theorem AG  : Dk X (.type "tuple") (fun xs H Q=>∃p ys,xs=[.ref p]/\((SqL X.K H p ys/\∀l,H l=none->Q (.ref l) (upd H l (.tup ys)))\/False)):=fun pins s σ H xs us Q I r h=>by
 obtain⟨p,ys,e,h|h⟩:=h
 ·exact HV pins s σ H xs us Q I r ⟨p,ys,e,.inl h⟩
 ·exact h.elim
theorem Ik  {K:α3}(h:X.K=K):Dk X (.type "tuple") (fun xs H Q=>∃p ys,xs=[.ref p]/\((SqL K H p ys/\∀l,H l=none->Q (.ref l) (upd H l (.tup ys)))\/False)):=by subst h;exact AG
theorem len1 {α:Type}{us:List α}(h:us.length=1):∃a,us=[a]:=by match us,h with|[a],_=>exact⟨a,rfl⟩
theorem len2 {α:Type}{us:List α}(h:us.length=2):∃a b,us=[a,b]:=by match us,h with|[a,b],_=>exact⟨a,b,rfl⟩
theorem len3 {α:Type}{us:List α}(h:us.length=3):∃a b c,us=[a,b,c]:=by match us,h with|[a,b,c],_=>exact⟨a,b,c,rfl⟩
theorem len4 {α:Type}{us:List α}(h:us.length=4):∃a b c d,us=[a,b,c,d]:=by match us,h with|[a,b,c,d],_=>exact⟨a,b,c,d,rfl⟩
theorem len5 {α:Type}{us:List α}(h:us.length=5):∃a b c d e,us=[a,b,c,d,e]:=by match us,h with|[a,b,c,d,e],_=>exact⟨a,b,c,d,e,rfl⟩
noncomputable def M9 (u:TS)(D:Ends):St->Hp->Prop:=u D
noncomputable def SE (t u:TS):TS:=fun D σ H=>t {D with nx:=M9 u D} σ H
theorem PU     : SE t u D σ H=t {D with nx:=M9 u D} σ H:=rfl
theorem Gg     (h:u D σ H):M9 u D σ H:=h
theorem Gh  {st:Stmt}{rest:List Stmt}  (h1:PS X st t)(h2:PSs X rest u):PSs X (st::rest) (SE t u):=Ac h1 h2
end L2
set_option maxHeartbeats 1000000
set_option maxHeartbeats 4000000
namespace PySem.W
open PySem PySem.Calls PyProof.Rows PyProof.V PySem.Spec
end PySem.W
namespace L2
open PySem PySem.W PySem.Spec PySem.Calls PyProof.Rows
noncomputable def vD:Option (Option V)->(V->Prop)->Prop
 |some (some v),q=>q v
 |_,_=>False
theorem Na   : vD (some (some v)) q=q v:=rfl
theorem Td   (h:vD o q):∃v,o=some (some v)/\q v:=by
 match o,h with
 |some (some v),h=>exact⟨v,rfl,h⟩
noncomputable def QW (i:Nat):TE:=fun σ H Q=>vD σ[i]? fun v=>Q v H
theorem PV     : QW i σ H Q=vD σ[i]? fun v=>Q v H:=rfl
theorem pvD  (i:Nat)   (hN:X.N[i]?=some x:=by rfl)(hv:Vis X.env.scope x:=by first|exact Or.inl rfl|exact Or.inr (Or.inl rfl)|exact Or.inr (Or.inr rfl))(hd:(x==("__debug__" : Str))=false:=by decide)
  (hcd:(x==("__classdict__" : Str))=false:=by decide):PE X (.Name x pos) (QW i):=fun pins s σ H Q I h=>pv i hN hv hd hcd pins s σ H Q I (Td h)
noncomputable def iD:V->V->(Int->Int->Prop)->Prop
 |.int i,.int j,q=>q i j
 |x,y,q=>∃i j,x=.int i/\y=.int j/\q i j
theorem PX   : iD (.int i) (.int j) q=q i j:=rfl
theorem QX   : iD x y q=∃i j,x=.int i/\y=.int j/\q i j:=by
 cases x<;>cases y<;>first|rfl|(simp[iD])
noncomputable def rID (C:Int->Int->Prop)(g:Int->Int->V):R2:=fun x y H Q=>iD x y fun i j=>C i j/\Q (g i j) H
noncomputable def rI0D (g:Int->Int->V):R2:=fun x y H Q=>iD x y fun i j=>Q (g i j) H
theorem r_ID      : rID C f x y H Q=iD x y fun i j=>C i j/\Q (f i j) H:=rfl
theorem SF     : rI0D f x y H Q=iD x y fun i j=>Q (f i j) H:=rfl
theorem SH   : rID C g=rI C g:=by
 funext x y H Q;exact QX
theorem QY  : rI0D g=rI0 g:=by
 funext x y H Q;exact QX
theorem opD     (h:OpR X f (rI C g)):OpR X f (rID C g):=by rw[SH];exact h
theorem opD0    (h:OpR X f (rI0 g)):OpR X f (rI0D g):=by rw[QY];exact h
noncomputable def bD:V->(Bool->Prop)->Prop
 |.bl c,q=>q c
 |x,q=>∃c,x=.bl c/\q c
theorem SI   : bD (.bl c) q=q c:=rfl
theorem SJ   : bD x q=∃c,x=.bl c/\q c:=by
 cases x<;>first|rfl|(simp[bD])
noncomputable def tBD (t:TE):TT:=fun σ H Q=>t σ H fun x H1=>bD x fun c=>Q c H1
theorem r_BD     : tBD te σ H R=te σ H fun x H1=>bD x fun c=>R c H1:=rfl
theorem PY  : tBD t=tB t:=by
 funext σ H Q
 show t σ H _=t σ H _
 congr 1
 funext x H1;exact SJ
theorem QZ  : tBD t=N7 t:=PY
theorem ptB    (h:PT X e (tB t)):PT X e (tBD t):=by rw[PY];exact h
theorem ptT    (h:PT X e (N7 t)):PT X e (tBD t):=by rw[QZ];exact h
noncomputable def eD:V->V->Prop->Prop
 |.int _,.int _,q=>q
 |.str _,.str _,q=>q
 |.non,.non,q=>q
 |.bl _,.bl _,q=>q
 |x,y,q=>scal x y=true/\q
theorem PZ   : eD (.int i) (.int j) q=q:=rfl
theorem P0   : eD (.str i) (.str j) q=q:=rfl
theorem P4  : eD .non .non q=q:=rfl
theorem SK   : eD (.bl i) (.bl j) q=q:=rfl
theorem Q0   : eD x y q=(scal x y=true/\q):=by
 cases x<;>cases y<;>first|rfl|(simp[eD,scal])
noncomputable def rEqF:R2:=fun x y H Q=>eD x y (Q (.bl (decide (x=y))) H)
noncomputable def rNeF:R2:=fun x y H Q=>eD x y (Q (.bl (!decide (x=y))) H)
theorem SM    : rEqF x y H Q=eD x y (Q (.bl (decide (x=y))) H):=rfl
theorem SN    : rNeF x y H Q=eD x y (Q (.bl (!decide (x=y))) H):=rfl
theorem Q1:rEqF=rEq:=by funext x y H Q;exact Q0
theorem Q2:rNeF=rNe:=by funext x y H Q;exact Q0
theorem opE   (h:OpR X f rEq):OpR X f rEqF:=by rw[Q1];exact h
theorem opN   (h:OpR X f rNe):OpR X f rNeF:=by rw[Q2];exact h
noncomputable def aD:V->(Addr->Prop)->Prop
 |.ref a,q=>q a
 |x,q=>∃a,x=.ref a/\q a
theorem P5   : aD (.ref a) q=q a:=rfl
theorem OA   : aD x q=∃a,x=.ref a/\q a:=by
 cases x<;>first|rfl|(simp[aD])
noncomputable def nD:V->(Int->Prop)->Prop
 |.int a,q=>q a
 |x,q=>∃a,x=.int a/\q a
theorem P6   : nD (.int a) q=q a:=rfl
theorem Nb   : nD x q=∃a,x=.int a/\q a:=by
 cases x<;>first|rfl|(simp[nD])
noncomputable def Q3 (K:α3):R2:=fun x y H Q=>aD x fun p=>∃xs,nD y fun i=>SqT K H p xs/\∃v,atI xs i=some v/\Q v H
noncomputable def Q4 (K:α3):R2:=fun x y H Q=>aD x fun p=>∃xs,nD y fun i=>SqL K H p xs/\∃v,atI xs i=some v/\Q v H
theorem P7 {K:α3}    : Q3 K x y H Q=aD x fun p=>∃xs,nD y fun i=>SqT K H p xs/\∃v,atI xs i=some v/\Q v H:=rfl
theorem P8 {K:α3}    : Q4 K x y H Q=aD x fun p=>∃xs,nD y fun i=>SqL K H p xs/\∃v,atI xs i=some v/\Q v H:=rfl
theorem OB {K:α3}:Q3 K=rIxT K:=by
 funext x y H Q
 show aD x _=∃p xs i v,_
 rw[OA]
 refine propext ⟨fun ⟨p,e,h⟩=>?_,fun ⟨p,xs,i,v,e1,e2,e3,e4,e5⟩=>⟨p,e1,?_⟩⟩
 ·obtain⟨xs,h⟩:=h
  rw[Nb]at h
  obtain⟨i,e2,e3,v,e4,e5⟩:=h
  exact⟨p,xs,i,v,e,e2,e3,e4,e5⟩
 ·refine⟨xs,?_⟩
  rw[Nb]
  exact⟨i,e2,e3,v,e4,e5⟩
theorem OC {K:α3}:Q4 K=rIxL K:=by
 funext x y H Q
 show aD x _=∃p xs i v,_
 rw[OA]
 refine propext ⟨fun ⟨p,e,h⟩=>?_,fun ⟨p,xs,i,v,e1,e2,e3,e4,e5⟩=>⟨p,e1,?_⟩⟩
 ·obtain⟨xs,h⟩:=h
  rw[Nb]at h
  obtain⟨i,e2,e3,v,e4,e5⟩:=h
  exact⟨p,xs,i,v,e,e2,e3,e4,e5⟩
 ·refine⟨xs,?_⟩
  rw[Nb]
  exact⟨i,e2,e3,v,e4,e5⟩
theorem ixTD  {K:α3}(h:IxR X (rIxT K)):IxR X (Q3 K):=by rw[OB];exact h
theorem ixLD  {K:α3}(h:IxR X (rIxL K)):IxR X (Q4 K):=by rw[OC];exact h
noncomputable def lD1:List V->(V->Prop)->Prop
 |[x],q=>q x
 |xs,q=>∃x,xs=[x]/\q x
theorem Nd   : lD1 [x] q=q x:=rfl
theorem SR   : lD1 xs q=∃x,xs=[x]/\q x:=by
 match xs with
 |[]=>rfl
 |[x]=>simp[lD1]
 |x::y::r=>rfl
noncomputable def Q5 (K:α3):List V->Hp->VK->Prop:=fun xs H Q=>lD1 xs fun x=>aD x fun p=>∃ys,(SqL K H p ys\/SqT K H p ys)/\Q (.int ys.length) H
theorem P9 {K:α3}    : Q5 K xs H Q=lD1 xs fun x=>aD x fun p=>∃ys,(SqL K H p ys\/SqT K H p ys)/\Q (.int ys.length) H:=rfl
theorem lenD  {K:α3}  (h:Dk X f (fun xs H Q=>∃p ys,xs=[.ref p]/\(SqL K H p ys\/SqT K H p ys)/\Q (.int ys.length) H)):Dk X f (Q5 K):=by
 have e:Q5 K=fun xs H Q=>∃p ys,xs=[.ref p]/\(SqL K H p ys\/SqT K H p ys)/\Q (.int ys.length) H:=by
  funext xs H Q
  show lD1 xs _=_
  rw[SR]
  refine propext ⟨fun ⟨x,e,h⟩=>?_,fun ⟨p,ys,e,h1,h2⟩=>⟨_,e,ys,h1,h2⟩⟩
  rw[OA]at h
  obtain⟨p,rfl,ys,h1,h2⟩:=h
  exact⟨p,ys,e,h1,h2⟩
 rw[e];exact h
theorem Aj       (hN:X.N.Nodup)(he:PE X e te)(hi:X.N[i]?=some x:=by rfl)(hx:Loc X.env.scope x:=by exact Or.inl rfl)(hs:swapsWith e (some (.Name x pos')) pos.line X.env=pure false:=by rfl)(hf:X.fn x=true\/X.env.scope.names.lookup x=some .local:=by first|exact .inl rfl|exact .inr rfl|assumption):PS X (.Assign [.Name x pos'] e pos) (tAsg te (HJ i)):=EI hN hi hx he hs hf
theorem Ah      (hr:IxR X r)(ha:PE X a ta)(hb:PE X b tb)(hs:L7 b:=by exact fun _ _=>rfl):PE X (.Subscript a b pos) (tOp r ta tb):=Qu hr ha hb hs
end L2
namespace PySem
open Sem (wp)
structure VKind (prog:Program)(w:World)(K:Type)[DecidableEq K] where
 is:Heap->K->Value->Prop
 hash:K->Int
 draws:K->Nat
 room:Around->Prop
 inj:∀{h:Heap} {a:Value} {x y:K},is h x a->is h y a->x=y
 keeps:∀{h h':Heap} {k:K} {a:Value} {d:Addr} {o:Obj} {es ep},is h k a->h.get? d=some o->o.data=.dict es ep->Heap.SameBut d h h'->is h' k a
 pyHash:∀{A:Around} {E:Value->Shared->Prop} {s:Shared} {k:K} {a:Addr} {Q:Int->Shared->Prop},room A->is s.heap k (.ref a)->Q (hash k) {s with toks:=s.toks+draws k}->wpAny (model prog w) A (PySem.pyHash (.ref a)) Q E s
 eqBool:∀{A:Around} {E:Value->Shared->Prop} {s:Shared} {x y:K} {u:Value} {b:Addr} {Q:Bool->Shared->Prop},room A->is s.heap x u->is s.heap y (.ref b)->Q (decide (x=y)) s->wpAny (model prog w) A (PySem.eqBool u (.ref b)) Q E s
 quiet:∀{A:Around} {E:Value->Shared->Prop} {s:Shared} {k:K} {a:Value} {Q:Bool->Shared->Prop},room A->is s.heap k a->Q true s->wpAny (model prog w) A (eqIsQuiet 8 a) Q E s
noncomputable abbrev NI:=Int ⊕ α2
noncomputable abbrev NK:=Option (List NI)
end PySem
namespace L2
open PySem PySem.W PySem.Spec PySem.Calls PyProof.Rows
noncomputable def TSq (K:α3)(H H':Hp):Prop:=∀b ys,SqT K H b ys->SqT K H' b ys
end L2
namespace S64
open PySem PyProof.Rows
noncomputable def KE (κ:KeyKind)(x:Keyed):κ.α:=(κ.keyOf x.1).getD κ.dflt
noncomputable def NI (κ:KeyKind)(xs:Array Keyed)(lo hi:Nat):Prop:=∀i j,lo<=i->i<=j->j<hi->κ.kle (KK κ xs j) (KK κ xs i)
noncomputable def Il:Bool->Keyed->Array Keyed->Nat->Nat->Nat->StateT SortSt Sem (Option Nat):=sortPriv% PySem.Builtin.gallop
noncomputable def Ct:Nat->StateT SortSt Sem Unit:=sortPriv% PySem.Builtin.setMinGallop
noncomputable def JY (a b out:Array Keyed)(ia ib:Nat):Array Keyed:=out++a.extract ia a.size++b.extract ib b.size
noncomputable def Q6 (a b out:Array Keyed)(ia ib:Nat):Array Keyed:=out++b.extract ib b.size++a.extract ia a.size
noncomputable abbrev G5:=Option (Array Keyed)×Array Keyed×Nat×Nat×Nat
noncomputable abbrev G6:=Option (Array Keyed)×Array Keyed×Nat×Nat×Nat×Nat
noncomputable abbrev G7:=Option (Array Keyed)×Array Keyed×Nat×Nat×Nat×Nat×Nat
noncomputable def PC (a b out:Array Keyed)(ia ib mg ac bc:Nat):StateT SortSt Sem (ForInStep G7):=do
 let y <- elem' a ia
 if (ia+1+1==a.size)=true then pure (.done (some (Q6 a b (out.push y) (ia+1) ib),out.push y,ia+1,ib,mg,ac,bc))
 else if (decide (ac<7)&&decide (bc<7))=true then pure (.done (none,out.push y,ia+1,ib,mg,ac,bc)) else pure (.yield (none,out.push y,ia+1,ib,mg,ac,bc))
noncomputable def PB (a b out:Array Keyed)(ia ib mg ac bc:Nat):StateT SortSt Sem (ForInStep G7):=do
 let y <- elem' b ib
 if (ib+1==b.size)=true then pure (.done (some (JY a b (out.push y) ia (ib+1)),out.push y,ia,ib+1,mg,ac,bc))
 else do
  let z <- elem' a ia
  let x <- Il true z b (ib+1) (b.size-(ib+1)) 0
  match x with
  |some k=>if k > 0 then (if (ib+1+k==b.size)=true then pure (.done (some (JY a b (out.push y++b.extract (ib+1) (ib+1+k)) ia (ib+1+k)),out.push y++b.extract (ib+1) (ib+1+k),ia,ib+1+k,mg,ac,k)) else PC a b (out.push y++b.extract (ib+1) (ib+1+k)) ia (ib+1+k) mg ac k) else PC a b (out.push y) ia (ib+1) mg ac k
  |_=>pure (.done (some (JY a b (out.push y) ia (ib+1)),out.push y,ia,ib+1,mg,ac,bc))
noncomputable def PA (a b out:Array Keyed)(ia ib mg ac bc:Nat):StateT SortSt Sem (ForInStep G7):=do
 Ct mg
 let y <- elem' b ib
 let x <- Il false y a ia (a.size-ia) 0
 match x with
 |some k=>if k > 0 then (if (ia+k+1==a.size)=true then pure (.done (some (Q6 a b (out++a.extract ia (ia+k)) (ia+k) ib),out++a.extract ia (ia+k),ia+k,ib,mg,k,bc)) else if (ia+k==a.size)=true then pure (.done (some (JY a b (out++a.extract ia (ia+k)) (ia+k) ib),out++a.extract ia (ia+k),ia+k,ib,mg,k,bc)) else PB a b (out++a.extract ia (ia+k)) (ia+k) ib mg k bc) else PB a b out ia ib mg k bc
 |_=>pure (.done (some (JY a b out ia ib),out,ia,ib,mg,ac,bc))
noncomputable def P1 (a b:Array Keyed)(mg:Nat)(c:G6):StateT SortSt Sem (ForInStep G6):=do
 let y <- elem' b c.2.2.2.1
 let z <- elem' a c.2.2.1
 let x <- lt' y z
 match x with
 |some bWins=>
  if bWins=true then
   elem' b c.2.2.2.1 >>= fun y=>
   if (c.2.2.2.1+1==b.size)=true then pure (.done (some (JY a b (c.2.1.push y) c.2.2.1 (c.2.2.2.1+1)),c.2.1.push y,c.2.2.1,c.2.2.2.1+1,0,c.2.2.2.2.2+1))
   else if c.2.2.2.2.2+1 >= mg then pure (.done (none,c.2.1.push y,c.2.2.1,c.2.2.2.1+1,0,c.2.2.2.2.2+1)) else pure (.yield (none,c.2.1.push y,c.2.2.1,c.2.2.2.1+1,0,c.2.2.2.2.2+1))
  else
   elem' a c.2.2.1 >>= fun y=>
   if (c.2.2.1+1+1==a.size)=true then pure (.done (some (Q6 a b (c.2.1.push y) (c.2.2.1+1) c.2.2.2.1),c.2.1.push y,c.2.2.1+1,c.2.2.2.1,c.2.2.2.2.1+1,0))
   else if c.2.2.2.2.1+1 >= mg then pure (.done (none,c.2.1.push y,c.2.2.1+1,c.2.2.2.1,c.2.2.2.2.1+1,0)) else pure (.yield (none,c.2.1.push y,c.2.2.1+1,c.2.2.2.1,c.2.2.2.2.1+1,0))
 |_=>pure (.done (some (JY a b c.2.1 c.2.2.1 c.2.2.2.1),c.2.1,c.2.2.1,c.2.2.2.1,c.2.2.2.2.1,c.2.2.2.2.2))
noncomputable def P2 (a b:Array Keyed)(c:G7):StateT SortSt Sem (ForInStep G7):=if c.2.2.2.2.1 > 1 then PA a b c.2.1 c.2.2.1 c.2.2.2.1 (c.2.2.2.2.1-1) c.2.2.2.2.2.1 c.2.2.2.2.2.2 else PA a b c.2.1 c.2.2.1 c.2.2.2.1 c.2.2.2.2.1 c.2.2.2.2.2.1 c.2.2.2.2.2.2
noncomputable def PO (a b:Array Keyed)(c:G5):StateT SortSt Sem (ForInStep G5):=do
 let d <- forIn [0:a.size+b.size] ((none,c.2.1,c.2.2.1,c.2.2.2.1,0,0):G6) fun _ d=>P1 a b c.2.2.2.2 d
 match d.1 with
 |some r=>pure (.done (some r,d.2.1,d.2.2.1,d.2.2.2.1,c.2.2.2.2))
 |none=>do
  liftM (rule "list.sort.gallop")
  let e <- forIn [0:a.size+b.size] ((none,d.2.1,d.2.2.1,d.2.2.2.1,c.2.2.2.2+1,d.2.2.2.2.1,d.2.2.2.2.2):G7) fun _ e=>P2 a b e
  match e.1 with
  |some r=>pure (.done (some r,e.2.1,e.2.2.1,e.2.2.2.1,e.2.2.2.2.1))
  |none=>do
   Ct (e.2.2.2.2.1+1)
   pure (.yield (none,e.2.1,e.2.2.1,e.2.2.2.1,e.2.2.2.2.1+1))
noncomputable def JZ (a b out:Array Keyed)(na nb:Nat):Array Keyed:=a.extract 0 na++b.extract 0 nb++out.reverse
noncomputable def Nf (a b out:Array Keyed)(na nb:Nat):Array Keyed:=b.extract 0 nb++a.extract 0 na++out.reverse
noncomputable abbrev H5:=Option (Array Keyed)×Nat×Nat×Array Keyed×Nat
noncomputable abbrev H6:=Option (Array Keyed)×Nat×Nat×Array Keyed×Nat×Nat
noncomputable abbrev H7:=Option (Array Keyed)×Nat×Nat×Array Keyed×Nat×Nat×Nat
noncomputable def HC (a b out:Array Keyed)(na nb mg ac bc:Nat):StateT SortSt Sem (ForInStep H7):=do
 let y <- elem' a (na-1)
 if (na-1==0)=true then pure (.done (some (JZ a b (out.push y) (na-1) nb),na-1,nb,out.push y,mg,ac,bc))
 else if (decide (ac<7)&&decide (bc<7))=true then pure (.done (none,na-1,nb,out.push y,mg,ac,bc)) else pure (.yield (none,na-1,nb,out.push y,mg,ac,bc))
noncomputable def HB (a b out:Array Keyed)(na nb mg ac bc:Nat):StateT SortSt Sem (ForInStep H7):=do
 let y <- elem' b (nb-1)
 if (nb-1==1)=true then pure (.done (some (Nf a b (out.push y) na (nb-1)),na,nb-1,out.push y,mg,ac,bc))
 else do
  let z <- elem' a (na-1)
  let x <- Il true z b 0 (nb-1) (nb-1-1)
  match x with
  |some t=>if nb-1-t > 0 then (if (t==1)=true then pure (.done (some (Nf a b (out.push y++(b.extract t (nb-1)).reverse) na t),na,t,out.push y++(b.extract t (nb-1)).reverse,mg,ac,nb-1-t)) else if (t==0)=true then pure (.done (some (JZ a b (out.push y++(b.extract t (nb-1)).reverse) na t),na,t,out.push y++(b.extract t (nb-1)).reverse,mg,ac,nb-1-t)) else HC a b (out.push y++(b.extract t (nb-1)).reverse) na t mg ac (nb-1-t)) else HC a b (out.push y) na (nb-1) mg ac (nb-1-t)
  |_=>pure (.done (some (JZ a b (out.push y) na (nb-1)),na,nb-1,out.push y,mg,ac,bc))
noncomputable def HA (a b out:Array Keyed)(na nb mg ac bc:Nat):StateT SortSt Sem (ForInStep H7):=do
 Ct mg
 let y <- elem' b (nb-1)
 let x <- Il false y a 0 na (na-1)
 match x with
 |some t=>if na-t > 0 then (if (t==0)=true then pure (.done (some (JZ a b (out++(a.extract t na).reverse) t nb),t,nb,out++(a.extract t na).reverse,mg,na-t,bc)) else HB a b (out++(a.extract t na).reverse) t nb mg (na-t) bc) else HB a b out na nb mg (na-t) bc
 |_=>pure (.done (some (JZ a b out na nb),na,nb,out,mg,ac,bc))
noncomputable def H1 (a b:Array Keyed)(mg:Nat)(c:H6):StateT SortSt Sem (ForInStep H6):=do
 let y <- elem' b (c.2.2.1-1)
 let z <- elem' a (c.2.1-1)
 let x <- lt' y z
 match x with
 |some aWins=>
  if aWins=true then
   elem' a (c.2.1-1) >>= fun y=>
   if (c.2.1-1==0)=true then pure (.done (some (JZ a b (c.2.2.2.1.push y) (c.2.1-1) c.2.2.1),c.2.1-1,c.2.2.1,c.2.2.2.1.push y,c.2.2.2.2.1+1,0))
   else if c.2.2.2.2.1+1 >= mg then pure (.done (none,c.2.1-1,c.2.2.1,c.2.2.2.1.push y,c.2.2.2.2.1+1,0)) else pure (.yield (none,c.2.1-1,c.2.2.1,c.2.2.2.1.push y,c.2.2.2.2.1+1,0))
  else
   elem' b (c.2.2.1-1) >>= fun y=>
   if (c.2.2.1-1==1)=true then pure (.done (some (Nf a b (c.2.2.2.1.push y) c.2.1 (c.2.2.1-1)),c.2.1,c.2.2.1-1,c.2.2.2.1.push y,0,c.2.2.2.2.2+1))
   else if c.2.2.2.2.2+1 >= mg then pure (.done (none,c.2.1,c.2.2.1-1,c.2.2.2.1.push y,0,c.2.2.2.2.2+1)) else pure (.yield (none,c.2.1,c.2.2.1-1,c.2.2.2.1.push y,0,c.2.2.2.2.2+1))
 |_=>pure (.done (some (JZ a b c.2.2.2.1 c.2.1 c.2.2.1),c.2.1,c.2.2.1,c.2.2.2.1,c.2.2.2.2.1,c.2.2.2.2.2))
noncomputable def H2 (a b:Array Keyed)(c:H7):StateT SortSt Sem (ForInStep H7):=if c.2.2.2.2.1 > 1 then HA a b c.2.2.2.1 c.2.1 c.2.2.1 (c.2.2.2.2.1-1) c.2.2.2.2.2.1 c.2.2.2.2.2.2 else HA a b c.2.2.2.1 c.2.1 c.2.2.1 c.2.2.2.2.1 c.2.2.2.2.2.1 c.2.2.2.2.2.2
noncomputable def HO (a b:Array Keyed)(c:H5):StateT SortSt Sem (ForInStep H5):=do
 let d <- forIn [0:a.size+b.size] ((none,c.2.1,c.2.2.1,c.2.2.2.1,0,0):H6) fun _ d=>H1 a b c.2.2.2.2 d
 match d.1 with
 |some r=>pure (.done (some r,d.2.1,d.2.2.1,d.2.2.2.1,c.2.2.2.2))
 |none=>do
  liftM (rule "list.sort.gallop")
  let e <- forIn [0:a.size+b.size] ((none,d.2.1,d.2.2.1,d.2.2.2.1,c.2.2.2.2+1,d.2.2.2.2.1,d.2.2.2.2.2):H7) fun _ e=>H2 a b e
  match e.1 with
  |some r=>pure (.done (some r,e.2.1,e.2.2.1,e.2.2.2.1,e.2.2.2.2.1))
  |none=>do
   Ct (e.2.2.2.2.1+1)
   pure (.yield (none,e.2.1,e.2.2.1,e.2.2.2.1,e.2.2.2.2.1+1))
noncomputable def wr (a:Array Keyed)(base:Nat)(r:List Keyed)(n:Nat):Array Keyed:=(r.zipIdx n).foldl (fun a (p,j)=>a.setIfInBounds (base+j) p) a
end S64
namespace HT
theorem lexLt_trans:∀{xs ys zs:α2},lexLt xs ys=true->lexLt ys zs=true->lexLt xs zs=true
 |[],[],_,h,_=>by cases h
 |_::_,[],_,h,_=>by cases h
 |_,_::_,[],_,h=>by cases h
 |[],_::_,_::_,_,_=>rfl
 |x::xs,y::ys,z::zs,h,g=>by
  rw[lexLt_cons]at h g ⊢
  by_cases e1:x=y
  ·rw[if_pos e1]at h
   by_cases e2:y=z
   ·rw[if_pos e2]at g;rw[if_pos (e1.trans e2)];exact lexLt_trans h g
   ·rw[if_neg e2]at g;rw[if_neg (e1 ▸ e2),e1];exact g
  ·rw[if_neg e1]at h
   by_cases e2:y=z
   ·rw[if_neg (e2 ▸ e1),<-e2];exact h
   ·rw[if_neg e2]at g
    have:=xo_ h
    have:=xo_ g
    rw[if_neg s!""]
    exact qv_ s!""
end HT
namespace S64
open PySem PyProof.Rows L2
noncomputable abbrev Wd:=Addr×α2
noncomputable def wv (ws:List Wd):List V:=ws.map fun w=>V.ref w.1
noncomputable def wu (ws:List Wd):List Value:=ws.map fun w=>Value.ref w.1
theorem Bu:∀{ts:List Addr} {us:List Value},Vals (ts.map V.ref) us->us=ts.map Value.ref
 |[],_,h=>by cases h;rfl
 |t::ts,_,h=>by
  cases h with
  |cons e r=>
   have e':_=Value.ref t:=e
   rw[Bu r,e'];rfl
noncomputable def WsOk (K:α3)(H:Hp)(ws:List Wd):Prop:=∀w∈ws,SqT K H w.1 (w.2.map V.int)
section
variable {X:Cx} {pins:α7} {σ:L2.St} {H H0:Hp} {s:Shared} {A:Around} {E:Value->Shared->Prop} {ws:List Wd} {ts:List Addr} {a kT:Addr} {e1:Nat} {P:PySem.Fin->Shared->Prop} {f:Value}
noncomputable def Turn (X:Cx)(pins:α7)(σ:L2.St)(A:Around)(f:Value)(ws:List Wd)(H0:Hp):Prop:=∀w∈ws,∀(H':Hp) (s':Shared),Inv X pins σ H' s'->Same H0 H' ->
 wpAny (model X.prog X.w) A (call f [.ref w.1]) (EP X pins σ (fun k H''=>∃t,k=.ref t/\Same H' H''/\SqT X.K H'' t [.int w.2.length,.ref w.1])) (fun _ _=>False) s'
end
end S64
namespace L2
open PySem PySem.Spec PyProof.Rows
theorem Qa   {K:α3}
               (S:FnScope N ps scope) (hr:Room (k+1) A) (e0:Env0 P w K mg base A outer s H)
    (ho:s.heap.get? f=some (PySem.W.kla_obj name qual params body scope [] pm c' ctv)) (hcd:s.heap.CodeRec (.ref c') qual) (hb:bindArgs (PySem.W.kla_fn name qual params body scope [] pm (.ref c') ctv) args=pure (ps.zip us)) (r:Vals vs us) (hl:vs.length=ps.length)
    (ht:PE (cxOf CX0 P w K mg base N qual scope f (.ref c') A outer s H E).nox body t) (hq:t (start N vs) H Q):codeAny (model P w) A (.call (.ref f) args) (CR CX0 outer P w H s Q E) s:=by
  have lim:s.heap.NoLimit:=e0.mod.nolimit.keeps fun b o e=>(e0.bs b o e).1
  have hkind:∀y∈ps.zip us,scope.names.lookup y.1=some .local\/(scope.names.lookup y.1=some .cell/\((cellsFrom (s.heap.objs.size+1) scope.names []).lookup y.1).isSome=true):=fun ⟨n,v⟩ hy=>by
    rcases S.par n (x6_ hy).1 with q|q
    . exact .inl q
    . exact .inr ⟨q,xI_ _ _ _ (.inl q)⟩
  refine PySem.W.kla_callFunE hr.depth ho rfl S.co S.gen rfl hcd ?_
  rw[hb]
  refine jo_ ?_
  refine wpAny_newFunctionEnv_cells S.kind hkind fun env he s1 x=>?_
  subst he
  refine⟨lim.keeps x.toInCall.keep,PySem.W.kla_codeExpr ?_⟩
  have I:Inv (cxOf CX0 P w K mg base N qual scope f (.ref c') A outer s H E) [] (start N vs) H s1:=IZ S hr.hd e0 hl r x
  refine qz_ (ht [] s1 (start N vs) H _ (I.wish _) hq) (fun u s' hs=>?_) fun e s' hs=>hs.elim
  obtain⟨v,H',J,rv,q⟩:=hs
  have J':=J.unwish
  exact⟨v,H',J'.os,J'.bare,J'.base,J'.hok,rv,q⟩
noncomputable def BmOk (mg:Str->α5)(base:Heap):Prop:=∃bm ob,mg "__builtins__"=some (.ref bm)/\bm≠builtinsNs/\base.get? bm=some ob/\ob.cls=.type "module" /\ ob.dict=some builtinsNs/\ob.data=.plain
noncomputable def tabC (K:α3)(x:Str):Addr:=((PySem.W.tabIn K x).getD (0,0)).1
noncomputable def tabP (K:α3)(x:Str):Addr:=((PySem.W.tabIn K x).getD (0,0)).2
theorem J3 {K:α3}   (h:PySem.W.tabIn K x=some (c,T)):tabC K x=c:=by unfold tabC;rw[h];rfl
theorem GK {K:α3}   (h:PySem.W.tabIn K x=some (c,T)):tabP K x=T:=by unfold tabP;rw[h];rfl
theorem KO {K:α3}      {sl sl2:Array (α5)}  (a:nsIn K mainGlobals x=some (some (.ref f)))(l:K.lookup f=some ⟨oc,od,.func fd,sl⟩)(hc:fd.code=.ref c)
  (lc:K.lookup c=some ⟨oc2,od2,.fields vs,sl2⟩) (h:vs[11]?=some (.ref T)):PySem.W.tabIn K x=some (c,T):=by
 unfold PySem.W.tabIn
 rw[a]
 dsimp only
 rw[l]
 dsimp only
 rw[hc]
 dsimp only
 rw[lc]
 dsimp only
 rw[h]
structure FunL (K:α3)(mg:Str->α5)(base:Heap)(x qual:Str)(st:Stmt)(f:Addr)(fd:α6):Prop where
 ex:∃(oc:Value) (od:Option Addr) (kV doc pm:Value) (an:Option Addr) (ct:Value) (osl:Array (α5)),
  fd=fnOf x qual (C4 st) (BU st) (Ao st) .none kV doc pm an (.ref (tabC K x)) ct/\K.lookup f=some ⟨oc,od,.func fd,osl⟩/\codeIn K (.ref (tabC K x)) qual=true
 C:PySem.W.CodeHd base (tabC K x) (tabP K x)
 B:BmOk mg base
section
variable {P:Program} {w:World} {K:α3} {mg:Str->α5} {base:Heap}
theorem FunL.ok  {st:Stmt}      (F:FunL K mg base x qual st f fd)(S:FnScope N ps (Ao st))(len:∀vs H Q E,sp vs H Q E->vs.length=ps.length)
  (hbody:∀(cdv:Value) (hcd:cdv=.ref (tabC K x)) (A:Around) (outer:List Env) (s:Shared) (H:Hp) (vs:List V) (Q:VK) (E:XK),Room k (A.deeper (envOfC qual (Ao st) s.heap.objs.size f cdv))->sp vs H Q E ->
   ∃t,PSs (cxOf CX0 P w K mg base N qual (Ao st) f cdv A outer s H E).nox (BU st) t/\t {nx:=fun _ H'=>Q .non H',rt:=Q} (start N vs) H):FnOk P w K mg base CX0 (k+1) f fd ps sp:=by
 obtain⟨oc,od,kV,doc,pm,an,ct,osl,rfl,lk,hcd⟩:=F.ex
 refine Qs lk hcd S len fun A outer s H vs Q E hr hsp=>?_
 obtain⟨t,h,q⟩:=hbody _ rfl A outer s H vs Q E hr hsp
 exact⟨t,h.nox,q⟩
theorem Ng  {st:Stmt}     {kV doc pm ct:Value}(ti:PySem.W.tabIn K x=some (c,T))(l:K.lookup f=some ⟨oc,od,.func (fnOf x qual (C4 st) (BU st) (Ao st) .none kV doc pm an (.ref c) ct),osl⟩)
  (hc:codeIn K (.ref c) qual=true) (C:PySem.W.CodeHd base c T) (B:BmOk mg base):FunL K mg base x qual st f (fnOf x qual (C4 st) (BU st) (Ao st) .none kV doc pm an (.ref c) ct):=
 ⟨⟨oc,od,kV,doc,pm,an,ct,osl,by rw[J3 ti],l,by rw[J3 ti];exact hc⟩,by rw[J3 ti,GK ti];exact C,B⟩
end
end L2
namespace L2
open PySem PySem.Spec PyProof.Rows S64
noncomputable def AY (T:Addr)(H H':Hp):Prop:=∀b o,b≠T->H b=some o->H' b=some o
noncomputable def LamT (T:Addr)(lp:Pos)(qual:Str)(H:Hp):Prop:=H T=some (.tbl #[]) \/ ∃(c':Addr) (oc:Obj) (vs:Array Value) (t:Tok),H T=some (.tbl #[rawInt lp.line,rawInt lp.col,.ref c'])/\H c'=some (.frz oc (.own 0))/\oc.data=.fields vs/\vs[1]?=some (.str (qual ++ "<lambda>") t)
theorem LamT.is     (h:LamT T lp qual H):∃ps,H T=some (.tbl ps):=by
 rcases h with h|⟨_,_,_,_,h,_⟩
 ·exact⟨_,h⟩
 ·exact⟨_,h⟩
theorem LamT.mono     (h:LamT T lp qual H)(s:Same H H'):LamT T lp qual H':=by
 rcases h with h|⟨c',oc,vs,t,h,h2,h3,h4⟩
 ·exact .inl (s _ _ h)
 ·exact .inr ⟨c',oc,vs,t,s _ _ h,s _ _ h2,h3,h4⟩
theorem AY.of   (s:Same H H'):AY T H H':=fun b o _ e=>s b o e
theorem AY.trans   (s:AY T H H')(s':AY T H' H''):AY T H H'':=fun b o hb e=>s' b o hb (s b o hb e)
theorem AY.ne   (s:AY T H H')   (e:H b=some o)(ho:∀ps,o ≠ .tbl ps)  (hT:H T=some (.tbl ps)):H' b=some o:=s b o (fun z=>by subst z;rw[hT]at e;cases e;exact ho _ rfl) e
theorem AY.tsq {K:α3}   (s:AY T H H')  (hT:H T=some (.tbl ps))   (h:SqT K H b ys):SqT K H' b ys:=by
 rcases h with h|h
 ·left
  rcases h with h|⟨o,h⟩
  ·exact .inl (s.ne h (fun _ z=>by cases z) hT)
  ·exact .inr ⟨o,s.ne h (fun _ z=>by cases z) hT⟩
 ·exact .inr h
theorem AY.lsq {K:α3}   (s:AY T H H')  (hT:H T=some (.tbl ps))   (h:SqL K H b ys):SqL K H' b ys:=by
 rcases h with h|h
 ·left
  rcases h with h|⟨o,h⟩
  ·exact .inl (s.ne h (fun _ z=>by cases z) hT)
  ·exact .inr ⟨o,s.ne h (fun _ z=>by cases z) hT⟩
 ·exact .inr h
section
variable {X:Cx} {pins:α7} {σ:St} {H:Hp} {s:Shared}
theorem Inv.tabK      (I:Inv X pins σ H s)(hP:H P=some (.tbl ps))(k:∀b o,b≠P->s.heap.get? b=some o->h'.get? b=some o)(e:h'.get? P=some (PySem.W.tabObj (ps++ps')))
  (hc:s.heap.objs.size<=c') (hoc:h'.get? c'=some oc):Inv X pins σ (upd (upd H P (.tbl (ps++ps'))) c' (.frz oc (.own 0))) {s with heap:=h',toks:=t' }:=by
 have nP:∀b,H b=none->b≠P:=fun b n z=>by subst z;rw[hP]at n;cases n
 have nP2:∀b u,H b=some u->(∀qs,u ≠ .tbl qs)->b≠P:=fun b u q hu z=>by subst z;rw[hP]at q;cases q;exact hu _ rfl
 have nC:∀b u,H b=some u->b≠c':=fun b u q z=>by subst z;rw[I.hok.fresh hc]at q;cases q
 have nC2:∀b o,s.heap.get? b=some o->b≠c':=fun b o q z=>by subst z;exact absurd (jy_ q) (zk_.mpr hc)
 refine I.un ⟨fun b o q n _ _=>k b o (nP b n) q,fun b o q n _ _=>⟨o.slots,k b o (nP b n) q⟩,fun b o q n _=>by rw[Ag (nC2 b o q),Ag (nP b n)];exact n,fun b o q _=>?_,fun b xs q=>?_,fun b o u q=>?_,fun b qs q=>?_⟩ (fun b u q=>?_)
 ·by_cases hb:b=P
  ·subst hb;exact⟨_,e⟩
  ·exact⟨o,k b o hb q⟩
 ·rw[Ag (nC b _ q),Ag (nP2 b _ q (fun _ z=>by cases z))];exact q
 ·rw[Ag (nC b _ q),Ag (nP2 b _ q (fun _ z=>by cases z))];exact q
 ·by_cases hb:b=P
  ·subst hb;rw[hP]at q;cases q;exact⟨ps',by rw[Ag (nC b _ hP)];exact Ab⟩
  ·rw[Ag (nC b _ q),Ag hb];exact⟨#[],by rw[q];simp⟩
 ·by_cases hbc:b=c'
  ·subst hbc;rw[Ab]at q;cases q;exact⟨hoc,_,hoc⟩
  rw[Ag hbc]at q
  by_cases hb:b=P
  ·subst hb;rw[Ab]at q;cases q;exact e
  ·rw[Ag hb]at q
   refine (I.hok b u q).stay (fun c v hc r=>k c v ?_ r) (fun c r=>by rw[Ag (nC c _ r),Ag (nP2 c _ r (fun _ z=>by cases z))];exact r) fun c xs r=>by rw[Ag (nC c _ r),Ag (nP2 c _ r (fun _ z=>by cases z))];exact r
   rcases hc with rfl|hc
   ·exact hb
   ·exact nP2 c _ hc (fun _ z=>by cases z)
theorem Jp          (I:Inv X pins σ H s)(hcode:X.env.code=.ref c)(C:PySem.W.CodeHd X.base c P)(hL:LamT P pos X.env.qual H)
  (hb:BmOk X.mg X.base) (hcl:closureFor scope X.env=pure []) (hdef:defaultsOf params X.env=([],[]))
  (h:∀(f c':Addr) (oc:Obj) (vs:Array Value) (t:Tok) (ctv:Value) (H':Hp) (s':Shared),Inv X (pins++[(f,PySem.W.kla_obj "<lambda>" (X.env.qual ++ "<lambda>") params body scope [] ((X.mg "__name__").getD .none) c' ctv)]) σ H' s'->AY P H H'->H' P=some (.tbl #[rawInt pos.line,rawInt pos.col,.ref c'])->H' c'=some (.frz oc (.own 0))->oc.data=.fields vs->vs[1]?=some (.str (X.env.qual ++ "<lambda>") t)->Q (.ref f) s'):
  wpAny M A (eval (.Lambda params body scope pos) X.env) Q E s:=by
 obtain⟨ps,hP⟩:=hL.is
 obtain⟨bm,ob,b1,b2,b3,b4,b5,b6⟩:=hb
 have hg:s.heap.Ns mainGlobals X.mg:=I.mod.glob.keeps I.bk
 have eP:s.heap.get? P=some (PySem.W.tabObj ps):=I.hok P _ hP
 have nb:∀b o,X.base.get? b=some o->b≠P:=fun b o e z=>by subst z;have:=(I.bs b o e).2;rw[hP]at this;cases this
 have hgP:mainGlobals≠P:=by
  obtain⟨o,es,ep,e,_⟩:=I.mod.glob
  exact nb _ _ e
 have hbG:bm≠mainGlobals:=fun q=>by
  obtain⟨o,es,ep,e,hd,_⟩:=I.mod.glob
  rw[q,e]at b3;cases b3;rw[hd]at b6;cases b6
 refine PySem.W.kla_eval hdef ?_
 rcases hL with hL|⟨c',oc,vs,t,h1,h2,h3,h4⟩
 ·have:ps = #[]:=by rw[hL]at hP;cases hP;rfl
  subst this
  refine PySem.W.kla_makeFunction (mg:=X.mg) hcl I.ok.glob hg hcode (C.keeps I.bk) eP (by trivial) rfl hgP ⟨bm,ob,b1,b2,hbG,nb _ _ b3,I.bk _ _ b3,b4,b5,b6⟩ fun c' ctv h' tk hx hge hlt hrec htb=>?_
  obtain⟨c₂,oc,vs,t,e2,hoc,hd,hv⟩:=hrec
  cases e2
  have I1:=I.tabK (t':=tk) (h':=h'.push (PySem.W.kla_obj "<lambda>" (X.env.qual ++ "<lambda>") params body scope [] ((X.mg "__name__").getD .none) c' ctv)) hP (fun b o hb e=>jm_ _ (hx b o hb e)) (jm_ _ htb) hge (jm_ _ hoc)
  have hsz:s.heap.objs.size<=h'.objs.size:=qG_ hge (qY_ hlt)
  have hcP:P≠c':=fun z=>by subst z;exact absurd (jy_ eP) (zk_.mpr hge)
  refine h h'.objs.size c' oc vs t ctv _ _ (I1.pins_of fun p hp=>?_) (fun b o hb e=>?_) ((Ag hcP).trans Ab) Ab hd hv
  ·rcases jj_.mp hp with hp|hp
   ·exact I1.pin p (jk_ _ hp)
   ·rw[jb_.mp hp]
    refine⟨jE_ _ rfl,?_,fun z=>?_,I.nofs hsz,fun v z=>by cases z⟩
    ·rw[Ag (fun z=>absurd hlt (by dsimp only at z;rw[z];exact qi_ _)),Ag (fun z=>by dsimp only at z;subst z;exact absurd (jy_ eP) (zk_.mpr hsz))]
     exact I.hok.fresh hsz
    ·dsimp only at z
     have:=I.lt
     rw[<-z]at this
     exact absurd this (zk_.mpr hsz)
  ·rw[Ag (fun z=>by subst z;rw[I.hok.fresh hge]at e;cases e),Ag hb];exact e
 ·have:ps = #[rawInt pos.line,rawInt pos.col,.ref c']:=by rw[h1]at hP;cases hP;rfl
  subst this
  refine PySem.W.kla_makeFunctionHit (mg:=X.mg) (cv:=.ref c') hcl I.ok.glob hg hcode (C.keeps I.bk) eP (by trivial) (by simp[codeAmong,rawInt]) ⟨bm,ob,b1,b2,hbG,nb _ _ b3,I.bk _ _ b3,b4,b5,b6⟩ fun ctv h' tk hk hsz=>?_
  have I1:=I.kept (t':=tk) (h':=h'.push (PySem.W.kla_obj "<lambda>" (X.env.qual ++ "<lambda>") params body scope [] ((X.mg "__name__").getD .none) c' ctv)) (fun b o e=>jm_ _ (hk b o e))
  refine h h'.objs.size c' oc vs t ctv _ _ (I1.pins_of fun p hp=>?_) (fun b o hb e=>e) h1 h2 h3 h4
  rcases jj_.mp hp with hp|hp
  ·exact I1.pin p (jk_ _ hp)
  ·rw[jb_.mp hp]
   refine⟨jE_ _ rfl,I.hok.fresh hsz,fun z=>?_,I.nofs hsz,fun v z=>by cases z⟩
   dsimp only at z
   have:=I.lt
   rw[<-z]at this
   exact absurd this (zk_.mpr hsz)
end
end L2
namespace L2
open PySem PySem.Spec PyProof.Rows
structure Cal (P:Program)(w:World)(K:α3)(mg:Str->α5)(base:Heap)(CX:CXT)(k:Nat)(x:Str)(st:Stmt)(ps:List Str)(sp:Sp)(f:Addr)(fd:α6):Prop where
 g:FnOk P w K mg base CX k f fd ps sp
 F:Fun K x x st f fd
 b:IT K fd ps []
 m:mg x=some (.ref f)
theorem Room.d   (r:Room k A)(h:j<=k:=by decide):Room j A:=r.mono h
theorem Ak          {st:Stmt}     (q:Cal X.prog X.w X.K X.mg X.base CX k x st ps sp f fd)(hr:Room k X.A)(hx:IU CX X E)
  (ha:PA X (e::es) t) (hg:Gl X x:=by rfl) (hdb:(x==("__debug__" : Str))=false:=by decide) (he:starEach (e::es) X.env=(false,eval e X.env)::starEach es X.env:=by rfl) (hpl:(backTo pos (starEach es X.env)).any (·.1)=false:=by rfl):
  PE X (.Call (.Name x p) (e::es) [] pos) (Qq sp [] E t):=Qr q.g hr hg q.m q.F.kp q.b .nil hx ha hdb he hpl
noncomputable abbrev HA (K:α3)(x:Str)(f:Addr):Prop:=nsIn K mainGlobals x=some (some (.ref f))
noncomputable abbrev HL (K:α3)(x:Str)(st:Stmt)(f:Addr)(oc:Value)(od:Option Addr)(kV dc pm:Value)(an:Option Addr)(cd ct:Value)(sl:Array (α5)):Prop:=K.lookup f=some ⟨oc,od,.func (fnOf x x (C4 st) (BU st) (Ao st) .none kV dc pm an cd ct),sl⟩
structure HF (K:α3)(x:Str)(st:Stmt)(f:Addr)(fd:α6):Prop where
 a:nsIn K mainGlobals x=some (some (.ref f))
 F:Fun K x x st f fd
structure Wh (P:Program)(w:World)(K:α3)(mg:Str->α5)(base:Heap):Prop where
 m:∀(x:Str) (f:Addr),nsIn K mainGlobals x=some (some (.ref f))->mg x=some (.ref f)
theorem HF.c   {K:α3}      {st:Stmt}     (h:HF K x st f fd)(Z:Wh P w K mg base)(g:FnOk P w K mg base CX k f fd ps sp)
  (e:∀(kV doc pm:Value) (an:Option Addr) (cdv ct:Value) (us:List Value),us.length=ps.length->bindArgs (fnOf x x (C4 st) (BU st) (Ao st) .none kV doc pm an cdv ct) ⟨us,[]⟩=pure (ps.zip us):=by
   intro _ _ _ _ _ _ us hl;first|(obtain⟨_,rfl⟩:=len1 hl;rfl)|(obtain⟨_,_,rfl⟩:=len2 hl;rfl)|(obtain⟨_,_,_,rfl⟩:=len3 hl;rfl)|(obtain⟨_,_,_,_,rfl⟩:=len4 hl;rfl)):Cal P w K mg base CX k x st ps sp f fd:=⟨g,h.F,h.F.binds e,Z.m _ _ h.a⟩
theorem HF.b {K:α3}  {st:Stmt}   (h:HF K x st f fd)(e:∀(kV doc pm:Value) (an:Option Addr) (cdv ct v:Value),bindArgs (fnOf x x (C4 st) (BU st) (Ao st) .none kV doc pm an cdv ct) ⟨[v],[]⟩=pure [(p,v)])(s:Shared)(v:Value):BindsTo s fd ⟨[v],[]⟩ [(p,v)]:=by
 obtain⟨_,_,_,_,_,_,_,_,_,rfl,_,_⟩:=h.F.ex
 exact .of_eq (e _ _ _ _ _ _ _)
theorem Lx  {K:α3}(h:X.K=K):OpR X (compareOp .In) (rIn K false):=by subst h;exact Gv
end L2
namespace L2
open PySem PySem.Spec PyProof.Rows S64
theorem Lz  (h1:GW.lessW x y=true)(h2:GW.lessW y z=true):GW.lessW x z=true:=by
 unfold GW.lessW at *
 by_cases a:x.length=y.length
 ·rw[if_pos a]at h1
  by_cases b:y.length=z.length
  ·rw[if_pos b]at h2
   rw[if_pos (a.trans b)]
   exact HT.lexLt_trans h1 h2
  ·rw[if_neg b,jN_]at h2
   rw[if_neg s!"",jN_];lia
 ·rw[if_neg a,jN_]at h1
  by_cases b:y.length=z.length
  ·rw[if_neg s!"",jN_];lia
  ·rw[if_neg b,jN_]at h2
   rw[if_neg s!"",jN_];lia
theorem KQ  : GW.lessW x x=false:=by
 unfold GW.lessW
 rw[if_pos rfl]
 exact Jn
theorem OD (x y:α2):decide ((x.length:Int)<y.length\/((x.length:Int)=y.length/\HT.lexLt x y=true))=GW.lessW x y:=by
 unfold GW.lessW
 rw[qj_,jN_]
 by_cases a:x.length=y.length
 ·rw[if_pos a]
  constructor
  ·rintro (h|⟨_,h⟩)
   ·lia
   ·exact h
  ·exact fun h=>.inr ⟨by lia,h⟩
 ·rw[if_neg a,jN_]
  constructor
  ·rintro (h|⟨h,_⟩)<;>lia
  ·exact fun h=>.inl s!""
theorem SS            (hu:A.units+8<cLine)(I:Inv X pins σ H s)
  (ha:SqT X.K H a [.int n,.ref ta]) (hb:SqT X.K H b [.int m,.ref tb]) (hta:SqT X.K H ta (xs.map V.int)) (htb:SqT X.K H tb (ys.map V.int)) (hc:n≠m\/(n=m/\xs.length=ys.length/\xs≠ys))
  (q:Q (.bool (decide (n<m\/(n=m/\HT.lexLt xs ys=true)))) s):wpAny (model X.prog X.w) A (richCompare .Lt (.ref a) (.ref b)) Q E s:=by
 obtain⟨its,r1,p1,_⟩:=I.tuple ha
 obtain⟨its2,r2,p2,_⟩:=I.tuple hb
 obtain⟨jts,k1,o1,_⟩:=I.tuple hta
 obtain⟨jts2,k2,o2,_⟩:=I.tuple htb
 have i1:IntsAre jts.toArray.toList xs:=intsAre_of k1
 have i2:IntsAre jts2.toArray.toList ys:=intsAre_of k2
 have eqT:=fun (bb:Bool) (he:EqD X.K H 2 (.ref ta) (.ref tb) bb)=>(EqD.at (x:=V.ref ta) (y:=V.ref tb) (u:=Value.ref ta) (v:=Value.ref tb) I 2 A.in1 (by rw[in1_units];lia) rfl rfl he).1
 cases r1 with
 |cons e1 r1'=>cases r1' with
  |cons e2 r1''=>cases r1'';cases r2 with
   |cons e3 r2'=>cases r2' with
    |cons e4 r2'' =>
     cases r2''
     obtain⟨t1,rfl⟩:=e1
     obtain⟨t2,rfl⟩:=e3
     cases e2
     cases e4
     refine HT.lt_tupD (r:=decide (n<m\/(n=m/\HT.lexLt xs ys=true))) p1 p2 ?_ s!"" _ _ _ _ q
     obtain⟨e,he,hiff⟩:=HT.eqAt_int A.in1 s n t1 m t2
     rcases hc with hc|⟨rfl,hlen,hne⟩
     ·cases e with
      |true=>exact absurd (hiff.mp rfl) hc
      |false=>
       refine .ne he fun prog w E Q hq=>HT.rcLt_intD _ s n t1 m t2 prog w E Q ?_
       have ee:decide (n<m\/(n=m/\HT.lexLt xs ys=true))=decide (n<m):=by
        rw[qj_,jN_,jN_]
        constructor
        ·rintro (h|⟨h,_⟩)
         ·exact h
         ·exact absurd h hc
        ·exact .inl
       rw[ee]at hq
       exact hq
     ·cases e with
      |false=>exact absurd (hiff.mpr rfl) jn_
      |true=>
       have ee:decide (n<n\/(n=n/\HT.lexLt xs ys=true))=HT.lexLt xs ys:=by
        rw[qj_,jN_]
        constructor
        ·rintro (h|⟨_,h⟩)
         ·lia
         ·exact h
        ·exact fun h=>.inr ⟨rfl,h⟩
       rw[ee]
       refine .eq he (.ne (eqT false ?_) ?_)
       ·have:=EqD.ints (K:=X.K) (H:=H) (a:=ta) (c:=tb) (xs:=xs) (ys:=ys) (.inr ⟨hta,htb⟩) 1
        rw[j3_ hne]at this
        exact this
       ·exact HT.lt_tupD o1 o2 (HT.LtD.ints i1 i2 hlen hne) (by rw[in1_units];lia)
section
variable {X:Cx} {pins:α7} {σ:L2.St} {A:Around}
theorem Inv.turnedF  {it:Addr}    (I:Inv X pins σ H s)(k:∀b o,b≠it->s.heap.get? b=some o->h'.get? b=some o)(f:FpOk X pins H it):Inv X pins σ H {s with heap:=h',toks:=t' }:=I.turned k f.1 f.2.1 f.2.2.2.1 f.2.2.2.2.1 f.2.2.2.2.2
theorem Q7  {its:List Value}(r:Vals (wv ws) its):its=wu ws:=by
 have:Vals ((ws.map (·.1)).map V.ref) its:=by rw[xB_];exact r
 rw[Bu this,xB_];rfl
theorem Nh  {q It S l:Addr}    (hh:A.handled=none)(hu:A.units+10<cLine)(nd:(ws.map (·.2)).Nodup)
  (hl:SqL X.K H0 l (wv ws)) (hW:WsOk X.K H0 ws) (hS0:H0 S=none) (hSI:S≠It)
  (hT:∀pl,S64.Turn X (pins++pl) σ A.in1 (.ref q) ws H0)
  (hR:∀s' H' w,Inv X pins σ H' s'->Same H0 H'->w∈ws->(∀v∈ws,GW.lessW v.2 w.2=false)->R (.ok (.ret (.ref w.1))) s'):
  ∀(r j:Nat) (H:Hp) (s:Shared) (t:Addr) (w:Wd),ws.length-j=r->j<=ws.length->Inv X pins σ H s->Same H0 H->FpOk X pins H It->s.heap.IsListIter It l j->H S=some (.lst [.ref w.1,.ref t])->SqT X.K H t [.int w.2.length,.ref w.1]->w∈ws.take j->(∀v∈ws.take j,GW.lessW v.2 w.2=false) ->
   codeAny (model X.prog X.w) A (.builtin "min.loop" ⟨[.ref It,.ref q,.ref S],[("default",dv)]⟩) R s:=by
 have hname:(toString "min" ++ toString ".loop" : String) = "min.loop" := by decide
 intro r
 induction r with
 |zero=>
  intro j H s t w hr hj I hs fp hit hS ht hw hb
  have hjn:j=ws.length:=by lia
  obtain⟨its,r',pl,_⟩:=I.list (hs.seq hl)
  cases Q7 r'
  obtain⟨_,jts,n,rv,_,hoS⟩:=I.lstM hS
  have hjt:jts=[.ref w.1,.ref t]:=Bu (ts:=[w.1,t]) rv
  subst hjt
  refine qt_ qI_ ?_
  rw[qa_ jV_ _]
  show wpAny _ A.in1 (seqItems? (.ref S) >>= _) _ _ _
  refine je_ (q3_ hoS rfl ?_)
  show wpAny _ A.in1 (tryCatch (pyNext (.ref It)) _ >>= _) _ _ _
  refine je_ (qq_ (qZ_ (A:=A.in1) hh hit pl.isList (by simp[wu,hjn]) fun h' he'=>?_))
  have I1:=I.turnedF (t':=s.toks) (h':=h') (fun b o hb e=>he' b o hb e) fp
  have hoS':=he' S _ hSI hoS
  show wpAny _ A.in1 (updateSeq S (fun _ => #[]) >>= _) _ _ _
  refine je_ ?_
  refine qT_ hoS' rfl (je_ (xx_ (jo_ ?_)))
  rw[hjn,jL_]at hw hb
  exact hR _ _ w (I1.lset (its':=[]) hS hoS' rfl .nil (j1_ _)) (hs.over hS0) hw hb
 |succ r ih=>
  intro j H s t w hr hj I hs fp hit hS ht hw hb
  have hlt:j<ws.length:=by lia
  obtain⟨its,r',pl,_⟩:=I.list (hs.seq hl)
  cases Q7 r'
  obtain⟨_,jts,n,rv,_,hoS⟩:=I.lstM hS
  have hjt:jts=[.ref w.1,.ref t]:=Bu (ts:=[w.1,t]) rv
  subst hjt
  refine qt_ qI_ ?_
  rw[qa_ jV_ _]
  show wpAny _ A.in1 (seqItems? (.ref S) >>= _) _ _ _
  refine je_ (q3_ hoS rfl ?_)
  show wpAny _ A.in1 (tryCatch (pyNext (.ref It)) _ >>= _) _ _ _
  refine je_ (qq_ (qV_ (A:=A.in1) (x:=.ref ws[j].1) hit pl.isList (by simp[wu,hlt]) fun h' hit' hs'=>?_))
  have I1:=I.turnedF (t':=s.toks) (h':=h') (fun b o hb e=>hs'.extBut b o hb e) fp
  obtain⟨oI,hoI,hoc,hod⟩:=id hit'
  have I1p:=I1.pinned (fp:=[It]) (fun b hb=>by rw[jb_.mp hb];exact fp) (fun b hb=>by rw[jb_.mp hb];exact⟨oI,hoI,fun v z=>by rw[hod]at z;cases z⟩)
  have hvm:ws[j]∈ws:=jB_ hlt
  show wpAny _ A.in1 (tryCatch (holding [.ref ws[j].1] (call (.ref q) [.ref ws[j].1])) _ >>= _) _ _ _
  refine je_ (qq_ (qd_ (qz_ (hT _ ws[j] hvm H _ I1p hs) (fun x s'' he=>?_) fun _ _ hF=>hF.elim)))
  obtain⟨k,H2,I2,rk,t2,rfl,s2,ht2⟩:=he
  cases rk
  have hpin:=I2.pin (It,oI) (jk_ _ (jk_ _ (BE jv_ hoI)))
  have I3:=I2.unpinned
  have hS2:=s2 _ _ hS
  have hs2:=hs.trans s2
  have fp2:FpOk X pins H2 It:=⟨hpin.2.1,fp.2⟩
  obtain⟨_,jts2,n2,rv2,_,hoS2⟩:=I3.lstM hS2
  have hjt2:jts2=[.ref w.1,.ref t]:=Bu (ts:=[w.1,t]) rv2
  subst hjt2
  have hwm:w∈ws:=xr_ hw
  have hne:ws[j].2≠w.2:=fun z=>by
   obtain⟨i,hi,e⟩:=jT_.mp hw
   rw[j5_]at hi
   have e':ws[i]=w:=by rw[<-e,List.getElem_take]
   have:=(xX_ (xs:=ws.map (·.2)) (i:=j) (j:=i) (h₀:=by rw[jd_];exact hlt) (h₁:=by rw[jd_];lia) nd).mp (by rw[List.getElem_map,List.getElem_map,e',z])
   lia
  have hc:(ws[j].2.length:Int)≠w.2.length\/((ws[j].2.length:Int)=w.2.length/\ws[j].2.length=w.2.length/\ws[j].2≠w.2):=by
   by_cases e:ws[j].2.length=w.2.length
   ·exact .inr ⟨by lia,e,hne⟩
   ·exact .inl s!""
  show wpAny _ A.in1 (tryCatch (holding [.ref ws[j].1,.ref t2] (richCompare .Lt (.ref t2) (.ref t) >>= _)) _ >>= _) _ _ _
  refine je_ (qq_ (qd_ (je_ (SS (A:=A.in1) (by rw[in1_units];lia) I3 ht2 (s2.seqT ht) (hs2.seqT (hW _ hvm)) (hs2.seqT (hW _ hwm)) hc ?_))))
  rw[OD]
  refine je_ (qd_ (qS_ ?_))
  refine je_ (xx_ (jo_ ?_))
  have et:ws.take (j+1)=ws.take j++[ws[j]]:=by rw[jF_,ja_ hlt];rfl
  cases hb':GW.lessW ws[j].2 w.2 with
  |true=>
   simp only[zi_]
   refine je_ ?_
   refine qT_ hoS2 rfl (je_ (xx_ ?_))
   rw[hname]
   have I4:=I3.lset (t':=s''.toks) (f:=fun _ => #[.ref ws[j].1,.ref t2]) (its':=[.ref ws[j].1,.ref t2]) (ys:=[.ref ws[j].1,.ref t2]) hS2 hoS2 rfl (.cons rfl (.cons rfl .nil)) (by show 2<=sizeLine;decide)
   refine jo_ ⟨qM_ jV_ _,ih (j+1) _ _ t2 ws[j] s!"" hlt I4 (hs2.over hS0) ⟨by rw[Ag hSI.symm];exact fp2.1,fp2.2⟩ ⟨oI,(j9_ _ _ hSI).trans hpin.1,hoc,hod⟩ Ab ?_ (by rw[et];exact jk_ _ (jb_.mpr rfl)) fun v hv=>?_⟩
   ·rcases ht2 with ht2|ht2
    ·left
     rcases ht2 with ht2|⟨o,ht2⟩
     ·exact .inl (by rw[Ag (fun z=>by rw[z,hS2]at ht2;cases ht2)];exact ht2)
     ·exact .inr ⟨o,by rw[Ag (fun z=>by rw[z,hS2]at ht2;cases ht2)];exact ht2⟩
    ·exact .inr ht2
   ·rw[et]at hv
    rcases jj_.mp hv with hv|hv
    ·cases hq:GW.lessW v.2 ws[j].2 with
     |false=>rfl
     |true=>have:=Lz hq hb';rw[hb v hv]at this;cases this
    ·rw[jb_.mp hv];exact KQ
  |false=>
   simp only[q0_,xO_]
   refine je_ (xx_ ?_)
   rw[hname]
   refine jo_ ⟨qM_ jV_ _,ih (j+1) _ _ t w s!"" hlt I3 hs2 fp2 ⟨oI,hpin.1,hoc,hod⟩ hS2 (s2.seqT ht) (by rw[et];exact jr_ _ hw) fun v hv=>?_⟩
   rw[et]at hv
   rcases jj_.mp hv with hv|hv
   ·exact hb v hv
   ·rw[jb_.mp hv];exact hb'
end
end L2
namespace L2
open PySem PySem.Spec PyProof.Rows S64
theorem Ni (a v d:Value):argsOk "min" ⟨[a],[(Str.ofString "key",v),(Str.ofString "default",d)]⟩:=by unfold argsOk;kernel_rfl
section
variable {X:Cx} {pins:α7} {σ:L2.St} {A:Around}
noncomputable abbrev ends (Q E:Value->Shared->Prop):Result->Shared->Prop:=fun r s'=>match r with | .ok (.ret v)=>Q v s' | .ok _=>False | .error e=>E e s'
noncomputable abbrev it0 (l:Addr):Obj:=⟨.type "list_iterator",none,.fields #[.ref l,.int 0 0],#[]⟩
theorem KR       (I:Inv X pins σ H s)(hl:SqL X.K H l xs)
  (k:∀S s',S≠s.heap.objs.size->H S=none->Inv X pins σ (upd H S (.lst [])) s'->FpOk X pins (upd H S (.lst [])) s.heap.objs.size->s'.heap.get? s.heap.objs.size=some (it0 l)->s'.heap.get? S=some (seqObj "list" #[] 0) ->
   codeAny (model X.prog X.w) A (.builtin "min.loop" ⟨[.ref s.heap.objs.size,.ref q,.ref S],[("default",dv)]⟩) (ends Q E) s'):
  wpAny (model X.prog X.w) A (call (.builtin "min") [.ref l] [(Str.ofString "key",.ref q),(Str.ofString "default",dv)]) Q E s:=by
 obtain⟨_,_,pl,_⟩:=I.list hl
 refine kmk_tree PySem.F.kind_min PySem.F.plain_min PySem.F.entry_min (Ni _ _ _) ?_
 have c:=k (s.heap.push (it0 l)).objs.size {s with heap:=(s.heap.push (it0 l)).push (seqObj "list" #[] 0)} (by rw[size_push'];exact Nat.succ_ne_self _) (I.hok.fresh (by rw[size_push'];exact x9_ _))
 have J:=(I.kept (t':=s.toks) (h':=s.heap.push (it0 l)) fun b o e=>jm_ _ e).lnew (t':=s.toks) (its:=[]) (ys:=[]) .nil (j1_ _)
 have ne:s.heap.objs.size≠(s.heap.push (it0 l)).objs.size:=by rw[size_push'];exact (Nat.succ_ne_self _).symm
 have c:=c J (I.fpOk (jh_ _) (by rw[Ag ne];exact I.hok.fresh (jh_ _))) (jm_ _ (jE_ _ rfl)) (jE_ _ rfl)
 refine je_ (wpAny_of_eq (a:=[some (.ref q),some dv]) rfl ?_)
 wp_walk using xM_ pl.isList
 rw[show (toString "min" ++ toString ".loop" : String) = "min.loop" from by decide]
 exact⟨qM_ jV_ _,c⟩
theorem Nj       (hh:A.handled=none)(hu:A.units+10<cLine)(I:Inv X pins σ H s)(nd:(ws.map (·.2)).Nodup)
  (hl:SqL X.K H l (wv ws)) (hW:WsOk X.K H ws) (hT:∀pl,S64.Turn X (pins++pl) σ A.in1 (.ref q) ws H)
  (h0:ws=[]->∀s' H',Inv X pins σ H' s'->Same H H'->Q dv s')
  (h1:∀s' H' w,Inv X pins σ H' s'->Same H H'->w∈ws->(∀v∈ws,GW.lessW v.2 w.2=false)->Q (.ref w.1) s'):
  wpAny (model X.prog X.w) A (call (.builtin "min") [.ref l] [(Str.ofString "key",.ref q),(Str.ofString "default",dv)]) Q E s:=by
 have hname:(toString "min" ++ toString ".loop" : String) = "min.loop" := by decide
 refine KR I hl fun S u hSI hSn I2 fp gI gS=>?_
 have sH:Same H (upd H S (.lst [])):=Same.new hSn
 obtain⟨its2,r2,pl2,_⟩:=I2.list (sH.seq hl)
 cases Q7 r2
 refine qt_ qI_ ?_
 rw[qa_ jV_ _]
 show wpAny _ A.in1 (seqItems? (.ref _) >>= _) _ _ _
 refine je_ (q3_ gS rfl ?_)
 show wpAny _ A.in1 (tryCatch (pyNext (.ref s.heap.objs.size)) _ >>= _) _ _ _
 by_cases hne:ws=[]
 ·refine je_ (qq_ (qZ_ (A:=A.in1) (i:=0) hh ⟨_,gI,rfl,rfl⟩ pl2.isList (by simp[wu,hne]) fun h' he'=>?_))
  have I3:=I2.turnedF (t':=u.toks) (h':=h') (fun b o hb e=>he' b o hb e) fp
  refine je_ (wpAny_rule (jo_ ?_))
  exact h0 hne _ _ I3 sH
 ·have hlt:0<ws.length:=List.length_pos_iff.mpr hne
  refine je_ (qq_ (qV_ (A:=A.in1) (i:=0) (x:=.ref ws[0].1) ⟨_,gI,rfl,rfl⟩ pl2.isList (by simp[wu,hlt]) fun h' hit' hs'=>?_))
  have I3:=I2.turnedF (t':=u.toks) (h':=h') (fun b o hb e=>hs'.extBut b o hb e) fp
  obtain⟨oI,hoI,hoc,hod⟩:=id hit'
  have I3p:=I3.pinned (fp:=[s.heap.objs.size]) (fun b hb=>by rw[jb_.mp hb];exact fp) (fun b hb=>by rw[jb_.mp hb];exact⟨oI,hoI,fun v z=>by rw[hod]at z;cases z⟩)
  have hvm:ws[0]∈ws:=jB_ hlt
  show wpAny _ A.in1 (tryCatch (holding [.ref ws[0].1] (call (.ref q) [.ref ws[0].1])) _ >>= _) _ _ _
  refine je_ (qq_ (qd_ (qz_ (hT _ ws[0] hvm _ _ I3p sH) (fun x s'' he=>?_) fun _ _ hF=>hF.elim)))
  obtain⟨k,H2,I4,rk,t2,rfl,s2,ht2⟩:=he
  cases rk
  have hpin:=I4.pin (s.heap.objs.size,oI) (jk_ _ (jk_ _ (BE jv_ hoI)))
  have I5:=I4.unpinned
  have hS2:=s2 _ _ (Ab:upd H S (.lst []) S=some (.lst []))
  obtain⟨_,jts2,n2,rv2,_,hoS2⟩:=I5.lstM hS2
  have hjt2:jts2=[]:=Bu (ts:=[]) rv2
  subst hjt2
  show wpAny _ A.in1 (updateSeq S (fun _ => #[.ref ws[0].1,.ref t2]) >>= _) _ _ _
  refine je_ ?_
  refine qT_ hoS2 rfl ?_
  rw[hname]
  have I6:=I5.lset (t':=s''.toks) (f:=fun _ => #[.ref ws[0].1,.ref t2]) (its':=[.ref ws[0].1,.ref t2]) (ys:=[.ref ws[0].1,.ref t2]) hS2 hoS2 rfl (.cons rfl (.cons rfl .nil)) (by show 2<=sizeLine;decide)
  have et:ws.take 1=[ws[0]]:=by
   cases ws with
   |nil=>simp at hlt
   |cons a r=>rfl
  refine jo_ ⟨qM_ jV_ _,Nh hh hu nd hl hW hSn hSI hT h1 _ 1 _ _ t2 ws[0] rfl hlt I6 ((sH.trans s2).over hSn) ⟨by rw[Ag hSI.symm];exact hpin.2.1,fp.2⟩ ⟨oI,(j9_ _ _ hSI).trans hpin.1,hoc,hod⟩ Ab ?_ (by rw[et];exact jb_.mpr rfl) fun v hv=>?_⟩
  ·rcases ht2 with ht2|ht2
   ·left
    rcases ht2 with ht2|⟨o,ht2⟩
    ·exact .inl (by rw[Ag (fun z=>by rw[z,hS2]at ht2;cases ht2)];exact ht2)
    ·exact .inr ⟨o,by rw[Ag (fun z=>by rw[z,hS2]at ht2;cases ht2)];exact ht2⟩
   ·exact .inr ht2
  ·rw[et]at hv
   rw[jb_.mp hv];exact KQ
end
noncomputable abbrev lrA (ap:Pos):Arguments:={posonlyargs:=[],args:=[{arg := "row",annotation:=none,pos:=ap}],vararg:=none,kwonlyargs:=[],kw_defaults:=[],kwarg:=none,defaults:=[]}
noncomputable abbrev lrB (p1 p2 p3 p4 p5:Pos):Expr:=.Tuple [.Call (.Name "len" p1) [.Name "row" p2] [] p3,.Name "row" p4] 0 p5
noncomputable abbrev lrS:Scope:={kind:=.function,names:=[(Str.ofString "row",.local),(Str.ofString "len",.globalImplicit)],isGenerator:=false,isCoroutine:=false,more:=[]}
theorem Q8:FnScope ["row"] ["row"] lrS:=⟨rfl,rfl,rfl,by decide,rfl,fun x hx=>.inl (by rw[jb_.mp hx];rfl),fun y hy=>by
 rcases jJ_.mp hy with rfl|hy
 ·simp
 ·rw[jb_.mp hy];simp⟩
noncomputable def SU (K:α3)(P:Addr)(lp:Pos)(qual:Str)(t:TA):TE:=fun σ H Q=>t σ H fun vs H1=>∃l ws,vs=[.ref l]/\SqL K H1 l (wv ws)/\WsOk K H1 ws/\(ws.map (·.2)).Nodup/\LamT P lp qual H1 /\
 (ws=[]->∀H2,AY P H1 H2->LamT P lp qual H2->Q .non H2)/\∀w H2,AY P H1 H2->LamT P lp qual H2->w∈ws->(∀v∈ws,GW.lessW v.2 w.2=false)->Q (.ref w.1) H2
theorem Qb {K:α3}        : SU K P lp qual t σ H Q=t σ H fun vs H1=>∃l ws,vs=[.ref l]/\SqL K H1 l (wv ws)/\WsOk K H1 ws/\(ws.map (·.2)).Nodup/\LamT P lp qual H1 /\
 (ws=[]->∀H2,AY P H1 H2->LamT P lp qual H2->Q .non H2)/\∀w H2,AY P H1 H2->LamT P lp qual H2->w∈ws->(∀v∈ws,GW.lessW v.2 w.2=false)->Q (.ref w.1) H2:=rfl
theorem Q9        (hc:X.calm=true)(hr:Room (k+3) X.A)(hg:Gl X "min")(hm:X.mg "min"=none)(hml:X.mg "len"=none)(hcode:X.env.code=.ref c)(C:PySem.W.CodeHd X.base c P)(hbm:BmOk X.mg X.base)
  (ha:PA X [e] ta) (hq:X.env.qual=qual:=by rfl)
  (he:backTo pos (starEach [e] X.env)=(false,eval e X.env)::backTo pos (starEach [] X.env):=by rfl) (hpl:(backTo pos (starEach [e] X.env)).any (·.1)=false:=by rfl):
  PE X (.Call (.Name "min" p) [e] [⟨some "key",.Lambda (lrA ap) (lrB p1 p2 p3 p4 p5) lrS lp,kp⟩,⟨some "default",.Constant .none n p6,kp2⟩] pos) (SU X.K P lp qual ta):=by
 intro pins s σ H Q I h
 subst hq
 refine qE_ (DB I hg hm rfl ?_)
 refine callWith_kw ?_ he hpl
 refine thn (ha pos pins s σ H _ I h) fun us s1 ⟨vs,H1,I1,r1,q1⟩=>?_
 obtain⟨l,ws,rfl,hl,hW,nd,hP,q0,q1⟩:=q1
 obtain⟨ps,hP1⟩:=hP.is
 obtain⟨u1,rfl,rx⟩:=vals1 r1
 cases rx
 refine kws_cons (Jp I1 hcode C hP hbm rfl rfl fun f c' oc vs t ctv H2 s2 I2 hS2 hT2 hc2 hd hv=>kws_cons (jo_ (kws_nil ?_)))
 show wpAny (model X.prog X.w) X.A (call (.builtin "min") [.ref l] [(Str.ofString "key",.ref f),(Str.ofString "default",.none)]) _ _ s2
 have nP:∀b ys,SqT X.K H1 b ys->SqT X.K H2 b ys:=fun b ys=>hS2.tsq hP1
 have hl2:SqL X.K H2 l (wv ws):=hS2.lsq hP1 hl
 have LT:∀H',Same H2 H'->LamT P lp X.env.qual H':=fun H' g1=>.inr ⟨c',oc,vs,t,g1 _ _ hT2,g1 _ _ hc2,hd,hv⟩
 refine Nj (I.ok.hd hc) (by have:=hr.un;lia) I2 nd hl2 (fun w hw=>nP _ _ (hW w hw)) (fun pl w hw H' s' I' hS=>?_) (fun hz s' H' I' g1=>⟨.non,H',I'.unpinned,rfl,q0 hz H' (hS2.trans (AY.of g1)) (LT H' g1)⟩) (fun s' H' w I' g1 hw hb=>⟨.ref w.1,H',I'.unpinned,rfl,q1 w H' (hS2.trans (AY.of g1)) (LT H' g1) hw hb⟩)
 have hf:=(I'.pin (f,PySem.W.kla_obj "<lambda>" (X.env.qual ++ "<lambda>") (lrA ap) (lrB p1 p2 p3 p4 p5) lrS [] ((X.mg "__name__").getD .none) c' ctv) (jk_ _ (jr_ _ (jk_ _ (jv_))))).1
 have hc':s'.heap.get? c'=some oc:=(I'.hok c' _ (hS _ _ hc2)).1
 have hcr:s'.heap.CodeRec (.ref c') (X.env.qual ++ "<lambda>"):=⟨c',oc,vs,t,rfl,hc',hd,hv⟩
 have hwT:SqT X.K H' w.1 (w.2.map V.int):=hS.seqT (nP _ _ (hW w hw))
 refine zf_ (xR_ (Qa (k:=k) (N:=["row"]) (ps:=["row"]) (vs:=[.ref w.1]) (us:=[.ref w.1]) (E:=fun _ _ _=>False) (Q:=fun kv H''=>∃t,kv=.ref t/\Same H' H''/\SqT X.K H'' t [.int w.2.length,.ref w.1]) Q8 (hr.in1.mono s!"") I'.env0.in1 hf hcr rfl (.cons rfl .nil) rfl
  (AL (Aa (Aq Ai rfl hml rfl (Aa (pv 0) Ad)) (Aa (pv 0) Ad))) ?_) fun r s2 hq=>?_)
 ·refine⟨.ref w.1,rfl,w.1,w.2.map V.int,rfl,.inr hwT,.ref w.1,rfl,?_,fun p hp=>?_⟩
  ·show 2<=sizeLine
   decide
  ·rw[jd_]
   exact⟨p,rfl,Same.new hp,.inl (.inl Ab)⟩
 ·cases r with
  |error e=>exact hq.elim
  |ok fl=>
   cases fl with
   |ret u=>exact I'.after hq
   |next=>exact False.elim hq
   |brk=>exact False.elim hq
   |cont=>exact False.elim hq
end L2
namespace N80
open Nest L2 GW
noncomputable def val (b:Nat)(v:α2):Nat:=v.foldl (fun a x=>a*b+x.toNat) 0
noncomputable def cod (b:Nat)(v:α2):Nat:=b ^ v.length+val b v
theorem Gi (b:Nat):∀(v:α2) (a:Nat),v.foldl (fun a x=>a*b+x.toNat) a=a*b ^ v.length+val b v
 |[],a=>by simp[val]
 |x::r,a=>by
  unfold val
  rw[qo_,qo_,Gi b r,Gi b r (0*b+x.toNat),jR_,Nat.pow_succ]
  grind
theorem Im (b:Nat)(x:Int)(r:α2):val b (x::r)=x.toNat*b ^ r.length+val b r:=by
 show List.foldl _ (0*b+x.toNat) r=_
 rw[Gi];simp
theorem Io (b:Nat)(u v:α2):val b (u++v)=val b u*b ^ v.length+val b v:=by
 unfold val
 rw[jK_,Gi];rfl
noncomputable def Dg (b:Nat)(u:α2):Prop:=∀x∈u,0<=x/\x<(b:Int)
theorem val_lt {b:Nat}:∀{v:α2},Dg b v->val b v<b ^ v.length
 |[],_=>by simp[val]
 |x::r,h=>by
  have h1:=val_lt (fun y hy=>h y (jx_ _ hy):Dg b r)
  have h2:=h x jv_
  rw[Im,jR_,Nat.pow_succ]
  have h3:x.toNat+1<=b:=by lia
  have h4:=xs_ (b ^ r.length) h3
  rw[Nat.add_mul,Nat.one_mul]at h4
  rw[Nat.mul_comm (b ^ r.length) b]
  lia
theorem Nk {b:Nat}:∀{u v:α2},u.length=v.length->Dg b u->Dg b v->(HT.lexLt u v=true↔val b u<val b v)
 |[],[],_,_,_=>by simp[HT.lexLt,val]
 |[],_::_,h,_,_=>by simp at h
 |_::_,[],h,_,_=>by simp at h
 |x::u,y::v,h,hu,hv=>by
  have hl:u.length=v.length:=by simpa using h
  have hu':Dg b u:=fun z hz=>hu z (jx_ _ hz)
  have hv':Dg b v:=fun z hz=>hv z (jx_ _ hz)
  have h1:=val_lt hu'
  have h2:=val_lt hv'
  have hx:=hu x jv_
  have hy:=hv y jv_
  rw[HT.lexLt_cons,Im,Im,hl]
  rw[hl]at h1
  by_cases e:x=y
  ·rw[if_pos e,Nk hl hu' hv',e];lia
  ·rw[if_neg e,jN_]
   constructor
   ·intro hlt
    have h3:x.toNat+1<=y.toNat:=by lia
    have h4:=xs_ (b ^ v.length) h3
    rw[Nat.add_mul,Nat.one_mul]at h4
    lia
   ·intro hlt
    refine qg_ fun hn=>?_
    have h3:y.toNat+1<=x.toNat:=by lia
    have h4:=xs_ (b ^ v.length) h3
    rw[Nat.add_mul,Nat.one_mul]at h4
    lia
theorem cod_len  (hb:2<=b)  (hu:Dg b u)(h:u.length<v.length):cod b u<cod b v:=by
 unfold cod
 have h1:=val_lt hu
 have h2:b ^ (u.length+1)<=b ^ v.length:=Nat.pow_le_pow_right s!"" h
 rw[Nat.pow_succ]at h2
 have h3:=qK_ (b ^ u.length) hb
 lia
theorem less_iff  (hb:2<=b)  (hu:Dg b u)(hv:Dg b v):lessW u v=true↔cod b u<cod b v:=by
 unfold lessW
 by_cases h:u.length=v.length
 ·rw[if_pos h,Nk h hu hv]
  unfold cod
  rw[h];lia
 ·rw[if_neg h,jN_]
  constructor
  ·exact cod_len hb hu
  ·intro hlt
   refine qg_ fun hn=>?_
   have:=cod_len hb hv (show v.length<u.length by lia)
   lia
theorem Hv  (hb:2<=b)  (hv:Dg b v)(h:cod b u<=cod b v):u.length<=v.length:=by
 refine qg_ fun hn=>?_
 have:=cod_len hb hv (show v.length<u.length by lia)
 lia
theorem Dg.app   (hu:Dg b u)(hv:Dg b v):Dg b (u++v):=fun x hx=>by
 rcases jj_.mp hx with h|h
 ·exact hu x h
 ·exact hv x h
theorem GL  (hb:2<=b)  (hu:Dg b u)(hv:Dg b v)(w:α2)(hw:Dg b w)(h:cod b u<=cod b v):cod b (u++w)<=cod b (v++w):=by
 have hl:=Hv hb hv h
 by_cases e:u.length=v.length
 ·unfold cod at *
  rw[Io,Io,jf_,jf_,e]
  rw[e]at h
  have:=xs_ (b ^ w.length) (show val b u<=val b v by lia)
  lia
 ·exact qY_ (cod_len hb (hu.app hw) (by rw[jf_,jf_];lia))
theorem KS  (hb:2<=b)  (hu:Dg b u)(hv:Dg b v)(w:α2)(hw:Dg b w)(h:cod b u<=cod b v):cod b (w++u)<=cod b (w++v):=by
 have hl:=Hv hb hv h
 by_cases e:u.length=v.length
 ·unfold cod at *
  rw[Io,Io,jf_,jf_,e]
  rw[e]at h
  lia
 ·exact qY_ (cod_len hb (hw.app hu) (by rw[jf_,jf_];lia))
inductive Nst (p e:Int):α2->Prop
 | nil:Nst p e []
 | pl {x:Int} {row:α2}:0<=x->x<p->Nst p e row->Nst p e (x::row)
 | ca {c:Int} {inn row:α2}:p<=c->c<e->Nst p e inn->Nst p e row->Nst p e (c::inn++e::row)
theorem KU {p e:Int}(hp:0<=p)(hpe:p<=e):∀(n:Nat) (l:α2),l.length<=n->∀d,AI p e l d=true->(d=0->Nst p e l)/\∀d',d=d'+1->∃a r,l=a++e::r/\Nst p e a/\AI p e r d'=true
 |0,l,hn,d,h=>by
  have:l=[]:=xH_.mp s!""
  subst this
  refine⟨fun _=>.nil,fun d' hd=>?_⟩
  rw[hd]at h
  simp[AI]at h
 |n+1,[],hn,d,h=>by
  refine⟨fun _=>.nil,fun d' hd=>?_⟩
  rw[hd]at h
  simp[AI]at h
 |n+1,x::l,hn,d,h=>by
  have hl:l.length<=n:=by simpa using hn
  rw[Bj]at h
  by_cases h0:x<0\/e<x
  ·rw[if_pos h0]at h;cases h
  rw[if_neg h0]at h
  by_cases h1:x=e
  ·rw[if_pos h1]at h
   subst h1
   cases d with
   |zero=>cases h
   |succ d=>exact⟨fun z=>by lia,fun d' hd=>⟨[],l,rfl,.nil,by cases hd;exact h⟩⟩
  rw[if_neg h1]at h
  by_cases h2:p<=x
  ·rw[if_pos h2]at h
   obtain⟨a,r,rfl,ha,hr⟩:=(KU hp hpe n l hl (d+1) h).2 d rfl
   have hrl:r.length<=n:=by rw[jf_,jR_]at hl;lia
   have ih:=KU hp hpe n r hrl d hr
   refine⟨fun z=>.ca h2 s!"" ha (ih.1 z),fun d' hd=>?_⟩
   obtain⟨a',r',rfl,ha',hr'⟩:=ih.2 d' hd
   exact⟨x::a++e::a',r',by simp,.ca h2 s!"" ha ha',hr'⟩
  ·rw[if_neg h2]at h
   have ih:=KU hp hpe n l hl d h
   refine⟨fun z=>.pl s!"" s!"" (ih.1 z),fun d' hd=>?_⟩
   obtain⟨a,r,rfl,ha,hr⟩:=ih.2 d' hd
   exact⟨x::a,r,rfl,.pl s!"" s!"" ha,hr⟩
theorem Nst.row  (hp:0<=p)(hpe:p<=e)  (h:Nst p e l):AI p e l 0=true:=by
 induction h with
 |nil=>rfl
 |pl h0 h1 _ ih=>rw[Bj,if_neg s!"",if_neg s!"",if_neg s!""];exact ih
 |@ca c inn row h0 h1 _ _ ih1 ih2=>
  show AI p e (c::(inn++e::row)) 0=true
  rw[Bj,if_neg s!"",if_neg s!"",if_pos h0]
  have:=C7 inn 0 1 (e::row) ih1
  rw[Nat.add_zero]at this
  rw[this,Bj,if_neg s!"",if_pos rfl]
  exact ih2
theorem nst_iff  (hp:0<=p)(hpe:p<=e)  : AI p e l 0=true↔Nst p e l:=⟨fun h=>(KU hp hpe l.length l (jh_ _) 0 h).1 rfl,fun h=>h.row hp hpe⟩
theorem Nst.app   (h:Nst p e u)(g:Nst p e v):Nst p e (u++v):=by
 induction h with
 |nil=>exact g
 |pl h0 h1 _ ih=>exact .pl h0 h1 ih
 |@ca c inn row h0 h1 a _ _ ih=>
  have:(c::inn++e::row)++v=c::inn++e::(row++v):=by simp
  rw[this]
  exact .ca h0 h1 a ih
theorem Nst.dg {p e:Int}{b:Nat}(hp:0<=p)(hb:(b:Int)=e+1)(hpe:p<=e){u:α2}(h:Nst p e u):Dg b u:=by
 induction h with
 |nil=>intro x hx;cases hx
 |pl h0 h1 _ ih=>
  intro x hx
  rcases jJ_.mp hx with rfl|hx
  ·lia
  ·exact ih x hx
 |ca h0 h1 _ _ ih1 ih2=>
  intro x hx
  rw[qb_]at hx
  rcases jJ_.mp hx with rfl|hx
  ·lia
  ·rcases jj_.mp hx with hx|hx
   ·exact ih1 x hx
   ·rcases jJ_.mp hx with rfl|hx
    ·lia
    ·exact ih2 x hx
theorem Ip   (hn:AI p e row 0=true):prtS p e row=((prtS p e row).1,[],[outW p e row]):=by
 have:=GJ hn [] [] [] []
 exact this
theorem out_app   (hu:AI p e u 0=true)(hv:AI p e v 0=true):(prtS p e (u++v)).1=(prtS p e u).1++(prtS p e v).1/\outW p e (u++v)=outW p e u++outW p e v:=by
 have huv:AI p e (u++v) 0=true:=by
  have:=C7 u 0 0 v hu
  rw[Nat.add_zero]at this
  rw[this];exact hv
 have h1:=Ip huv
 have h2:prtS p e (u++v)=v.foldl (prtF p e) (prtS p e u):=by unfold prtS;rw[jK_]
 rw[Ip hu]at h2
 have h3:=GJ hv (prtS p e u).1 [] [] (outW p e u)
 rw[qw_]at h3
 rw[h3]at h2
 refine⟨by rw[h2],?_⟩
 rw[h2]at h1
 have:=qR_ (fun z=>z.2.2) h1
 simpa using this.symm
theorem out_pl  (h0:0<=x)(h1:x<p)(hpe:p<=e):(prtS p e [x]).1=[]/\outW p e [x]=[x]:=by
 constructor
 ·show (prtF p e ([],[],[[]]) x).1=[]
  unfold prtF
  rw[if_neg s!"",if_neg s!""]
 ·show (outF p e ([],0) x).1=[x]
  unfold outF
  rw[if_neg s!""];rfl
theorem out_ca   (hp:0<=p)(h0:p<=c)(h1:c<e)(hn:AI p e inn 0=true):(prtS p e (c::inn++[e])).1=(prtS p e inn).1++[(c-p,outW p e inn)]/\outW p e (c::inn++[e])=[c]:=by
 have hw:AI p e (c::inn++[e]) 0=true:=by
  show AI p e (c::(inn++[e])) 0=true
  rw[Bj,if_neg s!"",if_neg s!"",if_pos h0]
  have:=C7 inn 0 1 [e] hn
  rw[Nat.add_zero]at this
  rw[this,Bj,if_neg s!"",if_pos rfl];rfl
 have h2:=Ip hw
 have h3:prtS p e (c::inn++[e])=prtF p e (inn.foldl (prtF p e) ([],[c-p],[[c]]++[[]])) e:=by
  unfold prtS
  rw[jK_]
  show prtF p e (inn.foldl (prtF p e) (prtF p e ([],[],[[]]) c)) e=_
  have:prtF p e ([],[],[[]]) c=([],[c-p],[[c]]++[[]]):=by
   unfold prtF
   rw[if_neg s!"",if_pos h0];rfl
  rw[this]
 rw[GJ hn]at h3
 have h4:prtF p e ([]++(prtS p e inn).1,[c-p],[[c]]++[[]++outW p e inn]) e=((prtS p e inn).1++[(c-p,outW p e inn)],[],[[c]]):=by
  unfold prtF
  rw[if_pos rfl];rfl
 rw[h4]at h3
 refine⟨by rw[h3],?_⟩
 rw[h3]at h2
 have:=qR_ (fun z=>z.2.2) h2
 simpa using this.symm
noncomputable def Okr (A:Int->α2->Prop)(p e:Int)(row:α2):Prop:=∀q∈(prtS p e row).1,A q.1 q.2
structure Acc (A:Int->α2->Prop)(p e:Int)(j:Int)(row:α2):Prop where
 n:Nst p e row
 o:Okr A p e row
 a:A j (outW p e row)
theorem okr_app   (hp:0<=p)(hpe:p<=e)  (hu:Nst p e u)(hv:Nst p e v):Okr A p e (u++v)↔Okr A p e u/\Okr A p e v:=by
 unfold Okr
 rw[(out_app (hu.row hp hpe) (hv.row hp hpe)).1]
 constructor
 ·intro h
  exact⟨fun q hq=>h q (jr_ _ hq),fun q hq=>h q (jk_ _ hq)⟩
 ·rintro⟨h1,h2⟩ q hq
  rcases jj_.mp hq with hq|hq
  ·exact h1 q hq
  ·exact h2 q hq
theorem nst_pl  (h0:0<=x)(h1:x<p):Nst p e [x]:=.pl h0 h1 .nil
theorem nst_ca   (h0:p<=c)(h1:c<e)(hn:Nst p e inn):Nst p e (c::inn++[e]):=.ca h0 h1 hn .nil
theorem okr_pl   (h0:0<=x)(h1:x<p)(hpe:p<=e):Okr A p e [x]:=fun q hq=>by
 rw[(out_pl h0 h1 hpe).1]at hq;cases hq
theorem okr_ca    (hp:0<=p)(hpe:p<=e)(h0:p<=c)(h1:c<e)(hn:Nst p e inn):Okr A p e (c::inn++[e])↔Acc A p e (c-p) inn:=by
 unfold Okr
 rw[(out_ca hp h0 h1 (hn.row hp hpe)).1]
 constructor
 ·intro h
  exact⟨hn,fun q hq=>h q (jr_ _ hq),h (c-p,outW p e inn) (jk_ _ jv_)⟩
 ·intro h q hq
  rcases jj_.mp hq with hq|hq
  ·exact h.o q hq
  ·rw[jb_.mp hq];exact h.a
structure Rest {R:Type}(A:Int->α2->Prop)(p e:Int)(b:Nat)(δ:R->Int->R)(rows:Int->Option (α2))(s0:R)(best:R->Option (α2)):Prop where
 s:∃t,best s0=some t/\cod b t<=cod b []
 n:∀s t,best s=some t->Nst p e t/\Okr A p e t/\(outW p e t).foldl δ s0=s
 pl:∀s t x,best s=some t->0<=x->x<p->∃t',best (δ s x)=some t'/\cod b t'<=cod b (t++[x])
 ca:∀s t c r,best s=some t->p<=c->c<e->rows (c-p)=some r->∃t',best (δ s c)=some t'/\cod b t'<=cod b (t++(c::r++[e]))
theorem Rest.least {R:Type}{A:Int->α2->Prop}{p e:Int}{b:Nat}{δ:R->Int->R}{rows:Int->Option (α2)}{s0:R}{best:R->Option (α2)}(hp:0<=p)(hpe:p<=e)(hb:(b:Int)=e+1)(hb2:2<=b)(h:Rest A p e b δ rows s0 best)(hr:∀i r,rows i=some r->Nst p e r){M:Nat}(hin:∀i inn,Acc A p e i inn->0<=i->i<e-p->inn.length<M->∃r,rows i=some r/\cod b r<=cod b inn){row:α2}(hn:Nst p e row):Okr A p e row->row.length<=M->∀(s:R) (u t:α2),best s=some t->Nst p e u->cod b t<=cod b u->∃t',best ((outW p e row).foldl δ s)=some t'/\cod b t'<=cod b (u++row):=by
 induction hn with
 |nil=>
  intro _ _ s u t ht _ hc
  exact⟨t,ht,by rw[q5_];exact hc⟩
 |@pl x row h0 h1 hn ih=>
  intro ho hM s u t ht hu hc
  have e1:x::row=[x]++row:=rfl
  rw[e1]at ho ⊢
  have ho2:=((okr_app hp hpe (nst_pl h0 h1) hn).mp ho).2
  have hout:=(out_app ((nst_pl (e:=e) h0 h1).row hp hpe) (hn.row hp hpe)).2
  rw[(out_pl h0 h1 hpe).2]at hout
  obtain⟨t1,ht1,hc1⟩:=h.pl s t x ht h0 h1
  have hux:=hu.app (nst_pl (e:=e) h0 h1)
  have hc2:=GL hb2 ((h.n s t ht).1.dg hp hb hpe) (hu.dg hp hb hpe) [x] ((nst_pl (e:=e) h0 h1).dg hp hb hpe) hc
  obtain⟨t2,ht2,hc3⟩:=ih ho2 (by rw[jR_]at hM;lia) (δ s x) (u++[x]) t1 ht1 hux s!""
  refine⟨t2,by rw[hout];exact ht2,?_⟩
  rw[jX_]at hc3
  exact hc3
 |@ca c inn row h0 h1 hi hn _ ih=>
  intro ho hM s u t ht hu hc
  have e1:c::inn++e::row=(c::inn++[e])++row:=by simp
  rw[e1]at ho hM ⊢
  obtain⟨ho1,ho2⟩:=(okr_app hp hpe (nst_ca h0 h1 hi) hn).mp ho
  have hA:=(okr_ca hp hpe h0 h1 hi).mp ho1
  have hout:=(out_app ((nst_ca h0 h1 hi).row hp hpe) (hn.row hp hpe)).2
  rw[(out_ca hp h0 h1 (hi.row hp hpe)).2]at hout
  rw[jf_,jf_,jR_,jq_]at hM
  obtain⟨r,hr1,hr2⟩:=hin (c-p) inn hA s!"" s!"" s!""
  have hrn:=hr _ _ hr1
  obtain⟨t1,ht1,hc1⟩:=h.ca s t c r ht h0 h1 hr1
  have htn:=(h.n s t ht).1
  have hc2:=GL hb2 (htn.dg hp hb hpe) (hu.dg hp hb hpe) (c::r++[e]) ((nst_ca h0 h1 hrn).dg hp hb hpe) hc
  have hce:Dg b [e]:=fun x hx=>by rw[jb_.mp hx];lia
  have hcc:Dg b [c]:=fun x hx=>by rw[jb_.mp hx];lia
  have hc3:=GL hb2 (hrn.dg hp hb hpe) (hi.dg hp hb hpe) [e] hce hr2
  have hc4:=KS hb2 ((hrn.dg hp hb hpe).app hce) ((hi.dg hp hb hpe).app hce) [c] hcc hc3
  have hc5:=KS hb2 ((nst_ca h0 h1 hrn).dg hp hb hpe) ((nst_ca h0 h1 hi).dg hp hb hpe) u (hu.dg hp hb hpe) hc4
  obtain⟨t2,ht2,hc6⟩:=ih ho2 s!"" (δ s c) (u++(c::inn++[e])) t1 ht1 (hu.app (nst_ca h0 h1 hi)) s!""
  refine⟨t2,by rw[hout];exact ht2,?_⟩
  rw[jX_]at hc6
  exact hc6
theorem GN {α:Type}{f g:α->Bool}(hfg:∀x,f x=true->g x=true):∀{l:List α} {y:α},y∈l->g y=true->f y=false->l.countP f<l.countP g
 |[],_,h,_,_=>by cases h
 |x::l,y,h,hg,hf=>by
  have mono:l.countP f<=l.countP g:=List.countP_mono_left fun x _ hx=>hfg x hx
  rw[List.countP_cons,List.countP_cons]
  rcases jJ_.mp h with rfl|h
  ·rw[if_pos hg,if_neg (by rw[hf];simp)];lia
  ·have ih:=GN hfg h hg hf
   by_cases hx:f x=true
   ·rw[if_pos hx,if_pos (hfg x hx)];lia
   ·rw[if_neg hx]
    split<;>lia
open Classical in
noncomputable def cnt (A:Int->α2->Prop)(p e:Int)(b h n:Nat):Nat:=(List.range h).countP fun i:Nat=>decide (∃inn,Acc A p e (i:Int) inn/\cod b inn<n)
open Classical in
theorem least_acc {A:Int->α2->Prop}{p e:Int}(b:Nat){j:Int}{row:α2}(h:Acc A p e j row):∃r,Acc A p e j r/\cod b r<=cod b row/\∀r',Acc A p e j r'->cod b r<=cod b r':=by
 have key:∀n row,Acc A p e j row->cod b row<=n->∃r,Acc A p e j r/\cod b r<=cod b row/\∀r',Acc A p e j r'->cod b r<=cod b r':=by
  intro n
  induction n with
  |zero=>intro row h hz;exact⟨row,h,jh_ _,fun r' _=>by lia⟩
  |succ n ih=>
   intro row h hz
   by_cases hx:∃r',Acc A p e j r'/\cod b r'<cod b row
   ·obtain⟨r',h1,h2⟩:=hx
    obtain⟨r,a1,a2,a3⟩:=ih r' h1 s!""
    exact⟨r,a1,by lia,a3⟩
   ·exact⟨row,h,jh_ _,fun r' h'=>qg_ fun z=>hx ⟨r',h',by lia⟩⟩
 exact key _ row h (jh_ _)
open Classical in
theorem cnt_lt {A:Int->α2->Prop}{p e:Int}{b h:Nat}{i:Nat}(hi:i<h){inn:α2}(ha:Acc A p e (i:Int) inn)(hm:∀r',Acc A p e (i:Int) r'->cod b inn<=cod b r'){n:Nat}(hn:cod b inn<n):cnt A p e b h (cod b inn)<cnt A p e b h n:=by
 refine GN (fun x hx=>?_) (q2_.mpr hi) (qv_ ⟨inn,ha,hn⟩) (j3_ fun ⟨r',h1,h2⟩=>?_)
 ·obtain⟨r,h1,h2⟩:=xo_ hx
  exact qv_ ⟨r,h1,by lia⟩
 ·have:=hm r' h1
  lia
open Classical in
theorem cnt_small {A:Int->α2->Prop}{p e:Int}{b h:Nat}{i:Nat}(hi:i<h){inn:α2}(hm:∀r',Acc A p e (i:Int) r'->cod b inn<=cod b r'):cnt A p e b h (cod b inn)<h:=by
 have h1:cnt A p e b h (cod b inn)<(List.range h).countP fun _=>true:=GN (fun x _=>rfl) (q2_.mpr hi) rfl (j3_ fun ⟨r',h1,h2⟩=>by have:=hm r' h1;lia)
 rw[List.countP_true,qL_]at h1
 exact h1
structure Turn {R:Type}(A:Int->α2->Prop)(p e:Int)(b:Nat)(fin:R->Prop)(best:R->Option (α2))(res:Option (α2)):Prop where
 s:∀t,res=some t->∃r,best r=some t/\fin r
 l:∀r t,best r=some t->fin r->∃t',res=some t'/\cod b t'<=cod b t
theorem Turn.acc           (h:Turn A p e b fin best res)(hR:Rest A p e b δ rows s0 best)  (hA:∀w,A j w↔fin (w.foldl δ s0))  (ht:res=some t):Acc A p e j t:=by
 obtain⟨r,h1,h2⟩:=h.s t ht
 obtain⟨a1,a2,a3⟩:=hR.n r t h1
 exact⟨a1,a2,(hA _).mpr (by rw[a3];exact h2)⟩
theorem Turn.least {R:Type}{A:Int->α2->Prop}{p e:Int}{b:Nat}{fin:R->Prop}{best:R->Option (α2)}{res:Option (α2)}{δ:R->Int->R}{rows:Int->Option (α2)}{s0:R}(hp:0<=p)(hpe:p<=e)(hb:(b:Int)=e+1)(hb2:2<=b)(h:Turn A p e b fin best res)(hR:Rest A p e b δ rows s0 best){j:Int}(hA:∀w,A j w↔fin (w.foldl δ s0))(hr:∀i r,rows i=some r->Nst p e r){row:α2}(ha:Acc A p e j row)(hin:∀i inn,Acc A p e i inn->0<=i->i<e-p->inn.length<row.length->∃r,rows i=some r/\cod b r<=cod b inn):∃t,res=some t/\cod b t<=cod b row:=by
 obtain⟨t0,h1,h2⟩:=hR.s
 obtain⟨t,h3,h4⟩:=hR.least hp hpe hb hb2 hr hin ha.n ha.o (jh_ _) s0 [] t0 h1 .nil h2
 obtain⟨t',h5,h6⟩:=h.l _ t h3 ((hA _).mp ha.a)
 exact⟨t',h5,by rw[qw_]at h4;lia⟩
end N80
namespace HT
open PySem PyProof.Rows
inductive LtE (A:Around)(s:Shared)(f:Bool):List Value->List Value->Bool->Prop
 | endL {ws:List Value}:LtE A s f [] ws f
 | endR {vs:List Value}:LtE A s f vs [] f
 | eq {v w:Value} {vs ws:List Value} {b:Bool}:SeqAt.EqAt A s v w true->LtE A s f vs ws b->LtE A s f (v::vs) (w::ws) b
 | ne {v w:Value} {vs ws:List Value} {b:Bool}:SeqAt.EqAt A s v w false->(∀(prog:Program) (wd:World) (E:Value->Shared->Prop) (Q:Value->Shared->Prop),Q (.bool b) s->wpAny (model prog wd) A (richCompare .Lt v w) Q E s)->LtE A s f (v::vs) (w::ws) b
section
open PySem.SeqAt
open PySem.AutoSeq1 (wpAny_loadPart')
open PySem.MeetsSeq PySem.MeetsSeq2 PySem.MeetsSeq3
theorem LD (l b:Addr)(items items2:Array Value)(n n2:Nat)(dd dd2:Option Addr)(sl sl2:Array (α5))(r:Bool):
  Meets (Builtin.«tuple.__lt__» ⟨[.ref l,.ref b],[]⟩)
   (fun A R s=>s.heap.get? l=some {cls:=.type "tuple",dict:=dd,data:=.seq items n,slots:=sl}/\s.heap.get? b=some {cls:=.type "tuple",dict:=dd2,data:=.seq items2 n2,slots:=sl2} /\
    LtE A.in1 s (decide (items.size<items2.size)) items.toList items2.toList r/\R (.ok (.ret (.bool r))) s):=
 .of_wp fun prog w A R s h=>by
  obtain⟨hp,g,d,tk,os⟩:=s;obtain⟨hl,hb,hg,h⟩:=h
  have f2:=xy_
  wp_walk using jU_ hl,jU_ hb,wpAny_forIn_list _ (fun rest b s'=>b.1=none/\s'=⟨hp,g,d,tk,os⟩/\∃(vs ws:List Value),rest=vs.zip ws/\LtE A.in1 ⟨hp,g,d,tk,os⟩ (decide (items.size<items2.size)) vs ws r) _
  case turn=>
   rintro⟨y,x⟩ rest b s' ⟨hb',rfl,vs,ws,hz,hgd⟩
   cases hgd with
   |endL=>cases hz
   |endR=>rw[List.zip_nil_right]at hz;cases hz
   |eq he hgd' =>
    rw[qr_]at hz
    injection hz with hyx hrest
    injection hyx with hy hx
    subst hy hx
    refine je_ (he prog w _ _ ?_)
    wp_walk
    exact⟨rfl,rfl,_,_,hrest,hgd'⟩
   |ne he hrc=>
    rw[qr_]at hz
    injection hz with hyx hrest
    injection hyx with hy hx
    subst hy hx
    refine je_ (he prog w _ _ ?_)
    have hri:=hrc prog w
    wp_walk using hri
    exact⟨_,rfl,h⟩
  case fin=>
   rintro⟨b1,b2⟩ s' ⟨hb',rfl,vs,ws,hz,hgd⟩
   cases hb'
   have hr:decide (items.size<items2.size)=r:=by
    cases hgd with
    |endL=>rfl
    |endR=>rfl
    |eq he hgd'=>rw[qr_]at hz;cases hz
    |ne he hrc=>rw[qr_]at hz;cases hz
   rw[<-hr]at h
   wp_walk
   exact⟨_,rfl,h⟩
  case h=>
   exact⟨rfl,rfl,items.toList,items2.toList,rfl,hg⟩
end
theorem lt_tupE      (hl:IsTup s.heap l items)(hb:IsTup s.heap b items2)(hg:LtE A.in1 s (decide (items.size<items2.size)) items.toList items2.toList r)(hu:A.units<cLine)
  (prog:Program) (w:World) (E Q:Value->Shared->Prop) (h:Q (.bool r) s):wpAny (model prog w) A (richCompare .Lt (.ref l) (.ref b)) Q E s:=by
 obtain⟨⟨cls,dd,data,sl⟩,ho,hc,n,hd⟩:=id hl
 obtain⟨⟨cls2,dd2,data2,sl2⟩,ho2,hc2,n2,hd2⟩:=id hb
 simp only at hc hd hc2 hd2
 subst hc hd hc2 hd2
 exact xJ_ (op:=.Lt) ⟨_,ho,rfl⟩ ⟨_,ho2,rfl⟩ xS_ xK_ (xD_ _ _) (LD l b items items2 n n2 dd dd2 sl sl2 r)
  ⟨ho,ho2,hg,show Value.bool r≠Value.notImplemented/\Q (.bool r) s from ⟨(fun x=>nomatch x),h⟩⟩ hu
theorem LtE.ints    : ∀{vs ws:List Value} {ns ms:α2},IntsAre vs ns->IntsAre ws ms->∃r,LtE A s f vs ws r:=by
 intro vs ws ns ms h1
 induction h1 generalizing ws ms with
 |nil=>intro h2;exact⟨f,.endL⟩
 |cons a t h1' ih=>intro h2;cases h2 with
  |nil=>exact⟨f,.endR⟩
  |cons c u h2' =>
   obtain⟨e,he,hiff⟩:=eqAt_int A s a t c u
   cases e with
   |true=>
    obtain⟨r,hr⟩:=ih h2'
    exact⟨r,.eq he hr⟩
   |false=>exact⟨_,.ne he fun prog w E Q hq=>rcLt_intD A s a t c u prog w E Q hq⟩
end HT
namespace L2
open PySem PySem.Spec PyProof.Rows S64
noncomputable def CC (K:α3)(H:Hp)(a:Addr):Prop:=∃(ta tb:Addr) (xs ys:α2),SqT K H a [.ref ta,.ref tb]/\SqT K H ta (xs.map V.int)/\SqT K H tb (ys.map V.int)
theorem CC.mono {K:α3}   (h:CC K H a)(s:Same H H'):CC K H' a:=by
 obtain⟨ta,tb,xs,ys,h1,h2,h3⟩:=h
 exact⟨ta,tb,xs,ys,s.seqT h1,s.seqT h2,s.seqT h3⟩
theorem Nl        (hu:A.units+8<cLine)(I:Inv X pins σ H s)(ha:CC X.K H a)(hb:CC X.K H b):
  ∃r,∀(prog:Program) (w:World) (E Q:Value->Shared->Prop),Q (.bool r) s->wpAny (model prog w) A (richCompare .Lt (.ref a) (.ref b)) Q E s:=by
 obtain⟨ta,ua,xs,zs,a1,a2,a3⟩:=ha
 obtain⟨tb,ub,ys,ws,b1,b2,b3⟩:=hb
 obtain⟨its,r1,p1,_⟩:=I.tuple a1
 obtain⟨its2,r2,p2,_⟩:=I.tuple b1
 obtain⟨j1,k1,o1,_⟩:=I.tuple a2
 obtain⟨j2,k2,o2,_⟩:=I.tuple b2
 obtain⟨j3,k3,o3,_⟩:=I.tuple a3
 obtain⟨j4,k4,o4,_⟩:=I.tuple b3
 have i1:IntsAre j1.toArray.toList xs:=intsAre_of k1
 have i2:IntsAre j2.toArray.toList ys:=intsAre_of k2
 have i3:IntsAre j3.toArray.toList zs:=intsAre_of k3
 have i4:IntsAre j4.toArray.toList ws:=intsAre_of k4
 have eqT:=fun (c d:Addr) (us vs:α2) (hc:SqT X.K H c (us.map V.int)) (hd:SqT X.K H d (vs.map V.int))=>(EqD.at (x:=V.ref c) (y:=V.ref d) (u:=Value.ref c) (v:=Value.ref d) I 2 A.in1 (by rw[in1_units];lia) rfl rfl (EqD.ints (K:=X.K) (H:=H) (a:=c) (c:=d) (xs:=us) (ys:=vs) (.inr ⟨hc,hd⟩) 1)).1
 have q1:=eqT ta tb xs ys a2 b2
 have q2:=eqT ua ub zs ws a3 b3
 cases r1 with
 |cons e1 r1'=>cases r1' with
  |cons e2 r1''=>cases r1'';cases r2 with
   |cons e3 r2'=>cases r2' with
    |cons e4 r2'' =>
     cases r2''
     cases e1
     cases e2
     cases e3
     cases e4
     have key:∀f,∃r,HT.LtE A.in1 s f [.ref ta,.ref ua] [.ref tb,.ref ub] r:=fun f=>by
      obtain⟨ra,hra⟩:=HT.LtE.ints (A:=A.in1.in1) (s:=s) (f:=decide (j1.toArray.size<j2.toArray.size)) i1 i2
      obtain⟨rb,hrb⟩:=HT.LtE.ints (A:=A.in1.in1) (s:=s) (f:=decide (j3.toArray.size<j4.toArray.size)) i3 i4
      cases h1:decide (xs=ys) with
      |false=>
       rw[h1]at q1
       exact⟨ra,.ne q1 (HT.lt_tupE o1 o2 hra (by rw[in1_units];lia))⟩
      |true=>
       rw[h1]at q1
       cases h2:decide (zs=ws) with
       |false=>
        rw[h2]at q2
        exact⟨rb,.eq q1 (.ne q2 (HT.lt_tupE o3 o4 hrb (by rw[in1_units];lia)))⟩
       |true=>
        rw[h2]at q2
        exact⟨f,.eq q1 (.eq q2 .endL)⟩
     obtain⟨r,hr⟩:=key _
     exact⟨r,HT.lt_tupE p1 p2 hr s!""⟩
noncomputable def KeyP (K:α3)(H:Hp)(t a:Addr):Prop:=∃n:Int,SqT K H t [.int n,.ref a]
theorem KeyP.mono {K:α3}   (h:KeyP K H t a)(s:Same H H'):KeyP K H' t a:=by
 obtain⟨n,h⟩:=h
 exact⟨n,s.seqT h⟩
theorem KeyP.off {K:α3}    (h:KeyP K H t a)(hS:H S=some (.lst xs)):KeyP K (upd H S (.lst ys)) t a:=by
 obtain⟨n,ht2⟩:=h
 refine⟨n,?_⟩
 rcases ht2 with ht2|ht2
 ·left
  rcases ht2 with ht2|⟨o,ht2⟩
  ·exact .inl (by rw[Ag (fun z=>by rw[z,hS]at ht2;cases ht2)];exact ht2)
  ·exact .inr ⟨o,by rw[Ag (fun z=>by rw[z,hS]at ht2;cases ht2)];exact ht2⟩
 ·exact .inr ht2
theorem CC.eqD {K:α3}   (ha:CC K H a)(hb:CC K H b):∃r,EqD K H 3 (.ref a) (.ref b) r:=by
 obtain⟨ta,ua,xs,zs,a1,a2,a3⟩:=ha
 obtain⟨tb,ub,ys,ws,b1,b2,b3⟩:=hb
 refine⟨_,.inr ⟨a,b,_,_,rfl,rfl,.inr ⟨a1,b1⟩,fun i=>if i=0 then decide (xs=ys) else decide (zs=ws),fun i x y hx hy=>?_,rfl⟩⟩
 match i,hx,hy with
 |0,hx,hy=>
  cases hx
  cases hy
  exact EqD.ints (.inr ⟨a2,b2⟩) 1
 |1,hx,hy=>
  cases hx
  cases hy
  exact EqD.ints (.inr ⟨a3,b3⟩) 1
 |i+2,hx,hy=>cases hx
theorem OE        (hu:A.units+9<cLine)(I:Inv X pins σ H s)(ht:KeyP X.K H t a)(hv:KeyP X.K H u b)(ha:CC X.K H a)(hb:CC X.K H b):
  ∃r,∀(prog:Program) (w:World) (E Q:Value->Shared->Prop),Q (.bool r) s->wpAny (model prog w) A (richCompare .Lt (.ref t) (.ref u)) Q E s:=by
 obtain⟨n,h1⟩:=ht
 obtain⟨m,h2⟩:=hv
 obtain⟨its,r1,p1,_⟩:=I.tuple h1
 obtain⟨its2,r2,p2,_⟩:=I.tuple h2
 obtain⟨rp,hrp⟩:=Nl (A:=A.in1) (by rw[in1_units];lia) I ha hb
 obtain⟨re,hre⟩:=ha.eqD hb
 have q2:=(EqD.at (x:=V.ref a) (y:=V.ref b) (u:=Value.ref a) (v:=Value.ref b) I 3 A.in1 (by rw[in1_units];lia) rfl rfl hre).1
 cases r1 with
 |cons e1 r1'=>cases r1' with
  |cons e2 r1''=>cases r1'';cases r2 with
   |cons e3 r2'=>cases r2' with
    |cons e4 r2'' =>
     cases r2''
     obtain⟨t1,rfl⟩:=e1
     obtain⟨t2,rfl⟩:=e3
     cases e2
     cases e4
     have key:∀f,∃r,HT.LtE A.in1 s f [.int n t1,.ref a] [.int m t2,.ref b] r:=fun f=>by
      obtain⟨e,he,hiff⟩:=HT.eqAt_int A.in1 s n t1 m t2
      cases e with
      |false=>exact⟨_,.ne he fun prog w E Q hq=>HT.rcLt_intD _ s n t1 m t2 prog w E Q hq⟩
      |true=>
       cases re with
       |false=>exact⟨rp,.eq he (.ne q2 hrp)⟩
       |true=>exact⟨f,.eq he (.eq q2 .endL)⟩
     obtain⟨r,hr⟩:=key _
     exact⟨r,HT.lt_tupE p1 p2 hr s!""⟩
section
variable {X:Cx} {pins:α7} {σ:L2.St} {A:Around}
noncomputable def SV (X:Cx)(pins:α7)(σ:L2.St)(A:Around)(f:Value)(ws:List Addr)(H0:Hp):Prop:=∀w∈ws,∀(H':Hp) (s':Shared),Inv X pins σ H' s'->Same H0 H' ->
 wpAny (model X.prog X.w) A (call f [.ref w]) (EP X pins σ (fun k H''=>∃t,k=.ref t/\Same H' H''/\KeyP X.K H'' t w)) (fun _ _=>False) s'
theorem Nm  {q It S l:Addr}    (hh:A.handled=none)(hu:A.units+10<cLine)
  (hl:SqL X.K H0 l (ws.map V.ref)) (hW:∀a∈ws,CC X.K H0 a) (hS0:H0 S=none) (hSI:S≠It)
  (hT:∀pl,SV X (pins++pl) σ A.in1 (.ref q) ws H0)
  (hR:∀s' H' w,Inv X pins σ H' s'->Same H0 H'->w∈ws->R (.ok (.ret (.ref w))) s'):
  ∀(r j:Nat) (H:Hp) (s:Shared) (t w:Addr),ws.length-j=r->j<=ws.length->Inv X pins σ H s->Same H0 H->FpOk X pins H It->s.heap.IsListIter It l j->H S=some (.lst [.ref w,.ref t])->KeyP X.K H t w->w∈ws.take j ->
   codeAny (model X.prog X.w) A (.builtin "min.loop" ⟨[.ref It,.ref q,.ref S],[("default",dv)]⟩) R s:=by
 have hname:(toString "min" ++ toString ".loop" : String) = "min.loop" := by decide
 intro r
 induction r with
 |zero=>
  intro j H s t w hr hj I hs fp hit hS ht hw
  have hjn:j=ws.length:=by lia
  obtain⟨its,r',pl,_⟩:=I.list (hs.seq hl)
  cases Bu r'
  obtain⟨_,jts,n,rv,_,hoS⟩:=I.lstM hS
  have hjt:jts=[.ref w,.ref t]:=Bu (ts:=[w,t]) rv
  subst hjt
  refine qt_ qI_ ?_
  rw[qa_ jV_ _]
  show wpAny _ A.in1 (seqItems? (.ref S) >>= _) _ _ _
  refine je_ (q3_ hoS rfl ?_)
  show wpAny _ A.in1 (tryCatch (pyNext (.ref It)) _ >>= _) _ _ _
  refine je_ (qq_ (qZ_ (A:=A.in1) hh hit pl.isList (by simp[hjn]) fun h' he'=>?_))
  have I1:=I.turnedF (t':=s.toks) (h':=h') (fun b o hb e=>he' b o hb e) fp
  have hoS':=he' S _ hSI hoS
  show wpAny _ A.in1 (updateSeq S (fun _ => #[]) >>= _) _ _ _
  refine je_ ?_
  refine qT_ hoS' rfl (je_ (xx_ (jo_ ?_)))
  rw[hjn,jL_]at hw
  exact hR _ _ w (I1.lset (its':=[]) hS hoS' rfl .nil (j1_ _)) (hs.over hS0) hw
 |succ r ih=>
  intro j H s t w hr hj I hs fp hit hS ht hw
  have hlt:j<ws.length:=by lia
  obtain⟨its,r',pl,_⟩:=I.list (hs.seq hl)
  cases Bu r'
  obtain⟨_,jts,n,rv,_,hoS⟩:=I.lstM hS
  have hjt:jts=[.ref w,.ref t]:=Bu (ts:=[w,t]) rv
  subst hjt
  refine qt_ qI_ ?_
  rw[qa_ jV_ _]
  show wpAny _ A.in1 (seqItems? (.ref S) >>= _) _ _ _
  refine je_ (q3_ hoS rfl ?_)
  show wpAny _ A.in1 (tryCatch (pyNext (.ref It)) _ >>= _) _ _ _
  refine je_ (qq_ (qV_ (A:=A.in1) (x:=.ref ws[j]) hit pl.isList (by simp[hlt]) fun h' hit' hs'=>?_))
  have I1:=I.turnedF (t':=s.toks) (h':=h') (fun b o hb e=>hs'.extBut b o hb e) fp
  obtain⟨oI,hoI,hoc,hod⟩:=id hit'
  have I1p:=I1.pinned (fp:=[It]) (fun b hb=>by rw[jb_.mp hb];exact fp) (fun b hb=>by rw[jb_.mp hb];exact⟨oI,hoI,fun v z=>by rw[hod]at z;cases z⟩)
  have hvm:ws[j]∈ws:=jB_ hlt
  show wpAny _ A.in1 (tryCatch (holding [.ref ws[j]] (call (.ref q) [.ref ws[j]])) _ >>= _) _ _ _
  refine je_ (qq_ (qd_ (qz_ (hT _ ws[j] hvm H _ I1p hs) (fun x s'' he=>?_) fun _ _ hF=>hF.elim)))
  obtain⟨k,H2,I2,rk,t2,rfl,s2,ht2⟩:=he
  cases rk
  have hpin:=I2.pin (It,oI) (jk_ _ (jk_ _ (BE jv_ hoI)))
  have I3:=I2.unpinned
  have hS2:=s2 _ _ hS
  have hs2:=hs.trans s2
  have fp2:FpOk X pins H2 It:=⟨hpin.2.1,fp.2⟩
  obtain⟨_,jts2,n2,rv2,_,hoS2⟩:=I3.lstM hS2
  have hjt2:jts2=[.ref w,.ref t]:=Bu (ts:=[w,t]) rv2
  subst hjt2
  have hwm:w∈ws:=xr_ hw
  obtain⟨rr,hrr⟩:=OE (A:=A.in1) (by rw[in1_units];lia) I3 ht2 (ht.mono s2) ((hW _ hvm).mono hs2) ((hW _ hwm).mono hs2)
  show wpAny _ A.in1 (tryCatch (holding [.ref ws[j],.ref t2] (richCompare .Lt (.ref t2) (.ref t) >>= _)) _ >>= _) _ _ _
  refine je_ (qq_ (qd_ (je_ (hrr _ _ _ _ ?_))))
  refine je_ (qd_ (qS_ ?_))
  refine je_ (xx_ (jo_ ?_))
  have et:ws.take (j+1)=ws.take j++[ws[j]]:=by rw[jF_,ja_ hlt];rfl
  cases rr with
  |true=>
   simp only[zi_]
   refine je_ ?_
   refine qT_ hoS2 rfl (je_ (xx_ ?_))
   rw[hname]
   have I4:=I3.lset (t':=s''.toks) (f:=fun _ => #[.ref ws[j],.ref t2]) (its':=[.ref ws[j],.ref t2]) (ys:=[.ref ws[j],.ref t2]) hS2 hoS2 rfl (.cons rfl (.cons rfl .nil)) (by show 2<=sizeLine;decide)
   refine jo_ ⟨qM_ jV_ _,ih (j+1) _ _ t2 ws[j] s!"" hlt I4 (hs2.over hS0) ⟨by rw[Ag hSI.symm];exact fp2.1,fp2.2⟩ ⟨oI,(j9_ _ _ hSI).trans hpin.1,hoc,hod⟩ Ab ?_ (by rw[et];exact jk_ _ (jb_.mpr rfl))⟩
   exact ht2.off hS2
  |false=>
   simp only[q0_,xO_]
   refine je_ (xx_ ?_)
   rw[hname]
   refine jo_ ⟨qM_ jV_ _,ih (j+1) _ _ t w s!"" hlt I3 hs2 fp2 ⟨oI,hpin.1,hoc,hod⟩ hS2 (ht.mono s2) (by rw[et];exact jr_ _ hw)⟩
theorem Nn       (hh:A.handled=none)(hu:A.units+10<cLine)(I:Inv X pins σ H s)
  (hl:SqL X.K H l (ws.map V.ref)) (hW:∀a∈ws,CC X.K H a) (hT:∀pl,SV X (pins++pl) σ A.in1 (.ref q) ws H)
  (h0:ws=[]->∀s' H',Inv X pins σ H' s'->Same H H'->Q dv s')
  (h1:∀s' H' w,Inv X pins σ H' s'->Same H H'->w∈ws->Q (.ref w) s'):
  wpAny (model X.prog X.w) A (call (.builtin "min") [.ref l] [(Str.ofString "key",.ref q),(Str.ofString "default",dv)]) Q E s:=by
 have hname:(toString "min" ++ toString ".loop" : String) = "min.loop" := by decide
 refine KR I hl fun S u hSI hSn I2 fp gI gS=>?_
 have sH:Same H (upd H S (.lst [])):=Same.new hSn
 obtain⟨its2,r2,pl2,_⟩:=I2.list (sH.seq hl)
 cases Bu r2
 refine qt_ qI_ ?_
 rw[qa_ jV_ _]
 show wpAny _ A.in1 (seqItems? (.ref _) >>= _) _ _ _
 refine je_ (q3_ gS rfl ?_)
 show wpAny _ A.in1 (tryCatch (pyNext (.ref s.heap.objs.size)) _ >>= _) _ _ _
 by_cases hne:ws=[]
 ·refine je_ (qq_ (qZ_ (A:=A.in1) (i:=0) hh ⟨_,gI,rfl,rfl⟩ pl2.isList (by simp[hne]) fun h' he'=>?_))
  have I3:=I2.turnedF (t':=u.toks) (h':=h') (fun b o hb e=>he' b o hb e) fp
  refine je_ (wpAny_rule (jo_ ?_))
  exact h0 hne _ _ I3 sH
 ·have hlt:0<ws.length:=List.length_pos_iff.mpr hne
  refine je_ (qq_ (qV_ (A:=A.in1) (i:=0) (x:=.ref ws[0]) ⟨_,gI,rfl,rfl⟩ pl2.isList (by simp[hlt]) fun h' hit' hs'=>?_))
  have I3:=I2.turnedF (t':=u.toks) (h':=h') (fun b o hb e=>hs'.extBut b o hb e) fp
  obtain⟨oI,hoI,hoc,hod⟩:=id hit'
  have I3p:=I3.pinned (fp:=[s.heap.objs.size]) (fun b hb=>by rw[jb_.mp hb];exact fp) (fun b hb=>by rw[jb_.mp hb];exact⟨oI,hoI,fun v z=>by rw[hod]at z;cases z⟩)
  have hvm:ws[0]∈ws:=jB_ hlt
  show wpAny _ A.in1 (tryCatch (holding [.ref ws[0]] (call (.ref q) [.ref ws[0]])) _ >>= _) _ _ _
  refine je_ (qq_ (qd_ (qz_ (hT _ ws[0] hvm _ _ I3p sH) (fun x s'' he=>?_) fun _ _ hF=>hF.elim)))
  obtain⟨k,H2,I4,rk,t2,rfl,s2,ht2⟩:=he
  cases rk
  have hpin:=I4.pin (s.heap.objs.size,oI) (jk_ _ (jk_ _ (BE jv_ hoI)))
  have I5:=I4.unpinned
  have hS2:=s2 _ _ (Ab:upd H S (.lst []) S=some (.lst []))
  obtain⟨_,jts2,n2,rv2,_,hoS2⟩:=I5.lstM hS2
  have hjt2:jts2=[]:=Bu (ts:=[]) rv2
  subst hjt2
  show wpAny _ A.in1 (updateSeq S (fun _ => #[.ref ws[0],.ref t2]) >>= _) _ _ _
  refine je_ ?_
  refine qT_ hoS2 rfl ?_
  rw[hname]
  have I6:=I5.lset (t':=s''.toks) (f:=fun _ => #[.ref ws[0],.ref t2]) (its':=[.ref ws[0],.ref t2]) (ys:=[.ref ws[0],.ref t2]) hS2 hoS2 rfl (.cons rfl (.cons rfl .nil)) (by show 2<=sizeLine;decide)
  have et:ws.take 1=[ws[0]]:=by
   cases ws with
   |nil=>simp at hlt
   |cons a r=>rfl
  refine jo_ ⟨qM_ jV_ _,Nm hh hu hl hW hSn hSI hT h1 _ 1 _ _ t2 ws[0] rfl hlt I6 ((sH.trans s2).over hSn) ⟨by rw[Ag hSI.symm];exact hpin.2.1,fp.2⟩ ⟨oI,(j9_ _ _ hSI).trans hpin.1,hoc,hod⟩ Ab ?_ (by rw[et];exact jb_.mpr rfl)⟩
  exact ht2.off hS2
end
end L2
namespace L2
open PySem PySem.Spec PyProof.Rows S64
noncomputable abbrev lpA (ap:Pos):Arguments:={posonlyargs:=[],args:=[{arg := "pair",annotation:=none,pos:=ap}],vararg:=none,kwonlyargs:=[],kw_defaults:=[],kwarg:=none,defaults:=[]}
noncomputable abbrev lpB (p1 p2 p3 p4 p5 p6 p7 p8 p9 q1 q2 q3 q4:Pos):Expr:=.Tuple [.BinOp (.Call (.Name "len" p1) [.Subscript (.Name "pair" p2) (.Constant (.int 0) 0 p3) p4] [] p5) .Add (.Call (.Name "len" p6) [.Subscript (.Name "pair" p7) (.Constant (.int 1) 0 p8) p9] [] q1) q2,.Name "pair" q3] 0 q4
noncomputable abbrev lpS:Scope:={kind:=.function,names:=[(Str.ofString "pair",.local),(Str.ofString "len",.globalImplicit)],isGenerator:=false,isCoroutine:=false,more:=[]}
theorem Ra:FnScope ["pair"] ["pair"] lpS:=⟨rfl,rfl,rfl,by decide,rfl,fun x hx=>.inl (by rw[jb_.mp hx];rfl),fun y hy=>by
 rcases jJ_.mp hy with rfl|hy
 ·simp
 ·rw[jb_.mp hy];simp⟩
noncomputable def SW (K:α3)(P:Addr)(lp:Pos)(qual:Str)(t:TA):TE:=fun σ H Q=>t σ H fun vs H1=>∃l ws,vs=[.ref l]/\SqL K H1 l (ws.map V.ref)/\(∀a∈ws,CC K H1 a)/\LamT P lp qual H1 /\
 (ws=[]->∀H2,AY P H1 H2->LamT P lp qual H2->Q .non H2)/\∀w H2,AY P H1 H2->LamT P lp qual H2->w∈ws->Q (.ref w) H2
theorem Qc {K:α3}        : SW K P lp qual t σ H Q=t σ H fun vs H1=>∃l ws,vs=[.ref l]/\SqL K H1 l (ws.map V.ref)/\(∀a∈ws,CC K H1 a)/\LamT P lp qual H1 /\
 (ws=[]->∀H2,AY P H1 H2->LamT P lp qual H2->Q .non H2)/\∀w H2,AY P H1 H2->LamT P lp qual H2->w∈ws->Q (.ref w) H2:=rfl
theorem Rb        (hc:X.calm=true)(hr:Room (k+3) X.A)(hg:Gl X "min")(hm:X.mg "min"=none)(hml:X.mg "len"=none)(hcode:X.env.code=.ref c)(C:PySem.W.CodeHd X.base c P)(hbm:BmOk X.mg X.base)
  (ha:PA X [e] ta) (hq:X.env.qual=qual:=by rfl)
  (he:backTo pos (starEach [e] X.env)=(false,eval e X.env)::backTo pos (starEach [] X.env):=by rfl) (hpl:(backTo pos (starEach [e] X.env)).any (·.1)=false:=by rfl):
  PE X (.Call (.Name "min" p) [e] [⟨some "key",.Lambda (lpA ap) (lpB p1 p2 p3 p4 p5 p6 p7 p8 p9 q1 q2 q3 q4) lpS lp,kp⟩,⟨some "default",.Constant .none n p0,kp2⟩] pos) (SW X.K P lp qual ta):=by
 intro pins s σ H Q I h
 subst hq
 refine qE_ (DB I hg hm rfl ?_)
 refine callWith_kw ?_ he hpl
 refine thn (ha pos pins s σ H _ I h) fun us s1 ⟨vs,H1,I1,r1,q1a⟩=>?_
 obtain⟨l,ws,rfl,hl,hW,hP,qa,qb⟩:=q1a
 obtain⟨ps,hP1⟩:=hP.is
 obtain⟨u1,rfl,rx⟩:=vals1 r1
 cases rx
 refine kws_cons (Jp I1 hcode C hP hbm rfl rfl fun f c' oc vs t ctv H2 s2 I2 hS2 hT2 hc2 hd hv=>kws_cons (jo_ (kws_nil ?_)))
 show wpAny (model X.prog X.w) X.A (call (.builtin "min") [.ref l] [(Str.ofString "key",.ref f),(Str.ofString "default",.none)]) _ _ s2
 have nP:∀b ys,SqT X.K H1 b ys->SqT X.K H2 b ys:=fun b ys=>hS2.tsq hP1
 have hl2:SqL X.K H2 l (ws.map V.ref):=hS2.lsq hP1 hl
 have hW2:∀a∈ws,CC X.K H2 a:=fun a ha=>by
  obtain⟨ta,tb,xs,ys,z1,z2,z3⟩:=hW a ha
  exact⟨ta,tb,xs,ys,nP _ _ z1,nP _ _ z2,nP _ _ z3⟩
 have LT:∀H',Same H2 H'->LamT P lp X.env.qual H':=fun H' g1=>.inr ⟨c',oc,vs,t,g1 _ _ hT2,g1 _ _ hc2,hd,hv⟩
 refine Nn (I.ok.hd hc) (by have:=hr.un;lia) I2 hl2 hW2 (fun pl w hw H' s' I' hS=>?_) (fun hz s' H' I' g1=>⟨.non,H',I'.unpinned,rfl,qa hz H' (hS2.trans (AY.of g1)) (LT H' g1)⟩) (fun s' H' w I' g1 hw=>⟨.ref w,H',I'.unpinned,rfl,qb w H' (hS2.trans (AY.of g1)) (LT H' g1) hw⟩)
 have hf:=(I'.pin (f,PySem.W.kla_obj "<lambda>" (X.env.qual ++ "<lambda>") (lpA ap) (lpB p1 p2 p3 p4 p5 p6 p7 p8 p9 q1 q2 q3 q4) lpS [] ((X.mg "__name__").getD .none) c' ctv) (jk_ _ (jr_ _ (jk_ _ (jv_))))).1
 have hc':s'.heap.get? c'=some oc:=(I'.hok c' _ (hS _ _ hc2)).1
 have hcr:s'.heap.CodeRec (.ref c') (X.env.qual ++ "<lambda>"):=⟨c',oc,vs,t,rfl,hc',hd,hv⟩
 obtain⟨ta,tb,xs,ys,z1,z2,z3⟩:=(hW2 w hw).mono hS
 refine zf_ (xR_ (Qa (k:=k) (N:=["pair"]) (ps:=["pair"]) (vs:=[.ref w]) (us:=[.ref w]) (E:=fun _ _ _=>False) (Q:=fun kv H''=>∃t,kv=.ref t/\Same H' H''/\KeyP X.K H'' t w) Ra (hr.in1.mono s!"") I'.env0.in1 hf hcr rfl (.cons rfl .nil) rfl
  (AL (Aa (Av AN (Aq Ai rfl hml rfl (Aa (Qu Am (pv 0) Ae (fun _ _=>rfl)) Ad)) (Aq Ai rfl hml rfl (Aa (Qu Am (pv 0) Ae (fun _ _=>rfl)) Ad))) (Aa (pv 0) Ad))) ?_) fun r s2 hq=>?_)
 ·refine⟨.ref w,rfl,?_⟩
  exact⟨w,_,0,.ref ta,rfl,rfl,z1,rfl,ta,_,rfl,.inr z2,.ref w,rfl,w,_,1,.ref tb,rfl,rfl,z1,rfl,tb,_,rfl,.inr z3,_,_,rfl,rfl,.ref w,rfl,(show 2<=sizeLine by decide),fun p hp=>⟨p,rfl,Same.new hp,_,.inl (.inl Ab)⟩⟩
 ·cases r with
  |error e=>exact hq.elim
  |ok fl=>
   cases fl with
   |ret u=>exact I'.after hq
   |next=>exact False.elim hq
   |brk=>exact False.elim hq
   |cont=>exact False.elim hq
end L2
namespace L2
open PySem PySem.Spec PyProof.Rows
noncomputable def SmT (H H':Hp):Prop:=∀b o,(∀ps,o ≠ .tbl ps)->H b=some o->H' b=some o
theorem SmT.of  (s:Same H H'):SmT H H':=fun b o _ e=>s b o e
theorem SmT.ofT    (s:AY T H H')(hT:H T=some (.tbl ps)):SmT H H':=fun b o ho e=>s.ne e ho hT
theorem SmT.trans  (s:SmT H H')(t:SmT H' H''):SmT H H'':=fun b o ho e=>t b o ho (s b o ho e)
theorem SmT.tup {H H':Hp}(s:SmT H H'){b:Addr}{xs:List V}(e:H b=some (.tup xs)):H' b=some (.tup xs):=s b _ (fun _ z=>by cases z) e
theorem SmT.lst {H H':Hp}(s:SmT H H'){b:Addr}{xs:List V}(e:H b=some (.lst xs)):H' b=some (.lst xs):=s b _ (fun _ z=>by cases z) e
theorem SmT.tsq {K:α3}  (s:SmT H H')   (h:SqT K H b ys):SqT K H' b ys:=by
 rcases h with (h|⟨o,h⟩)|h
 ·exact .inl (.inl (s _ _ (fun _ z=>by cases z) h))
 ·exact .inl (.inr ⟨o,s _ _ (fun _ z=>by cases z) h⟩)
 ·exact .inr h
theorem SmT.lsq {K:α3}  (s:SmT H H')   (h:SqL K H b ys):SqL K H' b ys:=by
 rcases h with (h|⟨o,h⟩)|h
 ·exact .inl (.inl (s _ _ (fun _ z=>by cases z) h))
 ·exact .inl (.inr ⟨o,s _ _ (fun _ z=>by cases z) h⟩)
 ·exact .inr h
theorem SmT.over    (s:SmT H H')(h:H q=none):SmT H (upd H' q o):=fun b u hu e=>by
 rw[Ag (fun z=>by rw[z,h]at e;cases e)]
 exact s b u hu e
theorem SmT.tk  (s:SmT H H'):L2.TK H H':=fun b xs e=>s.tup e
theorem SmT.same  (s:SmT H H')(t:Same H' H''):SmT H H'':=s.trans (SmT.of t)
theorem Np    (s:L2.TK H H')(h:H' q=some (.lst xs)):L2.TK H (upd H' q (.lst ys)):=fun b zs e=>by
 have:=s b zs e
 rw[Ag (fun z=>by rw[z,h]at this;cases this)]
 exact this
theorem LamT.off      (h:LamT T lp qual H)(hq:H q=some (.lst xs)):LamT T lp qual (upd H q (.lst ys)):=by
 have k:∀b o,(∀zs,o≠HO.lst zs)->H b=some o->upd H q (.lst ys) b=some o:=fun b o ho e=>by
  rw[Ag (fun z=>by rw[z,hq]at e;cases e;exact ho _ rfl)];exact e
 rcases h with h|⟨c',oc,vs,t,h1,h2,h3,h4⟩
 ·exact .inl (k _ _ (fun _ z=>by cases z) h)
 ·exact .inr ⟨c',oc,vs,t,k _ _ (fun _ z=>by cases z) h1,k _ _ (fun _ z=>by cases z) h2,h3,h4⟩
theorem LamT.monoT      (h:LamT T lp qual H)(s:AY P H H')(hP:H P=some (.tbl ps))(hne:T≠P):LamT T lp qual H':=by
 rcases h with h|⟨c',oc,vs,t,h1,h2,h3,h4⟩
 ·exact .inl (s _ _ hne h)
 ·exact .inr ⟨c',oc,vs,t,s _ _ hne h1,s.ne h2 (fun _ z=>by cases z) hP,h3,h4⟩
theorem LF   {K:α3}
  (KX:K.In s₁.heap) (hns:s₁.heap.Ns mainGlobals mg) (hb:s₁.heap.Ns builtinsNs mb) (hbb:∀x:Str,x ≠ "__name__" -> mb x=bootBuiltins x) (hlim:s₁.heap.NoLimit) (hg:s₁.gens = #[]) (hbm:BmOk mg s₁.heap)
  (hC:PySem.W.CodeHd s₁.heap c T) (hT:s₁.heap.get? T=some (PySem.W.tabObj #[])) (hKT:K.lookup T=none) (hC2:PySem.W.CodeHd s₁.heap c2 T2) (hT2:s₁.heap.get? T2=some (PySem.W.tabObj #[])) (hKT2:K.lookup T2=none)
  (ha:s₁.heap.get? a=some {cls:=.type "list",data:=.seq vs.toArray}) (hi:IntsAre vs ns) (hl:ns.length<=sizeLine) (hr:Room k callerA)
  (F:∀base:Heap,K.In base->base.Ns mainGlobals mg->PySem.W.CodeHd base c T->PySem.W.CodeHd base c2 T2->BmOk mg base->FnOk P w K mg base CX k fa fd [x] sp) (hbind:∀(s:Shared) (u:Value),BindsTo s fd ⟨[u],[]⟩ [(x,u)])
  (hsp:∀H:Hp,H T=some (.tbl #[])->H T2=some (.tbl #[])->SqL K H a (ns.map V.int)->sp [.ref a] H (fun v _=>v=.bl true) fun _ _ _=>False)
  (hCX:∀H e s',CX [] H s₁ (fun _ _ _=>False) e s'->False):
  codeAny (model P w) callerA (.call (.ref fa) ⟨[.ref a],[]⟩) (fun r s'=>r=.ok (.ret (.bool true))/\OldK s₁.heap s'.heap/\s'.os=s₁.os/\AllBare s'.gens) s₁:=by
 have rv:=Jb hi
 have lenV:=hi.length
 have hTa:T≠a:=fun z=>by subst z;rw[hT]at ha;cases ha
 have hTa2:T2≠a:=fun z=>by subst z;rw[hT2]at ha;cases ha
 have core:∀H:Hp,H T=some (.tbl #[])->H T2=some (.tbl #[])->SqL K H a (ns.map V.int)->HOk P w H s₁.heap->(∀b,H b≠none->b=T\/b=T2\/(b=a/\K.lookup a=none/\∃o xs,H a=some (.frz o (.lst xs)))) ->
   codeAny (model P w) callerA (.call (.ref fa) ⟨[.ref a],[]⟩) (fun r s'=>r=.ok (.ret (.bool true))/\OldK s₁.heap s'.heap/\s'.os=s₁.os/\AllBare s'.gens) s₁:=by
  intro H hHT hHT2 hS hok hA
  have free:∀{b:Addr} {o:Obj},s₁.heap.get? b=some o->o.cls ≠ .none->o.data ≠ .seq vs.toArray 0->H b=none:=fun {b o} e h1 h2=>by
   cases q:H b with
   |none=>rfl
   |some u=>
    rcases hA b (by rw[q];simp) with rfl|rfl|⟨rfl,_⟩
    ·rw[hT]at e;cases e;exact absurd rfl h1
    ·rw[hT2]at e;cases e;exact absurd rfl h1
    ·rw[ha]at e;cases e;exact absurd rfl h2
  have nsK:∀{b:Addr} {m:Str->α5},s₁.heap.Ns b m->(hidT s₁.heap H).Ns b m:=fun {b m} ⟨o,es,ep,e,d,r⟩=>⟨o,es,ep,EG e (by
   cases q:H b with
   |none=>rfl
   |some u=>
    rcases hA b (by rw[q];simp) with rfl|rfl|⟨rfl,_⟩
    ·rw[hT]at e;cases e;cases d
    ·rw[hT2]at e;cases e;cases d
    ·rw[ha]at e;cases e;cases d),d,r⟩
  have hKb:K.In (hidT s₁.heap H):=fun b o e=>EG (KX b o e) (by
   cases q:H b with
   |none=>rfl
   |some u=>
    rcases hA b (by rw[q];simp) with rfl|rfl|⟨rfl,z,_⟩
    ·rw[hKT]at e;cases e
    ·rw[hKT2]at e;cases e
    ·rw[z]at e;cases e)
  have hM:Mod K mg (hidT s₁.heap H):=⟨hKb,nsK hns,⟨mb,nsK hb,hbb⟩,let ⟨mc,h1,h2⟩:=hlim;⟨mc,nsK h1,h2⟩⟩
  have e0:Env0 P w K mg (hidT s₁.heap H) callerA [] s₁ H:=⟨rfl,hM,fun b o e=>Qm e,Nat.le_of_eq (LL _ _),trivial,fun b hb=>absurd (show b∈([]:List Addr) from hb) (by simp),hok,.of_eq hg⟩
  have hCb:PySem.W.CodeHd (hidT s₁.heap H) c T:=by
   obtain⟨o,ws,file,tf,flags,tg,inF,text,tt,e,hc,hd,r⟩:=id hC
   exact⟨o,ws,file,tf,flags,tg,inF,text,tt,EG e (free e (by rw[hc];intro z;cases z) (by rw[hd];intro z;cases z)),hc,hd,r⟩
  have hCb2:PySem.W.CodeHd (hidT s₁.heap H) c2 T2:=by
   obtain⟨o,ws,file,tf,flags,tg,inF,text,tt,e,hc,hd,r⟩:=id hC2
   exact⟨o,ws,file,tf,flags,tg,inF,text,tt,EG e (free e (by rw[hc];intro z;cases z) (by rw[hd];intro z;cases z)),hc,hd,r⟩
  have hbb2:BmOk mg (hidT s₁.heap H):=by
   obtain⟨bm,ob,b1,b2,b3,b4,b5,b6⟩:=hbm
   exact⟨bm,ob,b1,b2,EG b3 (free b3 (by rw[b4];intro z;cases z) (by rw[b6];intro z;cases z)),b4,b5,b6⟩
  refine xR_ ((F _ hKb (nsK hns) hCb hCb2 hbb2).run callerA [] s₁ H ⟨[.ref a],[]⟩ [.ref a] [.ref a] _ _ hr e0 (hbind s₁ (.ref a)) (.cons rfl .nil) (hsp H hHT hHT2 hS)) fun r s' h=>?_
  cases r with
  |error e=>exact (hCX H e s' h).elim
  |ok fl=>
   cases fl with
   |next=>exact False.elim h
   |brk=>exact False.elim h
   |cont=>exact False.elim h
   |ret u=>
    obtain⟨v,H',os,bare,un,hok',r',q⟩:=h
    have q':v=.bl true:=q
    subst q'
    obtain rfl:u=Value.bool true:=r'
    have noB:∀b:Addr,b∉frs ([]:List Env):=fun b z=>absurd (show b∈([]:List Addr) from z) (by simp)
    have all:∀b o,s₁.heap.get? b=some o->asItWas s₁.heap s'.heap b o:=fun b o e=>by
     cases q:H b with
     |none=>exact .inl (un.keep b o e q (noB b) (by simp))
     |some u=>
      rcases hA b (by rw[q];simp) with rfl|rfl|⟨rfl,_,ob,xs,z⟩
      ·obtain⟨more,z2⟩:=un.tbls b _ hHT
       have e2:s'.heap.get? b=some {cls:=.none,data:=.fields (#[]++more)}:=hok' b _ z2
       rw[hT]at e;cases e
       obtain⟨o',ws,_,_,_,_,_,_,_,e3,hc,hd,h11,_⟩:=hC
       exact .inr (.inl ⟨⟨c,o',ws,e3,hc,hd,h11⟩,rfl,#[],more,rfl,e2⟩)
      ·obtain⟨more,z2⟩:=un.tbls b _ hHT2
       have e2:s'.heap.get? b=some {cls:=.none,data:=.fields (#[]++more)}:=hok' b _ z2
       rw[hT2]at e;cases e
       obtain⟨o',ws,_,_,_,_,_,_,_,e3,hc,hd,h11,_⟩:=hC2
       exact .inr (.inl ⟨⟨c2,o',ws,e3,hc,hd,h11⟩,rfl,#[],more,rfl,e2⟩)
      ·have z2:=un.frzs b ob _ z
       obtain⟨e1,_⟩:=hok b _ z
       obtain⟨e2,_⟩:=hok' b _ z2
       rw[e]at e1;cases e1
       exact .inl e2
    refine⟨rfl,⟨all,fun b o e=>?_⟩,os,bare⟩
    exact un.there b o e (by simp)
 cases hk:K.lookup a with
 |some o=>
  have e:=KX a o hk
  rw[ha]at e
  cases e
  refine core (fun b=>if b=T\/b=T2 then some (.tbl #[]) else none) (if_pos (.inl rfl)) (if_pos (.inr rfl)) (.inr ⟨_,vs.toArray,_,hk,rfl,rfl,rfl,by rw[ji_,lenV];exact hl,by simpa using rv⟩) (fun b u z=>?_) (fun b z=>?_)
  ·by_cases hb:b=T\/b=T2
   ·have z':=(if_pos hb).symm.trans z
    cases z'
    rcases hb with hb|hb<;>subst hb
    ·exact hT
    ·exact hT2
   ·have z':=(if_neg hb).symm.trans z
    cases z'
  ·by_cases hb:b=T\/b=T2
   ·rcases hb with hb|hb
    ·exact .inl hb
    ·exact .inr (.inl hb)
   ·exact absurd (if_neg hb) z
 |none=>
  have hna:¬ (a=T\/a=T2):=fun z=>z.elim (fun z=>hTa z.symm) (fun z=>hTa2 z.symm)
  refine core (fun b=>if b=T\/b=T2 then some (.tbl #[]) else if b=a then some (.frz {cls:=.type "list",data:=.seq vs.toArray} (.lst (ns.map V.int))) else none) (if_pos (.inl rfl)) (if_pos (.inr rfl)) (.inl (.inr ⟨{cls:=.type "list",data:=.seq vs.toArray},by show (if a=T\/a=T2 then _ else _)=_;rw[if_neg hna,if_pos rfl]⟩)) (fun b u z=>?_) (fun b z=>?_)
  ·by_cases hb:b=T\/b=T2
   ·have z':=(if_pos hb).symm.trans z
    cases z'
    rcases hb with hb|hb<;>subst hb
    ·exact hT
    ·exact hT2
   ·have z1:=(if_neg hb).symm.trans z
    by_cases hb2:b=a
    ·have z':=(if_pos hb2).symm.trans z1
     cases z'
     subst hb2
     exact⟨ha,by rw[jd_];exact hl,vs,_,rv,ha⟩
    ·have z':=(if_neg hb2).symm.trans z1
     cases z'
  ·by_cases hb:b=T\/b=T2
   ·rcases hb with hb|hb
    ·exact .inl hb
    ·exact .inr (.inl hb)
   ·by_cases hb2:b=a
    ·exact .inr (.inr ⟨hb2,hk,_,_,by show (if a=T\/a=T2 then _ else _)=_;rw[if_neg hna,if_pos rfl]⟩)
    ·exact absurd (by show (if b=T\/b=T2 then _ else _)=_;rw[if_neg hb,if_neg hb2]) z
theorem walk_ofT2 {l:PySem.W.OpenLaw}{n k:Nat}{q:Program}{loose:List Str}{XP:(Str->α5)->Heap->Prop}{YP:World->Heap->Prop}{d:DefRec}{K:Params->α3}{CX:World->CXT}{sp:World->Sp}{x xT xT2:Str}
  (hn:l.most=some n) (hn2:n<=sizeLine) (hdf:d.params.defaults=[]) (hr:Room k callerA)
  (hY:∀(w:World) (h:Heap),YP w h->(K w.params).In h)
  (F:∀(w:World) (mg:Str->α5) (fa:Addr) (h:Heap),YP w h->(K w.params).In h->h.Ns mainGlobals mg->mg d.name=some (.ref fa) ->
   ∃(fd:α6) (c T c2 T2:Addr),PySem.W.tabIn (K w.params) xT=some (c,T)/\(K w.params).lookup T=none/\PySem.W.CodeHd h c T/\h.get? T=some (PySem.W.tabObj #[])/\PySem.W.tabIn (K w.params) xT2=some (c2,T2)/\(K w.params).lookup T2=none/\PySem.W.CodeHd h c2 T2/\h.get? T2=some (PySem.W.tabObj #[])/\T≠T2/\(∀(s:Shared) (u:Value),BindsTo s fd ⟨[u],[]⟩ [(x,u)]) /\
    ∀base:Heap,(K w.params).In base->base.Ns mainGlobals mg->PySem.W.CodeHd base c T->PySem.W.CodeHd base c2 T2->BmOk mg base->FnOk l.prog w (K w.params) mg base (CX w) k fa fd [x] (sp w))
  (hsp:∀(w:World) (H:Hp) (a c T c2 T2:Addr) (ns:α2),ns.length<=n->PySem.W.tabIn (K w.params) xT=some (c,T)->H T=some (.tbl #[])->PySem.W.tabIn (K w.params) xT2=some (c2,T2)->H T2=some (.tbl #[])->T≠T2->SqL (K w.params) H a (ns.map V.int)->sp w [.ref a] H (fun v _=>v=.bl true) fun _ _ _=>False)
  (hCX:∀(w:World) (H:Hp) (s:Shared) (e:Value) (s':Shared),CX w [] H s (fun _ _ _=>False) e s'->False):
  PySem.W.WalkO q loose XP YP l.row.toRowW d [] (fun f vs=>PySem.call f vs):=by
 refine Att.attach_call hn hdf fun w s₀ s₁ mg mb fa o pm cd doc a vs ns G Y ho hd hcd hmg hobj hints hlen hg=>?_
 have KX:=hY w _ Y
 obtain⟨fd,c,T,c2,T2,hti,hKT,hC,hT,hti2,hKT2,hC2,hT2,hne,hb,hF⟩:=F w mg fa _ Y KX G.T.g hmg
 exact LF KX G.T.g G.T.b G.T.builtins G.T.nolimit hg (let ⟨bm,ob,b1,b2,b3,b4,b5,b6⟩:=G.T.bmain;⟨bm,ob,b1,b2,b3,b4,b5,b6⟩) hC hT hKT hC2 hT2 hKT2 hobj hints (qG_ hlen hn2) hr hF hb (fun H hO hO2 hS=>hsp w H a c T c2 T2 ns hlen hti hO hti2 hO2 hne hS) fun H e s'=>hCX w H s₁ e s'
end L2
namespace Mine
open PySem L2 GW GB
local macro_rules | `(tactic| walk_at "rd") => `(tactic| (try dsimp only[↓PV,Na,↓r_ID,↓SF,PX,↓r_BD,SI,↓SM,↓SN,PZ,P0,P4,SK,↓P7,↓P8,P5,P6,↓P9,Nd,↓RW,↓OZ,↓RX,↓Mr,↓RY,↓r_c,↓r_op,↓r_un,↓r_I,↓r_I0,↓r_U,↓O0,↓O1,↓RZ,↓R1,↓O2,↓r_if,↓r_B,↓O3,↓R3,↓r_or,↓R4,↓O4,↓O5,↓R5,↓r_CB,↓R6,↓R7,↓R8,↓R9,↓r_sl,↓O6,↓Kp,↓Sa,↓Sl,↓r_BM,↓Sb,↓Kq,↓O7,↓O8,↓r_Eq,↓r_Ne,↓Se,↓Ms,↓O9,↓Mt,↓Sf,↓r_ip,↓Pb,↓Pd,↓Sh,↓Ku,↓Sm,↓Sn,↓MC,↓ME,↓So,↓Pk,↓Pl,↓MO,↓Sr,↓Jl,↓Pp,↓MK,↓Pq,↓Pu,↓Kw,↓Px,↓Py,↓Kx,↓Ky,↓r_in,↓Su,↓KA,↓Pm,↓Kv,Qb,Qc,↓KL,↓PU,↓KC,↓KD,↓Sv,↓M3,↓Jo,↓PN,Sg,L2.start,jS_,xA_,jR_,q8_,qb_,qw_,List.replicate,xF_,xd_,List.set_cons_zero,List.set_cons_succ,scal])<;>(try simp only[↓PV,Na,↓r_ID,↓SF,PX,↓r_BD,SI,↓SM,↓SN,PZ,P0,P4,SK,↓P7,↓P8,P5,P6,↓P9,Nd,QX,SJ,Q0,OA,Nb,↓RW,↓OZ,↓RX,↓Mr,↓RY,↓r_c,↓r_op,↓r_un,↓r_I,↓r_I0,↓r_U,↓O0,↓O1,↓RZ,↓R1,↓O2,↓r_if,↓r_B,↓O3,↓R3,↓r_or,↓R4,↓O4,↓O5,↓R5,↓r_CB,↓R6,↓R7,↓R8,↓R9,↓r_sl,↓O6,↓Kp,↓Sa,↓Sl,↓r_BM,↓Sb,↓Kq,↓O7,↓O8,↓r_Eq,↓r_Ne,↓Se,↓Ms,↓O9,↓Mt,↓Sf,↓r_ip,↓Pb,↓Pd,↓Sh,↓Ku,↓Sm,↓Sn,↓MC,↓ME,↓So,↓Pk,↓Pl,↓MO,↓Sr,↓Jl,↓Pp,↓MK,↓Pq,↓Pu,↓Kw,↓Px,↓Py,↓Kx,↓Ky,↓r_in,↓Su,↓KA,↓Pm,↓Kv,Qb,Qc,↓KL,↓PU,↓KC,↓KD,↓Sv,↓M3,↓Jo,↓PN,Sg,L2.start,jS_,xA_,jR_,q8_,qb_,qw_,q5_,List.replicate,xF_,xd_,List.set_cons_zero,List.set_cons_succ,Option.some.injEq,V.int.injEq,V.str.injEq,V.ref.injEq,V.bl.injEq,List.cons.injEq,and_true,true_and,and_assoc,exists_and_left,exists_eq_left',exists_eq_left,exists_eq_right,exists_eq,zi_,xO_,q0_,jN_,scal,Nat.reduceAdd,Nat.reduceSub,reduceCtorEq,Bool.not_true,Bool.not_false]))
local macro_rules | `(tactic| walk_at "sc") => `(tactic| exact⟨rfl,rfl,rfl,by decide +kernel,rfl,by decide +kernel,by decide +kernel⟩)
noncomputable def top (i:Nat):Stmt:=PySem.Challenge.pw_guessroom_k82_whole_works_told_apart.main.body.getD i (.Pass ⟨0,0,0,0⟩)
noncomputable abbrev KW:Stmt:=top 5
theorem Rc:FnScope ["word","other"] ["word","other"] (Ao KW):=by walk_at "sc"
noncomputable abbrev CA:Stmt:=top 7
theorem J4:FnScope ["plain","helpers"] ["plain","helpers"] (Ao CA):=by walk_at "sc"
noncomputable abbrev Gj:Stmt:=top 8
theorem GO:FnScope ["plain","helpers","local","rows","signs","letter"] ["plain","helpers","local","rows"] (Ao Gj):=by walk_at "sc"
noncomputable abbrev CU:Stmt:=top 10
theorem A2:FnScope ["house","other","start","steps","found","walked","pair","letter","goal"] ["house","other","start"] (Ao CU):=by walk_at "sc"
noncomputable abbrev ET:Stmt:=top 11
theorem Eb:FnScope ["steps","pair","backwards","step"] ["steps","pair"] (Ao ET):=by walk_at "sc"
noncomputable abbrev Bg:Stmt:=top 13
theorem Bv:FnScope ["plain","rows","signs","helper","row"] ["plain","rows"] (Ao Bg):=by walk_at "sc"
noncomputable abbrev B5:Stmt:=top 14
theorem AV:FnScope ["house","by_letter","start","best","changed","room","goal","signs","row"] ["house","by_letter","start"] (Ao B5):=by walk_at "sc"
noncomputable abbrev AH:Stmt:=top 15
theorem BL:FnScope ["house","by_letter","start","best","rows"] ["house","by_letter","start"] (Ao AH):=by walk_at "sc"
noncomputable abbrev C8:Stmt:=top 16
theorem CD:FnScope ["works","rows","depth","by_letter"] ["works"] (Ao C8):=by walk_at "sc"
noncomputable abbrev Dp:Stmt:=top 17
theorem DU:FnScope ["house","by_letter","letter","found","ahead","room","behind"] ["house","by_letter","letter"] (Ao Dp):=by walk_at "sc"
noncomputable abbrev C9:Stmt:=top 18
theorem J5:FnScope ["plain","j","use"] ["plain","j","use"] (Ao C9):=by walk_at "sc"
noncomputable abbrev CF:Stmt:=top 19
theorem Jq:FnScope ["plain","helpers","j","use"] ["plain","helpers","j","use"] (Ao CF):=by walk_at "sc"
noncomputable abbrev Ec:Stmt:=top 20
theorem J6:FnScope ["plain","helpers","j","use","stretch"] ["plain","helpers","j","use","stretch"] (Ao Ec):=by walk_at "sc"
noncomputable abbrev EU:Stmt:=top 21
theorem Hw:FnScope ["plain","helpers","j","uses","local","rows"] ["plain","helpers","j","uses","local"] (Ao EU):=by walk_at "sc"
noncomputable abbrev Gk:Stmt:=top 22
theorem DV:FnScope ["works","rows","caller","use","helper","plain","pair","ahead","behind"] ["works","rows","caller","use","helper"] (Ao Gk):=by walk_at "sc"
noncomputable abbrev EV:Stmt:=top 23
theorem Bw:FnScope ["works","rows","uses","callers","walked","caller","helper","row"] ["works"] (Ao EV):=by walk_at "sc"
noncomputable abbrev BM:Stmt:=top 24
theorem Bh:FnScope ["plain","house","rows","lost","ways","goals","known"] ["plain","house","rows"] (Ao BM):=by walk_at "sc"
noncomputable abbrev Be:Stmt:=top 25
theorem By:FnScope ["house","other","steps","pair"] ["house","other"] (Ao Be):=by walk_at "sc"
noncomputable abbrev Bl:Stmt:=top 26
theorem AB:FnScope ["works","other","plain","rows","uses","j","use","house","local"] ["works","other"] (Ao Bl):=by walk_at "sc"
noncomputable abbrev A3:Stmt:=top 27
theorem BC:FnScope ["works","other","row"] ["works","other"] (Ao A3):=by walk_at "sc"
noncomputable abbrev BY:Stmt:=top 29
theorem GP:FnScope ["script","k"] ["script","k"] (Ao BY):=by walk_at "sc"
noncomputable abbrev CV:Stmt:=top 30
theorem Iq:FnScope ["found"] ["found"] (Ao CV):=by walk_at "sc"
noncomputable abbrev Dq:Stmt:=top 31
theorem Bd:FnScope ["flow","plain","helpers","row","deep","cell","sign"] ["flow","plain","helpers"] (Ao Dq):=by walk_at "sc"
noncomputable abbrev Cu:Stmt:=top 32
theorem C5:FnScope ["plain","helpers","signs","waiting","sign"] ["plain","helpers","signs"] (Ao Cu):=by walk_at "sc"
noncomputable abbrev CW:Stmt:=top 33
theorem BN:FnScope ["plain","helpers","signs","top","due","called","words","sign"] ["plain","helpers","signs","top"] (Ao CW):=by walk_at "sc"
noncomputable abbrev Dr:Stmt:=top 34
theorem DW:FnScope ["flow","k","many","cell","mixed"] ["flow","k","many"] (Ao Dr):=by walk_at "sc"
noncomputable abbrev Bp:Stmt:=top 35
theorem AU:FnScope ["flow","at","letters","rooms","marks","ways","room","first","mark"] ["flow","at","letters"] (Ao Bp):=by walk_at "sc"
noncomputable abbrev Bq:Stmt:=top 36
theorem F1:FnScope ["flow","plain","helpers"] ["flow","plain","helpers"] (Ao Bq):=by walk_at "sc"
noncomputable abbrev Cv:Stmt:=top 37
theorem BZ:FnScope ["house","word","room","letter"] ["house","word"] (Ao Cv):=by walk_at "sc"
noncomputable abbrev BO:Stmt:=top 38
theorem Cb:FnScope ["works","signs","top","j","word"] ["works","signs","top"] (Ao BO):=by walk_at "sc"
noncomputable abbrev Bm:Stmt:=top 39
theorem Az:FnScope ["works","flow","way","cell","houses","j","letters","marks","ways","room","row","rows"] ["works","flow","way","cell"] (Ao Bm):=by walk_at "sc"
noncomputable abbrev B0:Stmt:=top 40
theorem BP:FnScope ["works","other","caught","e"] ["works","other"] (Ao B0):=by walk_at "sc"
noncomputable abbrev Ds:Stmt:=top 41
theorem DX:FnScope ["plain","helpers","letters","house"] ["plain","helpers"] (Ao Ds):=by walk_at "sc"
noncomputable abbrev BQ:Stmt:=top 42
theorem DD:FnScope ["works","found","sign"] ["works","found"] (Ao BQ):=by walk_at "sc"
noncomputable abbrev Br:Stmt:=top 43
theorem Bi:FnScope ["house","letters","rooms","at","letter"] ["house","letters"] (Ao Br):=by walk_at "sc"
noncomputable abbrev Bf:Stmt:=top 44
theorem AK:FnScope ["works","plain","good","turn","j","room"] ["works"] (Ao Bf):=by walk_at "sc"
noncomputable abbrev Bx:Stmt:=top 45
theorem A5:FnScope ["house","letters","rooms","turn","room","letter"] ["house","letters"] (Ao Bx):=by walk_at "sc"
noncomputable abbrev Cw:Stmt:=top 46
theorem AQ:FnScope ["works","good","plain","found","at","house","ends","room","sign"] ["works","good"] (Ao Cw):=by walk_at "sc"
noncomputable abbrev A9:Stmt:=top 47
theorem Ay:FnScope ["house","other","letters","couples","at","one","two","letter","couple"] ["house","other","letters"] (Ao A9):=by walk_at "sc"
noncomputable abbrev Cy:Stmt:=top 48
theorem Bk:FnScope ["works","other","good","others_good","used","letters","j"] ["works","other"] (Ao Cy):=by walk_at "sc"
noncomputable abbrev Rf:Stmt:=top 49
theorem DY:FnScope ["script","plain","helpers","cut","works","other","kinds","odd_kind","odd","told","row"] ["script"] (Ao Rf):=by walk_at "sc"
noncomputable abbrev Ci:Pos:=⟨70,25,70,52⟩
noncomputable abbrev GQ:Pos:=⟨84,26,84,74⟩
noncomputable def CY:Caps:=[("letter",none)]
theorem DZ:(Caps.names CY).Nodup:=by decide +kernel
noncomputable def CG:Caps:=[("room",none),("best",some 3),("house",some 0)]
theorem DJ:(Caps.names CG).Nodup:=by decide +kernel
noncomputable def FL:Caps:=[("house",none),("by_letter",some 3)]
theorem GR:(Caps.names FL).Nodup:=by decide +kernel
noncomputable def GS:Caps:=[("use",none)]
theorem Hh:(Caps.names GS).Nodup:=by decide +kernel
noncomputable def Dc:Caps:=[("goal",none),("row",none),("lost",some 3)]
theorem Cj:(Caps.names Dc).Nodup:=by decide +kernel
noncomputable def Dd:Caps:=[("letter",none),("flow",some 0),("rooms",some 3),("first",some 7)]
theorem Ef:(Caps.names Dd).Nodup:=by decide +kernel
noncomputable def De:Caps:=[("j",none),("flow",some 0),("plain",some 1),("helpers",some 2)]
theorem Eg:(Caps.names De).Nodup:=by decide +kernel
noncomputable def Ck:Caps:=[("row",none)]
theorem Dt:(Caps.names Ck).Nodup:=by decide +kernel
noncomputable def Cm:Caps:=[("row",none)]
theorem Du:(Caps.names Cm).Nodup:=by decide +kernel
noncomputable def CH:Caps:=[("room",none),("house",some 0)]
theorem DK:(Caps.names CH).Nodup:=by decide +kernel
noncomputable def D0:Caps:=[("letter",none),("others_good",some 3)]
theorem EW:(Caps.names D0).Nodup:=by decide +kernel
structure Txt (mg:Str->α5):Prop where
 bool:mg "bool"=none
 enumerate:mg "enumerate"=none
 int:mg "int"=none
 isinstance:mg "isinstance"=none
 len:mg "len"=none
 list:mg "list"=none
 max:mg "max"=none
 min:mg "min"=none
 range:mg "range"=none
 reversed:mg "reversed"=none
 sorted:mg "sorted"=none
 tuple:mg "tuple"=none
 zip:mg "zip"=none
structure Exs (K:α3)(mg:Str->α5)(C_j2 C_j1 C_j4:Addr):Prop where
 m_j2:mg "AskError"=some (.ref C_j2)
 m_j1:mg "BadHouse"=some (.ref C_j1)
 m_j4:mg "BadWord"=some (.ref C_j4)
 x_j1:PySem.W.excIn K C_j1 bmV "ValueError.__new__"=true
 c_j1:ExcCls K C_j1
 e_j1:exmOne K (.ref C_j1) (.ref C_j2)=some true
 v_j1:kitOne K (.ref C_j1) (.type "ValueError")=some true
 ee_j1:exmOne K (.ref C_j1) (.ref C_j1)=some true
 k_j1_j2:kitOne K (.ref C_j1) (.ref C_j2)=some true
 k_j1_j1:kitOne K (.ref C_j1) (.ref C_j1)=some true
 k_j1_j4:kitOne K (.ref C_j1) (.ref C_j4)=some false
section
variable {P:Program} {w:World} {K:α3} {mg:Str->α5} {base:Heap}
variable {C_j2 C_j1 C_j4:Addr}
noncomputable def KY:Sp:=fun vs H Q _=>∃n:Int,vs=[.int n]/\Q (.bl true) H
theorem Ir   (F:Fun K "_law_whole" "_law_whole" CV f fd)(T:Txt mg)
  (Z:Exs K mg C_j2 C_j1 C_j4)
  : FnOk P w K mg base CX0 1 f fd ["found"] (KY):=by
 refine F.ok Iq (fun vs H Q E h=>?_) (fun cdv A outer s H vs Q E hr h=>?_)
 ·obtain⟨n,rfl,_⟩:=h;rfl
 ·obtain⟨n,rfl,q⟩:=h
  refine⟨_,(Af (Aw (OQ (Aq CQ rfl T.isinstance qD_ (Aa (pvD 0) (Aa (JI (v:=.ty "int") rfl T.int PyProof.Rows.boot_int rfl) Ad))) (OP (OR (Aq CQ rfl T.isinstance qD_ (Aa (pvD 0) (Aa (JI (v:=.ty "bool") rfl T.bool PyProof.Rows.boot_bool rfl) Ad)))))))),?_⟩
  walk_at "rd"
  refine⟨_,_,.int _,Mv,_,Kr,?_⟩
  rw[if_pos rfl]
  refine⟨_,_,.int _,Mv,_,Ji,?_⟩
  exact q
noncomputable def cell (ns:α2)(k:Nat):Int:=ns.getD k 0
noncomputable def Nq (K:α3):Sp:=fun vs H Q _=>∃(a:Addr) (ns:α2) (k:Nat),vs=[.ref a,.int k]/\SqL K H a (ns.map V.int)/\Q (.int (cell ns k)) H
theorem GU   (F:Fun K "_law_cell_at" "_law_cell_at" BY f fd)(T:Txt mg)
  (Z:Exs K mg C_j2 C_j1 C_j4)
  : FnOk P w K mg base CX0 1 f fd ["script","k"] (Nq K):=by
 refine F.ok GP (fun vs H Q E h=>?_) (fun cdv A outer s H vs Q E hr h=>?_)
 ·obtain⟨a,ns,k,rfl,_⟩:=h;rfl
 ·obtain⟨a,ns,k,rfl,hs,q⟩:=h
  refine⟨_,(Ac (AR (ptT (Ap (opD0 HK) (pvD 1) (Aq (lenD Ai) (by rfl) T.len jD_ (Aa (pvD 0) Ad)) (Ar _)))
   (Af (Aw (Ah (ixLD AS) (pvD 0) (pvD 1))))
   Ax)
   (Af (Aw Ae))),?_⟩
  walk_at "rd"
  refine⟨_,.inl hs,?_⟩
  rw[jd_]
  refine ite2 (fun hk=>?_) (fun hk=>?_)
  ·have hk':k<ns.length:=by simpa using hk
   refine⟨_,hs,V.int (cell ns k),?_,q⟩
   refine AE ?_
   rw[jw_]
   unfold cell
   rw[js_]
   simp[hk']
  ·have hk':¬ k<ns.length:=by simpa using hk
   have:cell ns k=0:=by
    unfold cell
    rw[js_,qB_ s!""];rfl
   rw[<-this]
   exact q
noncomputable def EX (w1 w2:α1)(L:Int)(n m:Nat)(a b:Int):List ((Int×Int)×α2):=bfsF (EO w1 w2) L.toNat (n*m+1) [((a,b),[])] 0
noncomputable def KZ (K:α3):Sp:=fun vs H Q _=>∃(h h2 st:Addr) (L:Int) (marks marks2:α2) (ways ways2:α1) (a b:Int),vs=[.ref h,.ref h2,.ref st]/\Bc K H h L marks ways/\Wf L marks ways/\Bc K H h2 L marks2 ways2/\Wf L marks2 ways2/\H st=some (.tup [.int a,.int b])/\okP marks.length marks2.length (a,b) /\
 ∀d top kvs H',Same H H'->H d=none->H' d=some (.dT kvs)->B3 H' (EX ways ways2 L marks.length marks2.length a b) kvs->B L (EO ways ways2) (a,b) (okP marks.length marks2.length) (EX ways ways2 L marks.length marks2.length a b) (EX ways ways2 L marks.length marks2.length a b).length top->Q (.ref d) H'
theorem Iu   (F:Fun K "steps_from" "steps_from" CU f fd)(T:Txt mg)
  (Z:Exs K mg C_j2 C_j1 C_j4)
  : FnOk P w K mg base CX0 1 f fd ["house","other","start"] (KZ K):=by
 refine F.ok A2 (fun vs H Q E h=>?_) (fun cdv A outer s H vs Q E hr h=>?_)
 ·obtain⟨h,h2,st,L,marks,marks2,ways,ways2,a,b,rfl,_⟩:=h;rfl
 ·obtain⟨h,h2,st,L,marks,marks2,ways,ways2,a,b,rfl,hh,wf,hh2,wf2,hst,hok,k⟩:=h
  have hl:=Au
  have hL1:=wf.l1
  have hL6:=wf.l6
  have hn40:=wf.n40
  have hm40:=wf2.n40
  refine⟨_,(@Ac _ _ _ _ _ (@Ot _ 3 _ _ _ _ _ _ _ _ (Gz hr) A2.nd rfl (Or.inl rfl) (pvD 2) Ba rfl (Or.inl rfl))
   (Ac (Aj (i:=4) A2.nd (A8 (Aa (pvD 2) Ad)))
   (Ac (Aj (i:=5) A2.nd Ae)
   (Ac (Dj jC_ (ptT (Ap (opD0 HK) (pvD 5) (Aq (lenD Ai) (by rfl) T.len jD_ (Aa (pvD 4) Ad)) (Ar _)))
   (Ac (Aj (i:=6) A2.nd (Ah (ixLD AS) (pvD 4) (pvD 5)))
   (Ac (A0 jC_ rfl (Bn rfl T.range (Aa (Ah (ixTD Am) (pvD 0) Ae) Ad)) (As (i:=7) A2.nd rfl (Or.inl rfl))
   (Ac (Aj (i:=8) A2.nd (AL (Aa (Ah (ixTD Am) (Ah (ixTD Am) (Ah (ixTD Am) (pvD 0) Ae) (Ah (ixTD Am) (pvD 6) Ae)) (pvD 7)) (Aa (Ah (ixTD Am) (Ah (ixTD Am) (Ah (ixTD Am) (pvD 1) Ae) (Ah (ixTD Am) (pvD 6) Ae)) (pvD 7)) Ad))))
   (Af (AR (OO (Jf (Gz hr) (pvD 8) (pvD 3)))
   (Ac (Mm (Gz hr) (pvD 3) (pvD 8) (AL (Aa (pvD 6) (Aa (pvD 7) Ad))) rfl)
   (Af (AM (B2 jt_ jz_ jA_ AA (pvD 4) (Aa (pvD 8) Ad)))))
   Ax))))
   (Af (OS (i:=5) A2.nd rfl (Or.inl rfl) Ae OT)))))
   (Af (Aw (pvD 3))))))),?_⟩
  walk_at "rd"
  intro p hp
  have hpst:st≠p:=fun z=>by rw[z,hp]at hst;cases hst
  refine⟨Ab,keyP (a,b),(Same.new hp) _ _ hst,by lia,fun p2 hp2=>?_⟩
  have hne2:p2≠p:=(Al hp2).2
  have hp2n:H p2=none:=(Al (Al hp2).1).1
  have s0:Same H (upd (upd (upd H p (.dT [])) p (.dT [(keyP (a,b),V.non)])) p2 (.lst [V.ref st])):=((Same.new hp).over hp).newT hp2
  have en0:upd (upd (upd H p (.dT [])) p (.dT [(keyP (a,b),V.non)])) p2 (.lst [V.ref st]) p=some (.dT [(keyP (a,b),V.non)]):=Same.new hp2 _ _ Ab
  have hr0:upd (upd (upd H p (.dT [])) p (.dT [(keyP (a,b),V.non)])) p2 (.lst [V.ref st]) p2=some (.lst [V.ref st]):=Ab
  have st0:B3 (upd (upd (upd H p (.dT [])) p (.dT [(keyP (a,b),V.non)])) p2 (.lst [V.ref st])) [((a,b),[])] [(keyP (a,b),V.non)]:=⟨rfl,fun i e he=>by
   cases i with
   |zero=>simp at he;subst he;exact⟨_,rfl,.inl ⟨rfl,rfl⟩⟩
   |succ i=>simp at he⟩
  have fo0:ER (upd (upd (upd H p (.dT [])) p (.dT [(keyP (a,b),V.non)])) p2 (.lst [V.ref st])) (([((a,b),[])]:List ((Int×Int)×α2)).map (·.1)) [V.ref st]:=⟨rfl,fun i q hq=>by
   cases i with
   |zero=>simp at hq;subst hq;exact⟨st,rfl,s0 _ _ hst⟩
   |succ i=>simp at hq⟩
  generalize upd (upd (upd H p (.dT [])) p (.dT [(keyP (a,b),V.non)])) p2 (.lst [V.ref st])=H0 at s0 en0 hr0 st0 fo0 ⊢
  clear hp2
  obtain⟨Pv,hPv⟩:∃Pv:Nat->St->Hp->Prop,∀m σ2 H2,Pv m σ2 H2↔(∃(ents:List ((Int×Int)×α2)) (kvs:List (List Key×V)) (rs:List V) (i:Nat) (top:Int) (o6 o7 o8:Option V),m=marks.length*marks2.length+1-i/\Same H H2/\H2 p=some (.dT kvs)/\H2 p2=some (.lst rs)/\B3 H2 ents kvs/\ER H2 (ents.map (·.1)) rs/\B L (EO ways ways2) (a,b) (okP marks.length marks2.length) ents i top/\(∀e,ents[i]?=some e->top<=Bt L e.2*L+1)/\bfsF (EO ways ways2) L.toNat (marks.length*marks2.length+1-i) ents i=EX ways ways2 L marks.length marks2.length a b/\σ2=[some (.ref h),some (.ref h2),some (.ref st),some (.ref p),some (.ref p2),some (.int i),o6,o7,o8]):=⟨_,fun _ _ _=>j2_⟩
  refine GD Pv ⟨_,(hPv _ _ _).mpr ⟨_,_,_,0,1,none,none,none,rfl,s0,en0,hr0,st0,fo0,B.start L _ hok,fun e he=>?_,rfl,rfl⟩⟩ ?_
  ·simp at he;subst he;simp[Bt,Kt]
  intro m σ2 H2 hpv
  obtain⟨ents,kvs,rs,i,top,o6,o7,o8,rfl,s2,en2,hr2,st2,fo2,bf,htop,hbfs,rfl⟩:=(hPv _ _ _).mp hpv
  have hbl:=bf.lenP
  have hnm:marks.length*marks2.length<=1600:=zd_ hn40 hm40
  walk_at "rd"
  refine⟨_,.inl (SqL.of hr2),?_⟩
  have hrl:rs.length=ents.length:=by rw[fo2.1,jd_]
  rw[hrl]
  refine ite2 (fun hlt=>?_) (fun hge=>?_)
  ·have hi:i<ents.length:=by lia
   obtain⟨e,he⟩:∃e,ents[i]?=some e:=⟨ents[i],by simp[hi]⟩
   obtain⟨⟨ra,rb⟩,w⟩:=e
   have hmem:=jl_ he
   have hr':okP marks.length marks2.length (ra,rb):=bf.rng _ hmem
   obtain⟨⟨ra0,ra1⟩,rb0,rb1⟩:=id hr'
   have htop':top<=Bt L w*L+1:=htop _ he
   obtain⟨row,hrow,hrm,hrowl⟩:=wf.row ra0 ra1
   obtain⟨row2,hrow2,hrm2,hrowl2⟩:=wf2.row rb0 rb1
   obtain⟨mm,wv,q1,q2,q3⟩:=id hh
   obtain⟨mm',wv',q1',q2',q3'⟩:=id hh2
   obtain⟨xs,t,z1,z2,z3⟩:=q3.atZ ra0 hrow
   obtain⟨xs',t',z1',z2',z3'⟩:=q3'.atZ rb0 hrow2
   obtain⟨bp,hbp1,hbp2⟩:=fo2.2 i (ra,rb) (by rw[jw_,he];rfl)
   refine⟨Pv (marks.length*marks2.length+1-(i+1)),fun σ' H' h=>⟨_,by lia,h⟩,?_⟩
   refine⟨_,SqL.of hr2,_,Mu (v:=V.ref bp) s!"" (by rw[ju_];exact hbp1),?_⟩
   walk_at "rd"
   refine⟨_,s2.seqT q1,_,rfl,?_⟩
   walk_at "rd"
   refine⟨by lia,by lia,?_⟩
   obtain⟨Pn,hPn⟩:∃Pn:Nat->St->Hp->Prop,∀x σ3 H3,Pn x σ3 H3↔(∃(ents':List ((Int×Int)×α2)) (kvs':List (List Key×V)) (rs':List V) (o7 o8:Option V),Same H H3/\H3 p=some (.dT kvs')/\H3 p2=some (.lst rs')/\B3 H3 ents' kvs'/\ER H3 (ents'.map (·.1)) rs'/\H3 bp=some (.tup [.int ra,.int rb])/\B L (EO ways ways2) (a,b) (okP marks.length marks2.length) ents' i (Bt L w*L+(x:Int)+1)/\Ou L (EO ways ways2) ents' (ra,rb) w x/\ents'[i]?=some ((ra,rb),w)/\addF (EO ways ways2) (ra,rb) w (L.toNat-x) x ents'=addF (EO ways ways2) (ra,rb) w L.toNat 0 ents/\σ3=[some (.ref h),some (.ref h2),some (.ref st),some (.ref p),some (.ref p2),some (.int i),some (.ref bp),o7,o8]):=⟨_,fun _ _ _=>j2_⟩
   refine forR Pn ((hPn _ _ _).mpr ⟨ents,kvs,rs,o7,o8,s2,en2,hr2,st2,fo2,hbp2,bf.up (by push_cast;lia),(fun y h0 h1=>absurd h1 (by push_cast;lia)),he,rfl,rfl⟩) (fun x σ3 H3 hx h3=>?_) (fun σ3 H3 h3=>?_)
   ·obtain⟨ents',kvs',rs',o7,o8,s3,en3,hr3,st3,fo3,hb3,bf3,se3,he3,had,rfl⟩:=(hPn _ _ _).mp h3
    have ex:(0:Int)+(x:Nat)=(x:Int):=by lia
    rw[ex]
    have hxL:(x:Int)<L:=by lia
    obtain⟨rw1,g1,c1,c2,c3,c4,c5⟩:=wf.step ra0 ra1 (show (0:Int)<=(x:Int) by lia) hxL
    obtain⟨rw2,g2,d1,d2,d3,d4,d5⟩:=wf2.step rb0 rb1 (show (0:Int)<=(x:Int) by lia) hxL
    rw[hrow]at c1;cases c1
    rw[hrow2]at d1;cases d1
    have hgo:EO ways ways2 (ra,rb) (x:Int)=(g1,g2):=by show (An ways ra x,An ways2 rb x)=_;rw[c3,d3]
    have hmem3:=jl_ he3
    obtain⟨bf4,se4⟩:=bf3.letter se3 hmem3 hxL (by rw[hgo];exact⟨⟨c4,c5⟩,d4,d5⟩)
    have he4:=Ov (step:=EO ways ways2) (r:=(ra,rb)) (w:=w) (x:=x) he3
    rw[show L.toNat-x=(L.toNat-(x+1))+1 by lia,MW]at had
    walk_at "rd"
    refine⟨_,s3.seqT q1,_,rfl,?_⟩
    walk_at "rd"
    refine⟨_,SqT.of hb3,_,rfl,?_⟩
    walk_at "rd"
    refine⟨_,s3.seqT z1,_,z2,?_⟩
    walk_at "rd"
    refine⟨_,s3.seqT z3,_,B9 s!"" c2,_,s3.seqT q1',_,rfl,_,SqT.of hb3,_,rfl,_,rfl,_,_,rfl,s3.seqT z1',_,z2',_,rfl,_,s3.seqT z3',_,B9 s!"" d2,by lia,fun p3 hp3=>?_⟩
    have sT:=s3.newT hp3 (o:=.tup [V.int g1,V.int g2])
    have kT:TK H3 (upd H3 p3 (.tup [V.int g1,V.int g2])):=TK.new hp3
    have enT:=Same.new hp3 (o:=.tup [V.int g1,V.int g2]) _ _ en3
    have hrT:=Same.new hp3 (o:=.tup [V.int g1,V.int g2]) _ _ hr3
    have hbT:=Same.new hp3 (o:=.tup [V.int g1,V.int g2]) _ _ hb3
    have stT:=st3.mono kT
    have foT:=fo3.mono kT
    have hp3T:upd H3 p3 (.tup [V.int g1,V.int g2]) p3=some (.tup ((keyP (g1,g2)).map kV)):=Ab
    generalize upd H3 p3 (.tup [V.int g1,V.int g2])=HT' at sT kT enT hrT hbT stT foT hp3T ⊢
    refine⟨_,DGet.t enT hp3T,?_⟩
    by_cases hm:(g1,g2)∈ents'.map (·.1)
    ·have hput:put (EO ways ways2) (ra,rb) w ents' x=ents':=by unfold put;rw[hgo,if_pos hm]
     rw[hput]at bf4 se4 he4 had
     obtain⟨e',he',e1⟩:=qh_.mp hm
     obtain⟨v,hv,_⟩:=stT.yes bf3.nod he'
     rw[e1]at hv
     rw[hv,if_neg (by simp)]
     exact (hPn _ _ _).mpr ⟨ents',kvs',rs',_,_,sT,enT,hrT,stT,foT,hbT,bf4,se4,he4,had,rfl⟩
    ·have hput:put (EO ways ways2) (ra,rb) w ents' x=ents'++[((g1,g2),w++[(x:Int)])]:=by unfold put;rw[hgo,if_neg hm]
     rw[hput]at bf4 se4 he4 had
     rw[stT.no hm,if_pos (by simp)]
     refine⟨by lia,fun p4 hp4=>?_⟩
     have sU:=sT.newT hp4 (o:=.tup [V.ref bp,V.int x])
     have kU:TK HT' (upd HT' p4 (.tup [V.ref bp,V.int x])):=TK.new hp4
     have enU:=Same.new hp4 (o:=.tup [V.ref bp,V.int x]) _ _ enT
     have hrU:=Same.new hp4 (o:=.tup [V.ref bp,V.int x]) _ _ hrT
     have hbU:=kU _ _ hbT
     have hp3U:=kU _ _ hp3T
     have hp4U:upd HT' p4 (.tup [V.ref bp,V.int x]) p4=some (.tup [V.ref bp,V.int x]):=Ab
     have stU:=(stT.mono kU).put hm hp4U (e':=((ra,rb),w)) hbU hmem3
     have foU:=foT.mono kU
     generalize upd HT' p4 (.tup [V.ref bp,V.int x])=HU at sU kU enU hrU hbU hp3U hp4U stU foU ⊢
     have hlen3:=bf3.lenP
     walk_at "rd"
     refine⟨_,DPut.t (k:=keyP (g1,g2)) enU hp3U (by rw[st3.1];lia),?_⟩
     have kV':TK HU (upd HU p (.dT (putK kvs' (keyP (g1,g2)) (V.ref p4)))):=TK.dT enU
     have hrV:upd HU p (.dT (putK kvs' (keyP (g1,g2)) (V.ref p4))) p2=some (.lst rs'):=by rw[Ag hne2];exact hrU
     refine⟨.inl ⟨rfl,_,SqL.of hrV⟩,_,hrV,by rw[fo3.1,jd_];lia,(hPn _ _ _).mpr ⟨_,_,_,_,_,(sU.over hp).over hp2n,?_,Ab,(stU.mono kV').mono (TK.lst hrV),?_,TK.lst hrV _ _ (kV' _ _ hbU),bf4,se4,he4,had,rfl⟩⟩
     ·rw[Ag (qf_ hne2)];exact Ab
     ·have:=((foU.mono kV').mono (TK.lst (o:=.lst (rs'++[V.ref p3])) hrV)).snoc (p:=(g1,g2)) (b:=p3) (TK.lst hrV _ _ (kV' _ _ hp3U))
      simpa using this
   ·obtain⟨ents',kvs',rs',o7,o8,s3,en3,hr3,st3,fo3,hb3,bf3,se3,he3,had,rfl⟩:=(hPn _ _ _).mp h3
    rw[j4_,MV]at had
    walk_at "rd"
    obtain⟨bf4,htop4⟩:=bf3.next s!"" s!"" se3 he3
    refine (hPv _ _ _).mpr ⟨ents',kvs',rs',i+1,_,_,_,_,rfl,s3,en3,hr3,st3,fo3,bf4,htop4,?_,by push_cast;rfl⟩
    rw[show marks.length*marks2.length+1-i=(marks.length*marks2.length+1-(i+1))+1 by lia,MU he]at hbfs
    rw[had]
    exact hbfs
  ·have hi:i=ents.length:=by have:=bf.il;lia
   subst hi
   rw[MT (by simp)]at hbfs
   rw[<-hbfs]at k
   exact k p top kvs H2 s2 hp en2 st2 bf
noncomputable def Jr (K:α3):Sp:=fun vs H Q _=>∃(d b:Addr) (ents:List ((Int×Int)×α2)) (kvs:List (List Key×V)) (e:(Int×Int)×α2),vs=[.ref d,.ref b]/\Rd H d (.dT kvs)/\B3 H ents kvs/\(ents.map (·.1)).Nodup/\e∈ents/\H b=some (.tup [.int e.1.1,.int e.1.2])/\e.2.length<=2000/\∀t H',Same H H'->H' t=some (.tup (e.2.map V.int))->Q (.ref t) H'
theorem LG   (F:Fun K "word_to" "word_to" ET f fd)(T:Txt mg)
  (Z:Exs K mg C_j2 C_j1 C_j4)
  : FnOk P w K mg base CX0 1 f fd ["steps","pair"] (Jr K):=by
 refine F.ok Eb (fun vs H Q E h=>?_) (fun cdv A outer s H vs Q E hr h=>?_)
 ·obtain⟨d,b,ents,kvs,e,rfl,_⟩:=h;rfl
 ·obtain⟨d,b,ents,kvs,e,rfl,hd,hst,nod,he,hb,hlen,k⟩:=h
  have hl:=Au
  refine⟨_,(Ac (Aj (i:=2) Eb.nd (A8 Ad))
   (Ac (Aj (i:=3) Eb.nd (Fp (Gz hr) (pvD 0) (pvD 1) (fun _ _=>rfl)))
   (Ac (Dj jC_ (ptT (Ap Dm (pvD 3) Ba (Ar _)))
   (Ac (AM (B2 jt_ jz_ jA_ AA (pvD 2) (Aa (Ah (ixTD Am) (pvD 3) Ae) Ad)))
   (Af (Aj (i:=3) Eb.nd (Fp (Gz hr) (pvD 0) (Ah (ixTD Am) (pvD 3) Ae) (fun _ _=>rfl))))))
   (Af (Aw (JR rfl rfl T.tuple rfl T.reversed (pvD 2))))))),?_⟩
  walk_at "rd"
  have rdm:∀{H2:Hp},Same H H2->Rd H2 d (.dT kvs):=fun {H2} s=>by
   rcases hd with hd|⟨o,hd⟩
   ·exact .inl (s _ _ hd)
   ·exact .inr ⟨o,s _ _ hd⟩
  have get:∀{H2:Hp} {e':(Int×Int)×α2} {b':Addr} {v:V},Same H H2->H2 b'=some (.tup [.int e'.1.1,.int e'.1.2])->valV kvs (keyP e'.1)=some v->DGet H2 d (.ref b') (some v):=fun {H2 e' b' v} s hb hv=>.inr ⟨kvs,keyP e'.1,b',rdm s,rfl,hb,hv.symm⟩
  refine⟨by lia,fun p hp=>?_⟩
  obtain⟨v0,hv0,hi0⟩:=hst.yes nod he
  refine⟨v0,get (Same.new hp) (Same.new hp _ _ hb) hv0,?_⟩
  obtain⟨Pv,hPv⟩:∃Pv:Nat->St->Hp->Prop,∀m σ2 H2,Pv m σ2 H2↔(∃(ec:(Int×Int)×α2) (suf:α2) (v:V),m=ec.2.length/\ec∈ents/\e.2=ec.2++suf/\valV kvs (keyP ec.1)=some v/\Same H H2/\H2 p=some (.lst (suf.reverse.map V.int))/\σ2=[some (.ref d),some (.ref b),some (.ref p),some v]):=⟨_,fun _ _ _=>j2_⟩
  refine GD Pv ⟨_,(hPv _ _ _).mpr ⟨e,[],v0,rfl,he,by simp,hv0,Same.new hp,by rw[Ab];rfl,rfl⟩⟩ ?_
  intro m σ2 H2 hpv
  obtain⟨ec,suf,v,rfl,hec,hsuf,hv,s2,hp2,rfl⟩:=(hPv _ _ _).mp hpv
  obtain⟨v',hv',hi⟩:=hst.yes nod hec
  rw[hv]at hv'
  cases hv'
  rcases hi with ⟨rfl,hnil⟩|⟨t,q,x,e',rfl,ht,hq,he',hsn⟩
  ·walk_at "rd"
   refine⟨_,SqL.of hp2,fun r hr=>?_⟩
   rw[<-List.map_reverse,List.reverse_reverse]
   rw[hnil,qw_]at hsuf
   exact k r _ (s2.newT hr) (by rw[Ab,hsuf])
  ·obtain⟨v2,hv2,_⟩:=hst.yes nod he'
   have hlsuf:suf.length<=2000:=by rw[hsuf,jf_]at hlen;lia
   walk_at "rd"
   refine⟨Pv e'.2.length,fun σ' H' h=>⟨_,by rw[hsn,jf_,jq_];lia,h⟩,?_⟩
   have s3:Same H (upd H2 p (.lst (suf.reverse.map V.int++[V.int x]))):=s2.over hp
   refine⟨.inl ⟨rfl,_,SqL.of hp2⟩,_,SqT.of (s2 _ _ ht),_,rfl,_,hp2,by simp;lia,_,SqT.of (s3 _ _ ht),_,rfl,v2,get s3 (s3 _ _ hq) hv2,(hPv _ _ _).mpr ⟨e',x::suf,v2,rfl,he',by rw[hsuf,hsn];simp,hv2,s3,by rw[Ab];simp,rfl⟩⟩
noncomputable def Dv:Sp:=fun vs H Q _=>∃p h:Int,vs=[.int p,.int h]/\Q (.int (p+h)) H
theorem J7   (F:Fun K "end_sign" "end_sign" CA f fd)(T:Txt mg)
  (Z:Exs K mg C_j2 C_j1 C_j4)
  : FnOk P w K mg base CX0 1 f fd ["plain","helpers"] (Dv):=by
 refine F.ok J4 (fun vs H Q E h=>?_) (fun cdv A outer s H vs Q E hr h=>?_)
 ·obtain⟨p,h,rfl,_⟩:=h;rfl
 ·obtain⟨p,h,rfl,k⟩:=h
  refine⟨_,(Af (Aw (Av (opD0 AN) (pvD 0) (pvD 1)))),?_⟩
  walk_at "rd"
  exact k
noncomputable def OF (marks:α2)(r:Int):Int:=marks.getD r.toNat 0
theorem OG   (h0:0<=r)(h1:r<marks.length):atI (marks.map V.int) r=some (V.int (OF marks r)):=by
 have hlt:r.toNat<marks.length:=by lia
 refine B9 h0 ?_
 unfold OF
 rw[js_]
 simp[hlt]
open Nest (AI Cz prtF prtS DT GI)
theorem J8 {H:Hp}{p q:Addr}{o:HO}(h:H p=none)(g:H q=some o):p≠q:=fun z=>by rw[z,g]at h;cases h
theorem LLs.last {H0 H:Hp}{xs:List V}{ws:α1}{w:α2}(h:LLs H0 H xs (ws++[w])):∃ys t,xs=ys++[.ref t]/\H t=some (.lst (w.map V.int))/\H0 t=none/\LLs H0 H ys ws/\∀v:α2,LLs H0 (upd H t (.lst (v.map V.int))) xs (ws++[v]):=by
 obtain⟨ts,a,b,c,d,e⟩:=h
 rw[jf_,jq_]at b
 obtain⟨us,t,rfl⟩:∃us t,ts=us++[t]:=⟨ts.dropLast,ts.getLast (fun z=>by rw[z]at b;simp at b),(qs_ _).symm⟩
 have hul:us.length=ws.length:=by rw[jf_,jq_]at b;lia
 have nd:=qc_.mp c
 have hut:∀u∈us,u≠t:=fun u hu=>nd.2.2 u hu t (by simp)
 have hlow:∀(i:Nat) (u:Addr) (v:α2),us[i]?=some u->ws[i]?=some v->H u=some (.lst (v.map V.int)):=fun i u v h1 h2=>by
  have hi:=(jc_.mp h1).1
  exact d i u v (by rw[jg_ hi];exact h1) (by rw[jg_ s!""];exact h2)
 refine⟨us.map V.ref,t,by rw[a];simp,?_,e t (by simp),⟨us,rfl,hul,nd.1,hlow,fun u hu=>e u (by simp[hu])⟩,fun v=>⟨us++[t],a,by simp[hul],c,fun i u v' h1 h2=>?_,e⟩⟩
 ·exact d us.length t w (by simp) (by rw[hul];simp)
 ·by_cases hi:i<us.length
  ·rw[jg_ hi]at h1
   rw[jg_ s!""]at h2
   rw[Ag (hut u (jl_ h1))]
   exact hlow i u v' h1 h2
  ·have:=(jc_.mp h1).1
   rw[jf_,jq_]at this
   have ei:i=us.length:=by lia
   subst ei
   rw[jp_ (jh_ _),j4_]at h1
   rw[hul,jp_ (jh_ _),j4_]at h2
   simp at h1 h2
   subst h1 h2
   exact Ab
theorem LLs.head {H0 H:Hp}{xs:List V}{ws:α1}{w:α2}(h:LLs H0 H xs (w::ws)):∃t,xs[0]?=some (.ref t)/\H t=some (.lst (w.map V.int)):=by
 obtain⟨ts,a,b,c,d,e⟩:=h
 cases ts with
 |nil=>simp at b
 |cons t ts=>exact⟨t,by rw[a];rfl,d 0 t w rfl rfl⟩
noncomputable def Nr (K:α3):Sp:=fun vs H Q _=>∃(a b:Addr) (xs ys:α2),vs=[.ref a,.ref b]/\SqT K H a (xs.map V.int)/\SqT K H b (ys.map V.int)/\Q (.bl (lessW xs ys)) H
theorem Rg   (F:Fun K "less" "less" KW f fd)(T:Txt mg)
  (Z:Exs K mg C_j2 C_j1 C_j4)
  : FnOk P w K mg base CX0 1 f fd ["word","other"] (Nr K):=by
 refine F.ok Rc (fun vs H Q E h=>?_) (fun cdv A outer s H vs Q E hr h=>?_)
 ·obtain⟨a,b,xs,ys,rfl,_⟩:=h;rfl
 ·obtain⟨a,b,xs,ys,rfl,ha,hb,q⟩:=h
  refine⟨_,(Ac (AR (ptT (Ap (opN Gr) (Aq (lenD Ai) (by rfl) T.len jD_ (Aa (pvD 0) Ad)) (Aq (lenD Ai) (by rfl) T.len jD_ (Aa (pvD 1) Ad)) (Ar _)))
   (Af (Aw (CB (opD0 HK) (Aq (lenD Ai) (by rfl) T.len jD_ (Aa (pvD 0) Ad)) (Aq (lenD Ai) (by rfl) T.len jD_ (Aa (pvD 1) Ad)) (Ar _))))
   Ax)
   (Af (Aw (CB (RL (Room.units0 hr)) (pvD 0) (pvD 1) (Ar _))))),?_⟩
  walk_at "rd"
  refine⟨_,.inr ha,_,.inr hb,?_⟩
  simp only[jd_]
  unfold lessW at q
  by_cases e:xs.length=ys.length
  ·rw[if_pos e]at q
   have:(!decide ((xs.length:Int)=(ys.length:Int)))=false:=by simp[e]
   rw[this,if_neg jn_]
   exact⟨_,ha,_,hb,q⟩
  ·rw[if_neg e]at q
   have:(!decide ((xs.length:Int)=(ys.length:Int)))=true:=by simp;lia
   rw[this,if_pos rfl]
   refine⟨_,.inr ha,_,.inr hb,?_⟩
   simp only[jd_]
   have e2:decide ((xs.length:Int)<(ys.length:Int))=decide (xs.length<ys.length):=by simp
   rw[e2]
   exact q
noncomputable def RO (H:Hp)(xs:List V)(rs:List (Option (α2))):Prop:=xs.length=rs.length/\∀(i:Nat) (o:Option (α2)),rs[i]?=some o->(o=none/\xs[i]?=some .non) \/ ∃r t,o=some r/\xs[i]?=some (.ref t)/\H t=some (.tup (r.map V.int))
theorem RO.nil  : RO H [] []:=⟨rfl,fun i o h=>by simp at h⟩
theorem RO.mono    (h:RO H xs rs)(s:TK H H'):RO H' xs rs:=⟨h.1,fun i o ho=>by
 rcases h.2 i o ho with a|⟨r,t,a,b,c⟩
 ·exact .inl a
 ·exact .inr ⟨r,t,a,b,s _ _ c⟩⟩
theorem RO.put    (h:RO H xs rs)   (hv:(o=none/\v=.non) \/ ∃r t,o=some r/\v=.ref t/\H t=some (.tup (r.map V.int))):RO H (xs++[v]) (rs++[o]):=by
 refine⟨by rw[jf_,jf_,h.1];rfl,fun i o' ho=>?_⟩
 by_cases hi:i<rs.length
 ·rw[jg_ hi]at ho
  rw[jg_ (by rw[h.1];exact hi)]
  exact h.2 i o' ho
 ·rw[jp_ s!""]at ho
  have h0:i-rs.length=0:=by
   have:=(jc_.mp ho).1
   simpa using this
  rw[h0]at ho
  have ho:o=o':=by simpa using ho
  subst ho
  rw[jp_ (by rw[h.1];lia),h.1,h0]
  rcases hv with ⟨a,rfl⟩|⟨r,t,a,rfl,c⟩
  ·exact .inl ⟨a,rfl⟩
  ·exact .inr ⟨r,t,a,rfl,c⟩
theorem RO.at {H:Hp}{xs:List V}{rs:List (Option (α2))}(h:RO H xs rs){i:Nat}{x:V}(hx:xs[i]?=some x):(rs[i]?=some none/\x=.non) \/ ∃r t,rs[i]?=some (some r)/\x=.ref t/\H t=some (.tup (r.map V.int)):=by
 have hi:i<rs.length:=by rw[<-h.1];exact (jc_.mp hx).1
 rcases h.2 i rs[i] (ja_ hi) with ⟨a,b⟩|⟨r,t,a,b,c⟩
 ·exact .inl ⟨by rw[ja_ hi,a],by rw[hx]at b;exact jH_ b⟩
 ·exact .inr ⟨r,t,by rw[ja_ hi,a],by rw[hx]at b;exact jH_ b,c⟩
noncomputable def EY (p h:Nat)(rs:List (Option (α2)))(i:Nat):Option (α2):=((rs[i]?).getD none).map fun r=>((p:Int)+i)::(r++[(p:Int)+h])
noncomputable def blR (p:Nat)(rs:List (Option (α2))):List (Option (α2)):=((List.range p).map fun i:Nat=>some [(i:Int)])++(List.range rs.length).map (EY p rs.length rs)
noncomputable def Iv (K:α3):Sp:=fun vs H Q _=>∃(p:Nat) (a:Addr) (xs:List V) (rs:List (Option (α2))),vs=[.int p,.ref a]/\SqL K H a xs/\RO H xs rs/\rs.length<=3/\p<=6/\(∀r,some r∈rs->r.length<=2000)/\∀l ys H',Same H H'->H' l=some (.lst ys)->RO H' ys (blR p rs)->Q (.ref l) H'
theorem Fx   (F:Fun K "rows_by_letter" "rows_by_letter" Bg f fd)(T:Txt mg)
  (Z:Exs K mg C_j2 C_j1 C_j4)
   (q_ji:Cal P w K mg base CX0 1 "end_sign" CA ["plain","helpers"] (Dv) Ed Dx)
  : FnOk P w K mg base CX0 2 f fd ["plain","rows"] (Iv K):=by
 refine F.ok Bv (fun vs H Q E h=>?_) (fun cdv A outer s H vs Q E hr h=>?_)
 ·obtain⟨p,a,xs,rs,rfl,_⟩:=h;rfl
 ·obtain⟨p,a,xs,rs,rfl,hs,hro,hrl,hp6,hrr,k⟩:=h
  have hl:=Au
  refine⟨_,(Ac (Ey (i:=2) Bv.nd rfl rfl rfl (DR rfl) (cp:=CY) True.intro (Bn rfl T.range (Aa (pvD 0) Ad)) (fun _ _ _ _=>(As (i:=0) DZ rfl (Or.inl rfl))) (fun _ _ _ _=>FH) (fun _ _ _ _=>(AL (Aa (pvD 0) Ad))))
   (Ac (A0 jC_ rfl (Ih rfl T.enumerate (pvD 1)) (FF rfl (AZ (As (i:=3) Bv.nd rfl (Or.inl rfl)) (AZ (As (i:=4) Bv.nd rfl (Or.inl rfl)) DL)))
   (Af (AR (ptT (Ap Ej (pvD 4) Ba (Ar _)))
   (Af (AM (B2 jt_ jz_ jA_ AA (pvD 2) (Aa Ba Ad))))
   (Af (AM (B2 jt_ jz_ jA_ AA (pvD 2) (Aa (Av BK (Av BK (AL (Aa (Av (opD0 AN) (pvD 0) (pvD 3)) Ad)) (pvD 4)) (AL (Aa (Ak q_ji hr.d AF (Aa (pvD 0) (Aa (Aq (lenD Ai) (by rfl) T.len jD_ (Aa (pvD 1) Ad)) Ad))) Ad))) Ad)))))))
   (Af (Aw (pvD 2))))),?_⟩
  walk_at "rd"
  refine⟨by lia,by lia,?_⟩
  rw[ju_]
  obtain⟨Pc,hPc⟩:∃Pc:Nat->List V->St->Hp->Prop,∀i us σ' H',Pc i us σ' H'↔(Same H H'/\RO H' us ((List.range i).map fun i:Nat=>some [(i:Int)])/\∃o,σ'=[o]):=⟨_,fun _ _ _ _=>j2_⟩
  refine Og Pc ((hPc _ _ _ _).mpr ⟨Same.refl _,RO.nil,none,rfl⟩) s!"" (fun i us σ' H' hi h'=>?_) (fun i us σ' H' hi h'=>?_) (fun us σ' H1 h' D hD=>?_)
  ·obtain⟨_,hR,_⟩:=(hPc _ _ _ _).mp h'
   rw[hR.1];simp
  ·obtain⟨s1,hR,o,rfl⟩:=(hPc _ _ _ _).mp h'
   rw[xa_]
   walk_at "rd"
   refine⟨by lia,fun t ht=>(hPc _ _ _ _).mpr ⟨s1.newT ht,?_,_,rfl⟩⟩
   rw[List.range_succ,jI_]
   exact (hR.mono (TK.new ht)).put (.inr ⟨_,t,rfl,rfl,Ab⟩)
  obtain⟨s1,hR,o,rfl⟩:=(hPc _ _ _ _).mp h'
  have sD:=Same.new hD (o:=.lst us)
  have hDn:H D=none:=s1.none hD
  refine⟨xs,(s1.trans sD).seq hs,?_⟩
  obtain⟨Pv,hPv⟩:∃Pv:Nat->St->Hp->Prop,∀i σ' H',Pv i σ' H'↔(∃(ys:List V) (o1 o2:Option V),Same H H'/\H' D=some (.lst ys)/\RO H' ys (((List.range p).map fun i:Nat=>some [(i:Int)])++(List.range i).map (EY p rs.length rs))/\σ'=[some (.int p),some (.ref a),some (.ref D),o1,o2]):=⟨_,fun _ _ _=>j2_⟩
  refine forM (xs:=xs) Pv ((hPv _ _ _).mpr ⟨us,none,none,s1.trans sD,Ab,by rw[List.range_zero,xA_,q5_];exact hR.mono (TK.of sD),rfl⟩) (fun i σ' H' _ h'=>by obtain⟨_,_,_,s2,_⟩:=(hPv _ _ _).mp h';exact s2.seq hs) (fun i v σ' H' t hv h' ht=>?_) (fun σ' H' h'=>?_)
  ·obtain⟨ys,o1,o2,s2,hD2,hR2,rfl⟩:=(hPv _ _ _).mp h'
   have hyl:=hR2.1
   rw[jf_,jd_,qL_,jd_,qL_]at hyl
   have hil:i<rs.length:=by rw[<-hro.1];exact (jc_.mp hv).1
   walk_at "rd"
   have sT:=Same.new ht (o:=.tup [V.int i,v])
   have s3:=s2.trans sT
   have hD3:=sT _ _ hD2
   have hR3:=hR2.mono (TK.of sT)
   have hro3:=hro.mono (TK.of s3)
   have htT:SqT K (upd H' t (.tup [V.int i,v])) t [V.int i,v]:=SqT.of Ab
   generalize upd H' t (.tup [V.int i,v])=H3 at sT s3 hD3 hR3 hro3 htT ⊢
   have e1:(List.range (i+1)).map (EY p rs.length rs)=(List.range i).map (EY p rs.length rs)++[EY p rs.length rs i]:=by rw[List.range_succ,jI_];rfl
   refine⟨_,htT,rfl,_,_,rfl,_,_,rfl,rfl,?_⟩
   rcases hro3.at hv with ⟨hv1,rfl⟩|⟨r,tr,hv1,rfl,htr⟩
   ·rw[if_pos rfl]
    refine⟨.inl ⟨rfl,_,SqL.of hD3⟩,ys,hD3,by lia,(hPv _ _ _).mpr ⟨_,_,_,s3.over hDn,Ab,?_,rfl⟩⟩
    rw[e1,<-jX_]
    refine (hR3.mono (TK.lst hD3)).put (.inl ⟨?_,rfl⟩)
    unfold EY
    rw[hv1];rfl
   ·rw[if_neg (by intro z;cases z)]
    have hrl2:=hrr r (jl_ hv1)
    refine⟨.inl ⟨rfl,_,SqL.of hD3⟩,_,rfl,by lia,fun p1 hp1=>Cg.ofS Ab (Same.new hp1 _ _ htr) (by simp;lia) fun q1 H4 s4 hq1=>?_⟩
    have s34:=(Same.new hp1 (o:=.tup [V.int ((p:Int)+i)])).trans s4
    refine⟨xs,.inl ((s3.trans s34).seq hs),_,_,rfl,by lia,fun p2 hp2=>Cg.ofS (Same.new hp2 _ _ hq1) Ab (by simp;lia) fun q2 H5 s5 hq2=>?_⟩
    have s35:=s34.trans ((Same.new hp2 (o:=.tup [V.int ((p:Int)+xs.length)])).trans s5)
    have hD5:=s35 _ _ hD3
    refine⟨ys,hD5,by lia,(hPv _ _ _).mpr ⟨_,_,_,(s3.trans s35).over hDn,Ab,?_,rfl⟩⟩
    rw[e1,<-jX_]
    refine ((hR3.mono (TK.of s35)).put (.inr ⟨((p:Int)+i)::(r++[(p:Int)+rs.length]),q2,?_,rfl,?_⟩)).mono (TK.lst hD5)
    ·unfold EY
     rw[hv1];rfl
    ·rw[hq2,hro.1];simp
  ·obtain⟨ys,o1,o2,s2,hD2,hR2,rfl⟩:=(hPv _ _ _).mp h'
   walk_at "rd"
   rw[hro.1]at hR2
   exact k D ys _ s2 hD2 hR2
noncomputable def Iw (ks:α2)(kvs:List (Key×V)):Prop:=kvs.map (·.1)=ks.map fun k=>(Sum.inl k:Key)
theorem Iw.len   (h:Iw ks kvs):kvs.length=ks.length:=by
 have:=qR_ List.length h
 simpa using this
theorem Iw.put   (h:Iw ks kvs)(k:Int)(v:V):Iw (ins1 ks k) (putK kvs (Sum.inl k) v):=by
 have hs:(kvs.any fun kv=>decide (kv.1=(Sum.inl k:Key)))=decide (k∈ks):=by
  rw[qj_,jN_,List.any_eq_true]
  constructor
  ·rintro⟨kv,hkv,e⟩
   have e:=xo_ e
   have:(Sum.inl k:Key)∈ks.map fun k=>(Sum.inl k:Key):=by rw[<-h,<-e];exact qh_.mpr ⟨kv,hkv,rfl⟩
   obtain⟨q,hq,e2⟩:=qh_.mp this
   exact Sum.inl.inj e2 ▸ hq
  ·intro hw
   have:(Sum.inl k:Key)∈kvs.map (·.1):=by rw[h];exact qh_.mpr ⟨k,hw,rfl⟩
   obtain⟨kv,hkv,e⟩:=qh_.mp this
   exact⟨kv,hkv,qv_ e⟩
 unfold putK ins1
 rw[hs]
 by_cases hw:k∈ks
 ·rw[if_pos hw,if_pos (show decide (k∈ks)=true from qv_ hw)]
  unfold Iw
  rw[<-h,xB_]
  refine qU_ fun kv _=>?_
  show (if kv.1=(Sum.inl k:Key) then (kv.1,v) else kv).1=kv.1
  split<;>rfl
 ·rw[if_neg hw,if_neg (show ¬ decide (k∈ks)=true by simp[hw])]
  unfold Iw
  rw[jI_,jI_,h];rfl
theorem OH  (h:lessW u v=true):u.length<=v.length:=by
 unfold lessW at h
 by_cases e:u.length=v.length
 ·lia
 ·rw[if_neg e,jN_]at h;lia
theorem OI (u:α2):lessW u []=false:=by
 unfold lessW
 cases u with
 |nil=>rfl
 |cons x u=>rw[if_neg (by simp)];simp
theorem Qd {f g:Nat->Nat}{k:Nat}(hk:f k<g k)(he:∀i,i≠k->f i=g i):∀n,k<n->((List.range n).map f).sum<((List.range n).map g).sum
 |0,h=>absurd h (qp_ _)
 |n+1,h=>by
  rw[List.range_succ,jI_,jI_,List.sum_append,List.sum_append,xi_,xi_,List.sum_singleton,List.sum_singleton]
  by_cases e:k=n
  ·subst e
   have:(List.range k).map f=(List.range k).map g:=qU_ fun i hi=>he i (by have:=q2_.mp hi;lia)
   rw[this];lia
  ·have:=Qd hk he n s!""
   rw[he n (fun z=>e z.symm)];lia
structure Bs (s0:Int)(n M B:Nat)(ways:α1)(bl:List (Option (α2)))(ks:α2)(f:Int->Option (α2)):Prop where
 nd:ks.Nodup
 rg:∀s∈ks,0<=s/\s<(n:Int)
 ky:∀s,s∈ks↔(f s).isSome=true
 z:f s0=some []
 g:∀G:Int->α2->Prop,G s0 []->(∀s t (x:Nat) v,G s t->bl[x]?=some (some v)->G (An ways s (x:Int)) (t++v))->∀s t,f s=some t->G s t
 ln:∀s t,f s=some t->t.length+M<=M*ks.length/\N80.Dg B t
noncomputable def mu80 (n M B:Nat)(f:Int->Option (α2)):Nat:=((List.range n).map fun i:Nat=>match f (i:Int) with|none=>2*B ^ (M*n)|some t=>N80.cod B t).sum
theorem Bs.start  {n M B:Nat}   (h0:0<=s0)(hn:s0<(n:Int)):Bs s0 n M B ways bl [s0] (fun s=>if s=s0 then some [] else none):=by
 refine⟨by simp,fun s hs=>by rw[jb_.mp hs];lia,fun s=>?_,if_pos rfl,fun G g0 _ s t h=>?_,fun s t h=>?_⟩
 ·rw[jb_]
  by_cases e:s=s0
  ·rw[if_pos e];simp[e]
  ·rw[if_neg e];simp[e]
 ·by_cases e:s=s0
  ·rw[if_pos e]at h;cases h;rw[e];exact g0
  ·rw[if_neg e]at h;cases h
 ·by_cases e:s=s0
  ·rw[if_pos e]at h;cases h
   exact⟨by simp,fun x hx=>by cases hx⟩
  ·rw[if_neg e]at h;cases h
theorem Bs.put {s0:Int}{n M B:Nat}{ways:α1}{bl:List (Option (α2))}{ks:α2}{f:Int->Option (α2)}(h:Bs s0 n M B ways bl ks f)(hB:2<=B)(hbl:∀v,some v∈bl->v.length<=M/\N80.Dg B v){s:Int}{t v:α2}{x:Nat}{g:Int}(hg:g=An ways s (x:Int))(hs:f s=some t)(hx:bl[x]?=some (some v))(hg0:0<=g)(hgn:g<(n:Int))(hq:∀t0,f g=some t0->lessW (t++v) t0=true):Bs s0 n M B ways bl (ins1 ks g) (fun z=>if z=g then some (t++v) else f z)/\mu80 n M B (fun z=>if z=g then some (t++v) else f z)<mu80 n M B f:=by
 obtain⟨hv1,hv2⟩:=hbl v (jl_ hx)
 obtain⟨ht1,ht2⟩:=h.ln s t hs
 have hd:N80.Dg B (t++v):=ht2.app hv2
 have mem:∀z,z∈ins1 ks g↔z=g\/z∈ks:=fun z=>by
  unfold ins1
  by_cases c:g∈ks
  ·rw[if_pos c]
   constructor
   ·exact .inr
   ·rintro (rfl|e)
    ·exact c
    ·exact e
  ·rw[if_neg c,jj_,jb_];exact or_comm
 have hnd:(ins1 ks g).Nodup:=by
  unfold ins1
  by_cases c:g∈ks
  ·rw[if_pos c];exact h.nd
  ·rw[if_neg c]
   refine qc_.mpr ⟨h.nd,by simp,fun a ha b hb=>?_⟩
   rw[jb_.mp hb]
   intro e
   exact c (e ▸ ha)
 have hrg:∀z∈ins1 ks g,0<=z/\z<(n:Int):=fun z hz=>by
  rcases (mem z).mp hz with rfl|hz
  ·exact⟨hg0,hgn⟩
  ·exact h.rg z hz
 have hle:ks.length<=(ins1 ks g).length:=by
  unfold ins1
  split
  ·exact jh_ _
  ·simp
 have hmul:=qK_ M hle
 have hlen:(t++v).length+M<=M*(ins1 ks g).length:=by
  cases hf:f g with
  |some t0=>
   have h1:=OH (hq t0 hf)
   have h2:=(h.ln g t0 hf).1
   lia
  |none=>
   have c:g∉ks:=fun z=>by have:=(h.ky g).mp z;rw[hf]at this;cases this
   unfold ins1
   rw[if_neg c,jf_,jf_,jq_,Nat.mul_add,Nat.mul_one]
   lia
 refine⟨⟨hnd,hrg,fun z=>?_,?_,fun G h0 hG z t' hz=>?_,fun z t' hz=>?_⟩,?_⟩
 ·rw[mem]
  by_cases e:z=g
  ·rw[if_pos e];simp[e]
  ·rw[if_neg e,<-h.ky];simp[e]
 ·by_cases e:s0=g
  ·have:=hq [] (by rw[<-e];exact h.z)
   rw[OI]at this;cases this
  ·rw[if_neg e];exact h.z
 ·by_cases e:z=g
  ·rw[if_pos e]at hz;cases hz
   rw[e,hg]
   exact hG s t x v (h.g G h0 hG s t hs) hx
  ·rw[if_neg e]at hz
   exact h.g G h0 hG z t' hz
 ·by_cases e:z=g
  ·rw[if_pos e]at hz;cases hz
   exact⟨hlen,hd⟩
  ·rw[if_neg e]at hz
   have:=h.ln z t' hz
   exact⟨by lia,this.2⟩
 ·unfold mu80
  refine Qd (k:=g.toNat) ?_ (fun i hi=>?_) n s!""
  ·show (match (if ((g.toNat:Nat):Int)=g then some (t++v) else f ((g.toNat:Nat):Int)) with|none=>2*B ^ (M*n)|some t=>N80.cod B t)<(match f ((g.toNat:Nat):Int) with|none=>2*B ^ (M*n)|some t=>N80.cod B t)
   have e:((g.toNat:Nat):Int)=g:=by lia
   rw[e,if_pos rfl]
   cases hf:f g with
   |none=>
    show N80.cod B (t++v)<2*B ^ (M*n)
    have h1:=N80.val_lt hd
    have h2:=AD n hnd hrg
    have h3:=qK_ M h2
    have h4:B ^ (t++v).length<=B ^ (M*n):=Nat.pow_le_pow_right s!"" s!""
    unfold N80.cod
    lia
   |some t0=>exact (N80.less_iff hB hd (h.ln g t0 hf).2).mp (hq t0 hf)
  ·show (match (if ((i:Nat):Int)=g then some (t++v) else f ((i:Nat):Int)) with|none=>2*B ^ (M*n)|some t=>N80.cod B t)=(match f ((i:Nat):Int) with|none=>2*B ^ (M*n)|some t=>N80.cod B t)
   rw[if_neg s!""]
noncomputable def BF (H:Hp)(d:Addr)(ks:α2)(f:Int->Option (α2)):Prop:=∃kvs,H d=some (.dK kvs)/\Iw ks kvs/\∀s,(f s=none/\valV kvs (Sum.inl s)=none) \/ ∃r t,f s=some r/\valV kvs (Sum.inl s)=some (.ref t)/\H t=some (.tup (r.map V.int))
theorem BF.put {H:Hp}{d:Addr}{ks:α2}{f:Int->Option (α2)}{kvs:List (Key×V)}(hd:H d=some (.dK kvs))(hk:Iw ks kvs)(hf:∀s,(f s=none/\valV kvs (Sum.inl s)=none) \/ ∃r t,f s=some r/\valV kvs (Sum.inl s)=some (.ref t)/\H t=some (.tup (r.map V.int))){g:Int}{q:Addr}{r:α2}(hq:H q=some (.tup (r.map V.int))):BF (upd H d (.dK (putK kvs (Sum.inl g) (.ref q)))) d (ins1 ks g) (fun z=>if z=g then some r else f z):=by
 have st:∀(t:Addr) (ys:List V),H t=some (.tup ys)->upd H d (.dK (putK kvs (Sum.inl g) (.ref q))) t=some (.tup ys):=fun t ys e=>by rw[Ag (fun z=>by rw[z,hd]at e;cases e)];exact e
 refine⟨_,Ab,hk.put g _,fun s=>?_⟩
 rw[HX]
 dsimp only
 by_cases e:s=g
 ·subst e
  rw[if_pos rfl,if_pos rfl]
  exact .inr ⟨r,q,rfl,rfl,st _ _ hq⟩
 ·rw[if_neg e,if_neg (fun z=>e (Sum.inl.inj z))]
  rcases hf s with a|⟨r',t',a,b,c⟩
  ·exact .inl a
  ·exact .inr ⟨r',t',a,b,st _ _ c⟩
theorem BF.mono     (h:BF H d ks f)(s:Same H H'):BF H' d ks f:=by
 obtain⟨kvs,a,b,c⟩:=h
 refine⟨kvs,s _ _ a,b,fun z=>?_⟩
 rcases c z with e|⟨r,t,e1,e2,e3⟩
 ·exact .inl e
 ·exact .inr ⟨r,t,e1,e2,s _ _ e3⟩
noncomputable def J9 (K:α3):Sp:=fun vs H Q _=>∃(h b:Addr) (s0:Int) (L n M B:Nat) (marks:α2) (ways:α1) (ys:List V) (bl:List (Option (α2))),vs=[.ref h,.ref b,.int s0]/\0<=s0/\s0<(n:Int)/\Bc K H h L marks ways/\Wf L marks ways/\marks.length=n/\n<=4/\SqL K H b ys/\RO H ys bl/\bl.length=L/\2<=B/\M<=2000/\(∀v,some v∈bl->v.length<=M/\N80.Dg B v)/\∀d ks f H',Same H H'->H d=none->BF H' d ks f->Bs s0 n M B ways bl ks f->(∀s t (x:Nat) v,f s=some t->bl[x]?=some (some v)->∃t',f (An ways s (x:Int))=some t'/\lessW (t++v) t'=false)->Q (.ref d) H'
theorem Iy   (F:Fun K "least_rows" "least_rows" B5 f fd)(T:Txt mg)
  (Z:Exs K mg C_j2 C_j1 C_j4)
   (q_j16:Cal P w K mg base CX0 1 "less" KW ["word","other"] (Nr K) Qe Nt)
  : FnOk P w K mg base CX0 2 f fd ["house","by_letter","start"] (J9 K):=by
 refine F.ok AV (fun vs H Q E h=>?_) (fun cdv A outer s H vs Q E hr h=>?_)
 ·obtain⟨h,b,s0,L,n,M,B,marks,ways,ys,bl,rfl,_⟩:=h;rfl
 ·obtain⟨h,b,st,L,n,M,B,marks,ways,ys,bl,rfl,st0,stn,hh,wf,hmn,hn4,hb,hro,hbl,hB,hM,hbv,k⟩:=h
  have hl:=Au
  refine⟨_,(@Ac _ _ _ _ _ (@QP _ 3 _ _ _ _ _ _ _ _ AV.nd rfl (Or.inl rfl) (pvD 2) (AL Ad) rfl (Or.inl rfl))
   (Ac (Aj (i:=4) AV.nd Di)
   (Ac (Dj jC_ (ptB (FE (pvD 4)))
   (Ac (Aj (i:=4) AV.nd Di)
   (Af (A0 jC_ rfl (BI (AJ (Hg rfl) rfl T.list qW_ (Aa (pvD 3) Ad))) (As (i:=5) AV.nd rfl (Or.inl rfl))
   (Af (A0 jC_ rfl (M4 rfl T.zip (Aa (Ah (ixTD Am) (Ah (ixTD Am) (pvD 0) Ae) (pvD 5)) (Aa (pvD 1) Ad))) (FF rfl (AZ (As (i:=6) AV.nd rfl (Or.inl rfl)) (AZ (As (i:=7) AV.nd rfl (Or.inl rfl)) DL)))
   (Af (AR (ptT (Ap Dm (pvD 7) Ba (Ar _)))
   (Ac (Aj (i:=8) AV.nd (Av BK (Fp (Gz hr) (pvD 3) (pvD 5) (fun _ _=>rfl)) (pvD 7)))
   (Af (AR (PW.pt (Ld (OO (Jf (Gz hr) (pvD 6) (pvD 3))) (Hn (ptB (FE (Ak q_j16 hr.d AF (Aa (pvD 8) (Aa (Fp (Gz hr) (pvD 3) (pvD 6) (fun _ _=>rfl)) Ad))))))))
   (Ac (Mm (Gz hr) (pvD 3) (pvD 6) (pvD 8) rfl)
   (Af (Aj (i:=4) AV.nd Di)))
   Ax)))
   Ax))))))))
   (Af (Aw (pvD 3)))))),?_⟩
  obtain⟨tm,tw,q1,q2,ts,q3,q4,q5⟩:=id hh
  have hn1:=wf.n1
  walk_at "rd"
  refine fun d hd=>⟨by lia,fun e0 he0=>⟨by rw[Ag (Al he0).2.symm];exact Ab,[(Sum.inl st,.ref e0)],rfl,by simp,?_⟩⟩
  have hde:d≠e0:=(Al he0).2.symm
  have he0H:H e0=none:=(Al he0).1
  have s0:Same H (upd (upd (upd H d (.dK [])) e0 (.tup [])) d (.dK (Ek [] [(Sum.inl st,.ref e0)]))):=((Same.new hd).newT he0).over hd
  have hBF0:BF (upd (upd (upd H d (.dK [])) e0 (.tup [])) d (.dK (Ek [] [(Sum.inl st,.ref e0)]))) d [st] (fun s=>if s=st then some [] else none):=by
   refine⟨_,Ab,rfl,fun s=>?_⟩
   dsimp only
   by_cases e:s=st
   ·rw[if_pos e,e]
    exact .inr ⟨[],e0,rfl,(by show valV (putK [] (Sum.inl st) (.ref e0)) (Sum.inl st)=_;rw[HX,if_pos rfl]),by rw[Ag hde.symm];exact Ab⟩
   ·rw[if_neg e]
    refine .inl ⟨rfl,?_⟩
    show valV (putK [] (Sum.inl st) (.ref e0)) (Sum.inl s)=none
    rw[HX,if_neg (fun z=>e (Sum.inl.inj z))];rfl
  generalize upd (upd (upd H d (.dK [])) e0 (.tup [])) d (.dK (Ek [] [(Sum.inl st,.ref e0)]))=H1 at s0 hBF0 ⊢
  obtain⟨Pw,hPw⟩:∃Pv:Nat->St->Hp->Prop,∀m σ' H',Pv m σ' H'↔(∃(ks:α2) (f:Int->Option (α2)) (c:Bool) (o1 o2 o3 o4:Option V),Same H H'/\BF H' d ks f/\Bs st n M B ways bl ks f/\m=2*mu80 n M B f+(if c then 1 else 0)/\(c=false->∀s t (x:Nat) v,f s=some t->bl[x]?=some (some v)->∃t',f (An ways s (x:Int))=some t'/\lessW (t++v) t'=false)/\σ'=[some (.ref h),some (.ref b),some (.int st),some (.ref d),some (.bl c),o1,o2,o3,o4]):=⟨_,fun _ _ _=>j2_⟩
  refine GD Pw ⟨_,(hPw _ _ _).mpr ⟨_,_,true,none,none,none,none,s0,hBF0,Bs.start st0 stn,rfl,(fun z=>nomatch z),rfl⟩⟩ fun m σ' H' h'=>?_
  obtain⟨ks,f,c,o1,o2,o3,o4,s1,hBF,hBs,hm,hcl,rfl⟩:=(hPw _ _ _).mp h'
  walk_at "rd"
  cases c with
  |false=>
   rw[if_neg (by simp)]
   exact k d ks f H' s1 hd hBF hBs (hcl rfl)
  |true=>
   rw[if_pos rfl]
   obtain⟨kvs,e1,e2,e3⟩:=id hBF
   refine⟨fun σ2 H2=>∃m',m'<m/\Pw m' σ2 H2,fun _ _ h=>h,kvs,e1,fun l hl'=>⟨⟨_,SqL.of Ab⟩,?_⟩⟩
   have ek:kvs.map (fun kv=>kV kv.1)=ks.map V.int:=by
    have:kvs.map (fun kv=>kV kv.1)=(kvs.map (·.1)).map kV:=by rw[xB_];rfl
    rw[this,e2,xB_];rfl
   rw[ek]
   have hdl:d≠l:=fun z=>by rw[z,hl']at e1;cases e1
   have hlH:H l=none:=s1.none hl'
   have hkl:=AD n hBs.nd hBs.rg
   obtain⟨Pr,hPr⟩:∃Pv:Nat->Nat->St->Hp->Prop,∀i j σ2 H2,Pv i j σ2 H2↔(∃(ks2:α2) (f2:Int->Option (α2)) (c2:Bool) (o1 o2 o3 o4:Option V),Same H H2/\H2 l=some (.lst (ks.map V.int))/\BF H2 d ks2 f2/\Bs st n M B ways bl ks2 f2/\(∀s∈ks,s∈ks2)/\((c2=false/\f2=f/\∀(i':Nat) s t (x:Nat) v,ks[i']?=some s->(i'<i\/(i'=i/\x<j))->f s=some t->bl[x]?=some (some v)->∃t',f (An ways s (x:Int))=some t'/\lessW (t++v) t'=false)\/(c2=true/\mu80 n M B f2<mu80 n M B f))/\(∀s,ks[i]?=some s->0<j->o1=some (.int s))/\σ2=[some (.ref h),some (.ref b),some (.int st),some (.ref d),some (.bl c2),o1,o2,o3,o4]):=⟨_,fun _ _ _ _=>j2_⟩
   refine forL (xs:=ks.map V.int) (fun i=>Pr i 0) ((hPr _ _ _ _).mpr ⟨ks,f,false,_,_,_,_,s1.newT hl',Ab,?_,hBs,fun s hs=>hs,.inl ⟨rfl,rfl,fun i' s t x v _ hi=>by lia⟩,fun s _ z=>absurd z (qi_ _),rfl⟩) (fun i σ2 H2 _ h2=>?_) (fun i x σ2 H2 hx h2=>?_) (fun σ2 H2 h2=>?_)
   ·refine⟨kvs,by rw[Ag hdl];exact e1,e2,fun s=>?_⟩
    rcases e3 s with a|⟨r,t,a,b',c'⟩
    ·exact .inl a
    ·exact .inr ⟨r,t,a,b',Same.new hl' _ _ c'⟩
   ·obtain⟨_,_,_,_,_,_,_,_,h3,_⟩:=(hPr _ _ _ _).mp h2
    exact SqL.of h3
   ·obtain⟨ks2,f2,c2,p1,p2,p3,p4,s2,hl2,hB2,hS2,hsub,hc2,_,rfl⟩:=(hPr _ _ _ _).mp h2
    obtain⟨s,hs,rfl⟩:=A1 hx
    have hsm:=jl_ hs
    have hsr:=hBs.rg s hsm
    obtain⟨sn,rfl⟩:∃sn:Nat,s=(sn:Int):=⟨s.toNat,by lia⟩
    have hsw:sn<ways.length:=by rw[wf.len];lia
    have hst:sn<ts.length:=by rw[q4];exact hsw
    have hrow:=q5 sn ts[sn] ways[sn] (ja_ hst) (ja_ hsw)
    have hwr:=wf.rows ways[sn] (jB_ hsw)
    have hyl:=hro.1
    walk_at "rd"
    refine⟨_,s2.seqT q1,_,rfl,tw,rfl,_,s2.seqT q3,_,AE (by rw[jw_,ja_ hst];rfl),?_⟩
    refine⟨ts[sn],rfl,_,_,true,s2.seqT hrow,false,s2.seq hb,?_⟩
    have hwl:ways[sn].length=L:=by lia
    obtain⟨Pz,hPz⟩:∃Pv:Nat->St->Hp->Prop,∀j σ2 H2,Pv j σ2 H2↔(∃(ks2:α2) (f2:Int->Option (α2)) (c2:Bool) (o2 o3 o4:Option V),Same H H2/\H2 l=some (.lst (ks.map V.int))/\BF H2 d ks2 f2/\Bs st n M B ways bl ks2 f2/\(∀s∈ks,s∈ks2)/\((c2=false/\f2=f/\∀(i':Nat) s t (x:Nat) v,ks[i']?=some s->(i'<i\/(i'=i/\x<j))->f s=some t->bl[x]?=some (some v)->∃t',f (An ways s (x:Int))=some t'/\lessW (t++v) t'=false)\/(c2=true/\mu80 n M B f2<mu80 n M B f))/\σ2=[some (.ref h),some (.ref b),some (.int st),some (.ref d),some (.bl c2),some (.int sn),o2,o3,o4]):=⟨_,fun _ _ _=>j2_⟩
    refine S9 L (by rw[jd_];lia) s!"" (.inl (by rw[jd_];exact hwl)) Pz ((hPz _ _ _).mpr ⟨ks2,f2,c2,_,_,_,s2,hl2,hB2,hS2,hsub,hc2,rfl⟩) (fun j σ3 H3 _ h3=>?_) (fun j u v σ3 H3 t hj hu hv h3 ht=>?_) (fun σ3 H3 h3=>?_)
    ·obtain⟨_,_,_,_,_,_,s3,_⟩:=(hPz _ _ _).mp h3
     exact⟨s3.seqT hrow,s3.seq hb⟩
    ·clear hPr hc2 hS2 hB2 s2 hl2 hsub
     obtain⟨ks2,f2,c2,p2,p3,p4,s3,hl3,hB3,hS3,hsub,hc3,rfl⟩:=(hPz _ _ _).mp h3
     obtain⟨g,hg,rfl⟩:=A1 hu
     have hgr:=hwr.2 g (jl_ hg)
     have hstep:g=An ways (sn:Int) (j:Int):=(Ig (r:=(sn:Int)) (x:=(j:Int)) (row:=ways[sn]) (by rw[ju_];exact ja_ hsw) (by rw[ju_];exact hg)).symm
     walk_at "rd"
     have sT:=Same.new ht (o:=.tup [V.int g,v])
     have htT:SqT K (upd H3 t (.tup [V.int g,v])) t [V.int g,v]:=SqT.of Ab
     have s4:=s3.trans sT
     have hl4:=sT _ _ hl3
     have hB4:=hB3.mono sT
     generalize upd H3 t (.tup [V.int g,v])=H4 at sT htT s4 hl4 hB4 ⊢
     have ext:(c2=false->f2=f->∀t v,f (sn:Int)=some t->bl[j]?=some (some v)->∃t',f (An ways (sn:Int) (j:Int))=some t'/\lessW (t++v) t'=false)->((c2=false/\f2=f/\∀(i':Nat) s t (x:Nat) v,ks[i']?=some s->(i'<i\/(i'=i/\x<j+1))->f s=some t->bl[x]?=some (some v)->∃t',f (An ways s (x:Int))=some t'/\lessW (t++v) t'=false)\/(c2=true/\mu80 n M B f2<mu80 n M B f)):=fun hx=>by
      rcases hc3 with ⟨a1,a2,a3⟩|a
      ·refine .inl ⟨a1,a2,fun i' s t x v h1 h2 h4 h5=>?_⟩
       by_cases hc:i'<i\/(i'=i/\x<j)
       ·exact a3 i' s t x v h1 hc h4 h5
       ·have e1:i'=i:=by lia
        have e2:x=j:=by lia
        subst e1 e2
        rw[hs]at h1
        cases h1
        exact hx a1 a2 t v h4 h5
      ·exact .inr a
     refine⟨_,htT,rfl,_,_,rfl,_,_,rfl,rfl,?_⟩
     rcases (hro.mono (TK.of s4)).at hv with ⟨hv1,rfl⟩|⟨r,tr,hv1,rfl,htr⟩
     ·rw[if_neg (by simp)]
      refine (hPz _ _ _).mpr ⟨ks2,f2,c2,_,_,_,s4,hl4,hB4,hS3,hsub,ext fun _ _ t v _ h5=>?_,rfl⟩
      rw[hv1]at h5;cases h5
     ·rw[if_pos (by simp)]
      have hrv:=hbv r (jl_ hv1)
      obtain⟨kv4,d1,d2,d3⟩:=id hB4
      have hkl2:=AD n hS3.nd hS3.rg
      have hkn:kv4.length<=4:=by rw[d2.len];lia
      obtain⟨t0,tt,e1',e2',e3'⟩:∃t0 tt,f2 (sn:Int)=some t0/\valV kv4 (Sum.inl (sn:Int))=some (.ref tt)/\H4 tt=some (.tup (t0.map V.int)):=by
       rcases d3 (sn:Int) with ⟨a,_⟩|⟨r',t',a,b',c'⟩
       ·have:=(hS3.ky (sn:Int)).mp (hsub _ hsm)
        rw[a]at this;cases this
       ·exact⟨r',t',a,b',c'⟩
      have ht0:=(hS3.ln _ _ e1').1
      have hmul:M*ks2.length<=2000*4:=zd_ hM s!""
      have hdg:DGet H4 d (.int (sn:Int)) (some (.ref tt)):=by rw[<-e2'];exact DGet.k (k:=Sum.inl (sn:Int)) d1
      refine⟨.ref tt,hdg,Cg.ofS e3' htr (by simp;lia) fun q H5 s5 hq=>?_⟩
      have d5:=s5 _ _ d1
      have s45:=s4.trans s5
      have hq':H5 q=some (.tup ((t0++r).map V.int)):=by rw[jI_];exact hq
      have d3':∀s,(f2 s=none/\valV kv4 (Sum.inl s)=none) \/ ∃r t,f2 s=some r/\valV kv4 (Sum.inl s)=some (.ref t)/\H5 t=some (.tup (r.map V.int)):=fun s=>by
       rcases d3 s with a|⟨r',t',a,b',c'⟩
       ·exact .inl a
       ·exact .inr ⟨r',t',a,b',s5 _ _ c'⟩
      have hmu:mu80 n M B f2<=mu80 n M B f:=by
       rcases hc3 with ⟨_,a2,_⟩|⟨_,a⟩
       ·rw[a2];exact jh_ _
       ·lia
      have put:(∀t1,f2 g=some t1->lessW (t0++r) t1=true)->∃H6,DPut H5 d (.int g) (.ref q) H6/\Pz (j+1) [some (.ref h),some (.ref b),some (.int st),some (.ref d),some (.bl true),some (.int sn),some (.int g),some (.ref tr),some (.ref q)] H6:=fun hlt=>by
       have hp:=hS3.put hB hbv hstep e1' hv1 hgr.1 (by rw[<-hmn];exact hgr.2) hlt
       refine⟨_,DPut.k (k:=Sum.inl g) d5 s!"",(hPz _ _ _).mpr ⟨_,_,true,_,_,_,s45.over hd,by rw[Ag hdl.symm];exact s5 _ _ hl4,BF.put d5 d2 d3' hq',hp.1,fun s hs=>?_,.inr ⟨rfl,by lia⟩,rfl⟩⟩
       have:=hsub s hs
       unfold ins1
       split
       ·exact this
       ·exact jr_ _ this
      refine⟨valV kv4 (Sum.inl g),DGet.k (k:=Sum.inl g) d5,?_⟩
      rcases d3' g with ⟨a1,a2⟩|⟨t1,tg,a1,a2,a3⟩
      ·rw[a2,if_pos (by rfl)]
       exact put fun t1 z=>by rw[a1]at z;cases z
      ·rw[a2,if_neg (by simp)]
       refine⟨.ref tg,by rw[<-a2];exact DGet.k (k:=Sum.inl g) d5,q,tg,t0++r,t1,rfl,SqT.of hq',SqT.of a3,_,rfl,?_⟩
       cases hls:lessW (t0++r) t1 with
       |true=>
        rw[if_pos rfl]
        exact put fun t2 z=>by rw[a1]at z;cases z;exact hls
       |false=>
        rw[if_neg (by simp)]
        refine (hPz _ _ _).mpr ⟨ks2,f2,c2,_,_,_,s45,s5 _ _ hl4,hB4.mono s5,hS3,hsub,ext fun _ hf t v h4 h5=>?_,rfl⟩
        rw[hv1]at h5
        cases h5
        rw[hf]at e1' a1
        rw[e1']at h4
        cases h4
        exact⟨t1,by rw[<-hstep];exact a1,hls⟩
    ·obtain⟨ks2,f2,c2,p2,p3,p4,s3,hl3,hB3,hS3,hsub,hc3,rfl⟩:=(hPz _ _ _).mp h3
     refine (hPr _ _ _ _).mpr ⟨ks2,f2,c2,_,_,_,_,s3,hl3,hB3,hS3,hsub,?_,fun s _ z=>absurd z (qi_ _),rfl⟩
     rcases hc3 with ⟨a1,a2,a3⟩|a
     ·refine .inl ⟨a1,a2,fun i' s t x v h1 h2 h4 h5=>a3 i' s t x v h1 ?_ h4 h5⟩
      have:=(jc_.mp h5).1
      lia
     ·exact .inr a
   ·obtain⟨ks2,f2,c2,p1,p2,p3,p4,s2,hl2,hB2,hS2,hsub,hc2,_,rfl⟩:=(hPr _ _ _ _).mp h2
    rw[jd_]at hc2
    rcases hc2 with ⟨rfl,rfl,hcc⟩|⟨rfl,hlt⟩
    ·refine⟨_,?_,(hPw _ _ _).mpr ⟨ks2,f2,false,_,_,_,_,s2,hB2,hS2,rfl,fun _ s t x v hft hx=>?_,rfl⟩⟩
     ·rw[hm];simp
     ·have hsm:s∈ks:=(hBs.ky s).mpr (by rw[hft];rfl)
      obtain⟨i',hi',e⟩:=jT_.mp hsm
      exact hcc i' s t x v (by rw[ja_ hi',e]) (.inl hi') hft hx
    ·refine⟨_,?_,(hPw _ _ _).mpr ⟨ks2,f2,true,_,_,_,_,s2,hB2,hS2,rfl,(fun z=>nomatch z),rfl⟩⟩
     rw[hm];simp;lia
theorem SX           (Pv:Nat->List V->St->Hp->Prop)(h0:Pv 0 [] (cp.st σ) H)(hz:kvs.length<sizeLine)
  (hl:∀i ys σ H,i<=kvs.length->Pv i ys σ H->H a=some (.frz o (.dK kvs))/\ys.length<=i)
  (hs:∀i k v ys σ H,kvs[i]?=some (k,v)->Pv i ys σ H->g (kV k) σ H fun σ2 H2=>tc σ2 H2 fun b H3=>if b=true then te σ2 H3 fun v H4=>Pv (i+1) (ys++[v]) σ2 H4 else Pv (i+1) ys σ2 H3)
  (hd:∀ys σ H,Pv kvs.length ys σ H->∀D,H D=none->Q (.ref D) (upd H D (.lst ys))):JO (ItkK o a kvs) cp g tc te σ H Q:=by
 refine⟨fun i m ys σ H=>m=kvs.length-i/\i<=kvs.length/\Pv i ys σ H,⟨kvs.length,by simp,j1_ _,h0⟩,?_⟩
 rintro i m ys σ H ⟨rfl,hi,p⟩
 obtain⟨q,ly⟩:=hl i ys σ H hi p
 refine⟨by lia,?_⟩
 by_cases hlt:i<kvs.length
 ·refine .inr ⟨⟨hlt,q⟩,Pv (i+1),fun zs σ' H' p'=>⟨kvs.length-(i+1),by lia,rfl,hlt,p'⟩,fun x H' y=>?_⟩
  obtain⟨rfl,k,v,hk,rfl⟩:=y
  exact hs i k v ys σ H' hk p
 ·have e:i=kvs.length:=by lia
  subst e
  exact .inl ⟨⟨jh_ _,q⟩,hd ys σ H p⟩
noncomputable def mk80 (marks:α2)(s:Int):Int:=marks.getD s.toNat 0
noncomputable abbrev Lm80 (K:α3)(H:Hp):Prop:=LamT (tabP K "least_row_taken") Ci (Str.ofString "least_row_taken" ++ ".<locals>.") H
noncomputable def Ka (K:α3):Sp:=fun vs H Q _=>∃(h b:Addr) (s0:Int) (L n M B:Nat) (marks:α2) (ways:α1) (ys:List V) (bl:List (Option (α2))) (G:Int->α2->Prop),vs=[.ref h,.ref b,.int s0]/\0<=s0/\s0<(n:Int)/\Bc K H h L marks ways/\Wf L marks ways/\marks.length=n/\n<=4/\SqL K H b ys/\RO H ys bl/\bl.length=L/\2<=B/\M<=2000/\(∀v,some v∈bl->v.length<=M/\N80.Dg B v)/\Lm80 K H/\G s0 []/\(∀s t (x:Nat) v,G s t->bl[x]?=some (some v)->G (An ways s (x:Int)) (t++v))/\(∀s s' t,G s t->G s' t->s=s') /\
 ∀ks f res v H',AY (tabP K "least_row_taken") H H'->Lm80 K H'->Bs s0 n M B ways bl ks f->(∀s t (x:Nat) v,f s=some t->bl[x]?=some (some v)->∃t',f (An ways s (x:Int))=some t'/\lessW (t++v) t'=false)->((res=none/\v=.non) \/ ∃r t,res=some r/\v=.ref t/\H' t=some (.tup (r.map V.int)))->(∀t,res=some t->∃s,f s=some t/\mk80 marks s≠0)->(∀s t,f s=some t->mk80 marks s≠0->∃t',res=some t'/\lessW t t'=false)->Q v H'
theorem EZ   (F:FunL K mg base "least_row_taken" "least_row_taken" AH f fd)(T:Txt mg)
  (Z:Exs K mg C_j2 C_j1 C_j4)
   (q_jj:Cal P w K mg base CX0 2 "least_rows" B5 ["house","by_letter","start"] (J9 K) D1 Dy)
  : FnOk P w K mg base CX0 6 f fd ["house","by_letter","start"] (Ka K):=by
 refine F.ok BL (fun vs H Q E h=>?_) (fun cdv hcd A outer s H vs Q E hr h=>?_)
 ·obtain⟨h,b,s0,L,n,M,B,marks,ways,ys,bl,G,rfl,_⟩:=h;rfl
 ·obtain⟨h,b,st,L,n,M,B,marks,ways,ys,bl,G,rfl,st0,stn,hh,wf,hmn,hn4,hb,hro,hbl,hB,hM,hbv,hLm,G0,G1,G2,k⟩:=h
  have hl:=Au
  refine⟨_,(Ac (EI (i:=3) BL.nd rfl (Or.inr rfl) (Ak q_jj hr.d AF (Aa (pvD 0) (Aa (pvD 1) (Aa (pvD 2) Ad)))))
   (Ac (Ey (i:=4) BL.nd rfl rfl rfl (DR rfl) (cp:=CG) ⟨⟨rfl,rfl⟩,⟨⟨rfl,rfl⟩,True.intro⟩⟩ (KN (pvD 3)) (fun _ _ _ _=>(As (i:=0) DJ rfl (Or.inl rfl))) (fun _ _ _ _=>(Mo (ptT (Ap (opN Gr) (Ah (ixTD (GF (K:=K) rfl)) (Ah (ixTD (GF (K:=K) rfl)) (pvD 2) Ae) (pvD 0)) Ae (Ar _))))) (fun _ _ _ _=>(Fp (Gz hr) (pvD 1) (pvD 0) (fun _ _=>rfl))))
   (Af (Aw (Q9 (k:=0) (c:=tabC K "least_row_taken") (P:=tabP K "least_row_taken") (lp:=Ci) (qual:=Str.ofString "least_row_taken" ++ ".<locals>.") rfl (hr.mono (by decide)) rfl T.min T.len hcd F.C F.B (Aa (pvD 4) Ad)))))),?_⟩
  obtain⟨tm,tw,q1,q2,q3⟩:=id hh
  walk_at "rd"
  refine⟨h,b,st,L,n,M,B,marks,ways,ys,bl,rfl,st0,stn,hh,wf,hmn,hn4,hb,hro,hbl,hB,hM,hbv,fun d ks f H1 s1 hdn hBF hBs hcl=>?_⟩
  obtain⟨kvs,e1,e2,e3⟩:=id hBF
  have hkl:=AD n hBs.nd hBs.rg
  have hkn:=e2.len
  refine⟨d,rfl,kvs,.inl e1,fun o H2 hf2 hz2=>?_⟩
  have s2:Same H H2:=fun c u e=>hz2.1 c u (fun z=>by rw[z,hdn]at e;cases e) (s1 _ _ e)
  have ht2:∀t ys,H1 t=some (.tup ys)->H2 t=some (.tup ys):=fun t ys e=>hz2.1 t _ (fun z=>by rw[z,e1]at e;cases e) e
  obtain⟨Pc,hPc⟩:∃Pc:Nat->List V->St->Hp->Prop,∀i us σ' H',Pc i us σ' H'↔(H'=H2/\∃ws:List S64.Wd,us=S64.wv ws/\(∀w∈ws,H2 w.1=some (.tup (w.2.map V.int))/\∃s∈ks.take i,f s=some w.2/\mk80 marks s≠0)/\(∀s∈ks.take i,∀t,f s=some t->mk80 marks s≠0->∃w∈ws,w.2=t)/\(ws.map (·.2)).Nodup/\ws.length<=i/\∃o,σ'=[o,some (.ref d),some (.ref h)]):=⟨_,fun _ _ _ _=>j2_⟩
  refine SX Pc ((hPc _ _ _ _).mpr ⟨rfl,[],rfl,(fun w hw=>nomatch hw),(fun s hs=>by rw[List.take_zero]at hs;cases hs),xP_,jh_ _,none,rfl⟩) s!"" (fun i us σ' H' hi h'=>?_) (fun i kk v us σ' H' hk h'=>?_) (fun us σ' H' h' D hD=>?_)
  ·obtain⟨rfl,ws,rfl,_,_,_,hwl,_⟩:=(hPc _ _ _ _).mp h'
   exact⟨hf2,by unfold S64.wv;rw[jd_];exact hwl⟩
  ·obtain⟨rfl,ws,rfl,hw1,hw2,hw3,hwl,ov,rfl⟩:=(hPc _ _ _ _).mp h'
   have hik:i<ks.length:=by rw[<-hkn];exact (jc_.mp hk).1
   have hkk:kk=Sum.inl ks[i]:=by
    have:=qR_ (fun l=>l[i]?) e2
    rw[jw_,jw_,hk,ja_ hik]at this
    exact jH_ this
   subst hkk
   have hsm:ks[i]∈ks:=jB_ hik
   have hsr:=hBs.rg _ hsm
   generalize hse:ks[i]=s at hsm hsr hk ⊢
   have et:ks.take (i+1)=ks.take i++[s]:=by rw[jF_,ja_ hik,hse];rfl
   obtain⟨r,t,f1,f2,f3⟩:∃r t,f s=some r/\valV kvs (Sum.inl s)=some (.ref t)/\H1 t=some (.tup (r.map V.int)):=by
    rcases e3 s with ⟨a,_⟩|⟨r',t',a,b',c'⟩
    ·have:=(hBs.ky s).mp hsm
     rw[a]at this;cases this
    ·exact⟨r',t',a,b',c'⟩
   have hmk:marks[s.toNat]?=some (mk80 marks s):=by
    unfold mk80
    have:s.toNat<marks.length:=by lia
    rw[js_,ja_ this];rfl
   walk_at "rd"
   refine⟨_,s2.seqT q1,_,rfl,tm,rfl,_,s,rfl,s2.seqT q2,.int (mk80 marks s),?_,rfl,?_⟩
   ·obtain⟨sn,rfl⟩:∃sn:Nat,s=(sn:Int):=⟨s.toNat,by lia⟩
    rw[ju_]at hmk
    exact AE (by rw[jw_,hmk];rfl)
   by_cases h0:mk80 marks s=0
   ·rw[if_neg (by simp[h0])]
    refine (hPc _ _ _ _).mpr ⟨rfl,ws,rfl,fun w hw=>?_,fun s' hs' t' h4 h5=>?_,hw3,by lia,_,rfl⟩
    ·obtain⟨a1,s',a2,a3⟩:=hw1 w hw
     exact⟨a1,s',by rw[et];exact jr_ _ a2,a3⟩
    ·rw[et]at hs'
     rcases jj_.mp hs' with hs' | hs'
     ·exact hw2 s' hs' t' h4 h5
     ·rw[jb_.mp hs']at h5;exact absurd h0 h5
   ·rw[if_pos (by simp[h0])]
    refine⟨.ref t,.inl ⟨kvs,Sum.inl s,.inr ⟨o,hf2⟩,rfl,f2.symm⟩,(hPc _ _ _ _).mpr ⟨rfl,ws++[(t,r)],by unfold S64.wv;rw[jI_];rfl,fun w hw=>?_,fun s' hs' t' h4 h5=>?_,?_,by rw[jf_,jq_];lia,_,rfl⟩⟩
    ·rcases jj_.mp hw with hw|hw
     ·obtain⟨a1,s',a2,a3⟩:=hw1 w hw
      exact⟨a1,s',by rw[et];exact jr_ _ a2,a3⟩
     ·rw[jb_.mp hw]
      exact⟨ht2 _ _ f3,s,by rw[et];exact jk_ _ (jb_.mpr rfl),f1,h0⟩
    ·rw[et]at hs'
     rcases jj_.mp hs' with hs' | hs'
     ·obtain⟨w,a1,a2⟩:=hw2 s' hs' t' h4 h5
      exact⟨w,jr_ _ a1,a2⟩
     ·rw[jb_.mp hs',f1]at h4
      cases h4
      exact⟨(t,r),jk_ _ (jb_.mpr rfl),rfl⟩
    ·rw[jI_]
     refine qc_.mpr ⟨hw3,by simp,fun a ha b' hb'=>?_⟩
     rw[xi_,jb_]at hb'
     obtain⟨w,hw,rfl⟩:=qh_.mp ha
     intro z
     obtain⟨_,s',a2,a3,_⟩:=hw1 w hw
     rw[z,hb']at a3
     have:=G2 s' s r (hBs.g G G0 G1 s' r a3) (hBs.g G G0 G1 s r f1)
     rw[this]at a2
     obtain⟨i',hi',e'⟩:=jT_.mp a2
     rw[j5_]at hi'
     rw[List.getElem_take]at e'
     have:=(xX_ (xs:=ks) (i:=i') (j:=i) (h₀:=by lia) (h₁:=hik) hBs.nd).mp (by rw[e',hse])
     lia
  ·obtain⟨rfl,ws,rfl,hw1,hw2,hw3,hwl,ov,rfl⟩:=(hPc _ _ _ _).mp h'
   rw[hkn,jL_]at hw1 hw2
   have sD:=s2.newT hD (o:=.lst (S64.wv ws))
   refine⟨D,rfl,ws,SqL.of Ab,fun w hw=>SqT.of (Same.new hD _ _ (hw1 w hw).1),hw3,hLm.mono sD,fun hz H3 s3 hL3=>?_,fun w H3 s3 hL3 hw hmin=>?_⟩
   ·refine k ks f none .non H3 ((AY.of sD).trans s3) hL3 hBs hcl (.inl ⟨rfl,rfl⟩) (fun t z=>by cases z) (fun s t h4 h5=>?_)
    obtain⟨w,hw,_⟩:=hw2 s ((hBs.ky s).mpr (by rw[h4];rfl)) t h4 h5
    rw[hz]at hw;cases hw
   ·obtain⟨a1,s,a2,a3,a4⟩:=hw1 w hw
    obtain⟨ps,hps⟩:=(hLm.mono sD).is
    refine k ks f (some w.2) (.ref w.1) H3 ((AY.of sD).trans s3) hL3 hBs hcl (.inr ⟨w.2,w.1,rfl,rfl,s3.ne (Same.new hD _ _ a1) (fun _ z=>by cases z) hps⟩) (fun t z=>by cases z;exact⟨s,a3,a4⟩) (fun s' t h4 h5=>?_)
    obtain⟨w',hw',rfl⟩:=hw2 s' ((hBs.ky s').mpr (by rw[h4];rfl)) t h4 h5
    exact⟨w.2,rfl,hmin w' hw'⟩
theorem K0    (h:x<p):(blR p rs)[x]?=some (some [(x:Int)]):=by
 unfold blR
 rw[jg_ (by rw[jd_,qL_];exact h),jw_,List.getElem?_range h];rfl
theorem K1    (h:i<rs.length):(blR p rs)[p+i]?=some (EY p rs.length rs i):=by
 unfold blR
 rw[jp_ (by rw[jd_,qL_];lia),jd_,qL_,show p+i-p=i by lia,jw_,List.getElem?_range h];rfl
theorem Kb (p:Nat)(rs:List (Option (α2))):(blR p rs).length=p+rs.length:=by
 unfold blR
 rw[jf_,jd_,jd_,qL_,qL_]
theorem D3     (h:(blR p rs)[x]?=some (some v)):(x<p/\v=[(x:Int)]) \/ ∃i r,x=p+i/\i<rs.length/\rs[i]?=some (some r)/\v=((p:Int)+i)::r++[(p:Int)+rs.length]:=by
 by_cases hx:x<p
 ·rw[K0 hx]at h
  exact .inl ⟨hx,(jH_ (jH_ h)).symm⟩
 ·have hxl:=(jc_.mp h).1
  rw[Kb]at hxl
  obtain⟨i,rfl⟩:∃i,x=p+i:=⟨x-p,by lia⟩
  have hi:i<rs.length:=by lia
  rw[K1 hi]at h
  have h:=jH_ h
  unfold EY at h
  cases hr:rs[i]? with
  |none=>rw[hr]at h;cases h
  |some o=>
   cases o with
   |none=>rw[hr]at h;cases h
   |some r=>
    rw[hr]at h
    exact .inr ⟨i,r,rfl,hi,hr,(jH_ h).symm⟩
noncomputable def G80 (A:Int->α2->Prop)(p e:Int)(ways:α1)(s:Int)(t:α2):Prop:=N80.Nst p e t/\N80.Okr A p e t/\(Nest.outW p e t).foldl (An ways) 0=s
theorem G80.one      (h:G80 A p e ways s t)(h':G80 A p e ways s' t):s=s':=h.2.2.symm.trans h'.2.2
theorem G80.start    : G80 A p e ways 0 []:=⟨.nil,(fun q hq=>nomatch hq),rfl⟩
theorem G80.step {A:Int->α2->Prop}{p:Nat}{ways:α1}{rs:List (Option (α2))}(hA:∀(i:Nat) r,rs[i]?=some (some r)->N80.Acc A p ((p:Int)+rs.length) (i:Int) r){s:Int}{t:α2}{x:Nat}{v:α2}(h:G80 A p ((p:Int)+rs.length) ways s t)(hv:(blR p rs)[x]?=some (some v)):G80 A p ((p:Int)+rs.length) ways (An ways s (x:Int)) (t++v):=by
 have hp:(0:Int)<=(p:Int):=by lia
 have hpe:(p:Int)<=(p:Int)+rs.length:=by lia
 obtain⟨h1,h2,h3⟩:=h
 rcases D3 hv with ⟨hx,rfl⟩|⟨i,r,rfl,hi,hr,rfl⟩
 ·have hn:N80.Nst (p:Int) ((p:Int)+rs.length) [(x:Int)]:=N80.nst_pl s!"" s!""
  refine⟨h1.app hn,(N80.okr_app hp hpe h1 hn).mpr ⟨h2,N80.okr_pl s!"" s!"" hpe⟩,?_⟩
  rw[(N80.out_app (h1.row hp hpe) (hn.row hp hpe)).2,(N80.out_pl s!"" s!"" hpe).2,jK_,h3];rfl
 ·have ha:=hA i r hr
  have hn:=N80.nst_ca (c:=(p:Int)+i) (e:=(p:Int)+rs.length) s!"" s!"" ha.n
  refine⟨h1.app hn,(N80.okr_app hp hpe h1 hn).mpr ⟨h2,(N80.okr_ca hp hpe s!"" s!"" ha.n).mpr (by rw[show (p:Int)+i-p=i by lia];exact ha)⟩,?_⟩
  rw[(N80.out_app (h1.row hp hpe) (hn.row hp hpe)).2,(N80.out_ca hp s!"" s!"" (ha.n.row hp hpe)).2,jK_,h3]
  show An ways s ((p:Int)+i)=An ways s ((p+i:Nat):Int)
  rw[jQ_]
noncomputable def OJ (rs:List (Option (α2)))(i:Int):Option (α2):=(rs[i.toNat]?).getD none
theorem Iz {B:Nat}(hB:2<=B)  (hu:N80.Dg B u)(hv:N80.Dg B v)(h:lessW u v=false):N80.cod B v<=N80.cod B u:=by
 refine qg_ fun z=>?_
 have:=(N80.less_iff hB hu hv).mpr s!""
 rw[h]at this;cases this
theorem SY  {p n M B:Nat}   (hB:2<=B)(hBe:(B:Int)=(p:Int)+rs.length+1)(hA:∀(i:Nat) r,rs[i]?=some (some r)->N80.Acc A p ((p:Int)+rs.length) (i:Int) r)   (h:Bs 0 n M B ways (blR p rs) ks f)
  (hcl:∀s t (x:Nat) v,f s=some t->(blR p rs)[x]?=some (some v)->∃t',f (An ways s (x:Int))=some t'/\lessW (t++v) t'=false):N80.Rest A p ((p:Int)+rs.length) B (An ways) (OJ rs) 0 f:=by
 have hp:(0:Int)<=(p:Int):=by lia
 have hpe:(p:Int)<=(p:Int)+rs.length:=by lia
 refine⟨⟨[],h.z,jh_ _⟩,fun s t ht=>?_,fun s t x ht h0 h1=>?_,fun s t c r ht h0 h1 hr=>?_⟩
 ·exact h.g (G80 A p ((p:Int)+rs.length) ways) G80.start (fun s t x v hg hv=>hg.step hA hv) s t ht
 ·obtain⟨x,rfl⟩:∃m:Nat,x=(m:Int):=⟨x.toNat,by lia⟩
  obtain⟨t',a,b⟩:=hcl s t x _ ht (K0 s!"")
  have hd:N80.Dg B [(x:Int)]:=(N80.nst_pl (p:=(p:Int)) (e:=(p:Int)+rs.length) h0 h1).dg hp hBe hpe
  exact⟨t',a,Iz hB ((h.ln s t ht).2.app hd) (h.ln _ _ a).2 b⟩
 ·obtain⟨i,rfl⟩:∃i:Nat,c=(p:Int)+i:=⟨(c-p).toNat,by lia⟩
  have hi:i<rs.length:=by lia
  have hri:rs[i]?=some (some r):=by
   unfold OJ at hr
   rw[show ((p:Int)+i-p).toNat=i by lia]at hr
   cases hq:rs[i]? with
   |none=>rw[hq]at hr;cases hr
   |some o=>rw[hq]at hr;cases hr;rfl
  have hv:(blR p rs)[p+i]?=some (some (((p:Int)+i)::r++[(p:Int)+rs.length])):=by
   rw[K1 hi]
   unfold EY
   rw[hri];rfl
  obtain⟨t',a,b⟩:=hcl s t (p+i) _ ht hv
  rw[jQ_]at a
  have hd:N80.Dg B (((p:Int)+i)::r++[(p:Int)+rs.length]):=(N80.nst_ca s!"" s!"" (hA i r hri).n).dg hp hBe hpe
  exact⟨t',a,Iz hB ((h.ln s t ht).2.app hd) (h.ln _ _ a).2 b⟩
noncomputable def md80:Nat->Nat
 |0=>0
 |d+1=>3*(md80 d+2)
structure Sd (A:Int->α2->Prop)(p B d:Nat)(rs:List (Option (α2))):Prop where
 s:∀(j:Nat) t,rs[j]?=some (some t)->N80.Acc A p ((p:Int)+rs.length) (j:Int) t
 l:∀(j:Nat) row,j<rs.length->N80.Acc A p ((p:Int)+rs.length) (j:Int) row->N80.cnt A p ((p:Int)+rs.length) B rs.length (N80.cod B row)<d->∃t,rs[j]?=some (some t)/\N80.cod B t<=N80.cod B row
 m:∀(j:Nat) t,rs[j]?=some (some t)->t.length<=md80 d
theorem Sd.zero  {p B:Nat}(h:Nat):Sd A p B 0 (List.replicate h none):=by
 have no:∀(j:Nat) t,(List.replicate h (none:Option (α2)))[j]? ≠ some (some t):=fun j t z=>by
  have:=jl_ z
  rw[xj_]at this
  cases this.2
 exact⟨fun j t z=>absurd z (no j t),fun j row _ _ z=>absurd z (qp_ _),fun j t z=>absurd z (no j t)⟩
theorem Sd.one  {p n M B d:Nat}    (hS:Sd A p B d rs)(hB:2<=B)(hBe:(B:Int)=(p:Int)+rs.length+1)   (h:Bs 0 n M B ways (blR p rs) ks f)
  (hcl:∀s t (x:Nat) v,f s=some t->(blR p rs)[x]?=some (some v)->∃t',f (An ways s (x:Int))=some t'/\lessW (t++v) t'=false)  (h1:∀t,res=some t->∃s,f s=some t/\mk80 marks s≠0) (h2:∀s t,f s=some t->mk80 marks s≠0->∃t',res=some t'/\lessW t t'=false)  (hj:j<rs.length) (hA:∀w,A (j:Int) w↔mk80 marks (w.foldl (An ways) 0)≠0) (hn:n<=4):
  (∀t,res=some t->N80.Acc A p ((p:Int)+rs.length) (j:Int) t/\t.length<=3*M)/\∀row,N80.Acc A p ((p:Int)+rs.length) (j:Int) row->N80.cnt A p ((p:Int)+rs.length) B rs.length (N80.cod B row)<d+1->∃t,res=some t/\N80.cod B t<=N80.cod B row:=by
 have hp:(0:Int)<=(p:Int):=by lia
 have hpe:(p:Int)<=(p:Int)+rs.length:=by lia
 have hR:=SY hB hBe hS.s h hcl
 have hTn:N80.Turn A p ((p:Int)+rs.length) B (fun s=>mk80 marks s≠0) f res:=⟨h1,fun r t a b=>by
  obtain⟨t',c,e⟩:=h2 r t a b
  obtain⟨s',a',_⟩:=h1 t' c
  exact⟨t',c,Iz hB (h.ln r t a).2 (h.ln s' t' a').2 e⟩⟩
 refine⟨fun t ht=>⟨hTn.acc hR hA ht,?_⟩,fun row ha hc=>?_⟩
 ·obtain⟨s,a,_⟩:=h1 t ht
  have b1:=(h.ln s t a).1
  have b2:=AD n h.nd h.rg
  have b3:=qK_ M (show ks.length<=4 by lia)
  lia
 ·refine hTn.least hp hpe hBe hB hR hA (fun i r hr=>?_) ha (fun i inn hi hi0 hi1 hil=>?_)
  ·unfold OJ at hr
   cases hq:rs[i.toNat]? with
   |none=>rw[hq]at hr;cases hr
   |some o=>rw[hq]at hr;cases hr;exact (hS.s _ _ hq).n
  ·obtain⟨k,rfl⟩:∃k:Nat,i=(k:Int):=⟨i.toNat,by lia⟩
   obtain⟨r,a1,a2,a3⟩:=N80.least_acc B hi
   have hlt:=N80.cod_len hB (hi.n.dg hp hBe hpe) hil
   have:=N80.cnt_lt (b:=B) (show k<rs.length by lia) a1 a3 (n:=N80.cod B row) s!""
   obtain⟨t,b1,b2⟩:=hS.l k r s!"" a1 s!""
   refine⟨t,?_,by lia⟩
   unfold OJ
   rw[ju_,b1];rfl
noncomputable abbrev Hus:=Int×α2×α1
theorem forB {K:α3}         (Pv:Nat->St->Hp->Prop)(h0:Pv 0 σ H)(hl:∀i σ H,i<=xs.length->Pv i σ H->SqB K H t a xs)
  (hs:∀i x σ H,xs[i]?=some x->Pv i σ H->g x σ H fun σ2 H2=>tb {D with nx:=Pv (i+1),ct:=Pv (i+1),bk:=D.nx} σ2 H2) (hd:∀σ H,Pv xs.length σ H->D.nx σ H):((∃xs,SqL K H a xs)/\ForW (Itl K a) g tb D σ H)\/((∃xs,SqT K H a xs)/\ForW (Itt K a) g tb D σ H):=by
 cases t
 ·exact .inl ⟨⟨_,hl 0 σ H (j1_ _) h0⟩,forL Pv h0 hl hs hd⟩
 ·exact .inr ⟨⟨_,hl 0 σ H (j1_ _) h0⟩,forT Pv h0 hl hs hd⟩
noncomputable def HsL (K:α3)(H:Hp)(xs:List V)(hs:List Hus):Prop:=xs.length=hs.length/\∀(i:Nat) (r:Hus),hs[i]?=some r->∃a,xs[i]?=some (.ref a)/\Bc K H a r.1 r.2.1 r.2.2
theorem HsL.nil {K:α3}  : HsL K H [] []:=⟨rfl,fun i r h=>by simp at h⟩
theorem HsL.mono {K:α3}    (h:HsL K H xs hs)(s:Same H H'):HsL K H' xs hs:=⟨h.1,fun i r hi=>by
 obtain⟨a,b,c⟩:=h.2 i r hi
 exact⟨a,b,c.mono s⟩⟩
theorem HsL.at {K:α3}{H:Hp}{xs:List V}{hs:List Hus}(h:HsL K H xs hs){i:Nat}{x:V}(hx:xs[i]?=some x):∃(r:Hus) (a:Addr),hs[i]?=some r/\x=.ref a/\Bc K H a r.1 r.2.1 r.2.2:=by
 have hi:i<hs.length:=by rw[<-h.1];exact (jc_.mp hx).1
 obtain⟨a,e,b⟩:=h.2 i hs[i] (by simp[hi])
 rw[hx]at e
 exact⟨hs[i],a,by simp[hi],jH_ e,b⟩
theorem HsL.snoc {K:α3}        (h:HsL K H xs hs)(ha:Bc K H a L ms ws):HsL K H (xs++[.ref a]) (hs++[(L,ms,ws)]):=by
 refine⟨by simp[h.1],fun i r hi=>?_⟩
 by_cases hl:i<hs.length
 ·rw[jg_ hl]at hi
  rw[jg_ (by rw[h.1];exact hl)]
  exact h.2 i r hi
 ·have:=(jc_.mp hi).1
  rw[jf_,jq_]at this
  have e:i=hs.length:=by lia
  subst e
  rw[jp_ (jh_ _),j4_]at hi
  simp at hi
  subst hi
  exact⟨a,by rw[<-h.1];simp,ha⟩
theorem HsL.set {K:α3}        (h:HsL K H xs hs)(ha:Bc K H a L ms ws)(i:Nat):HsL K H (xs.set i (.ref a)) (hs.set i (L,ms,ws)):=⟨by simp[h.1],fun j r hj=>by
 by_cases e:i=j
 ·subst e
  have hl:=(jc_.mp hj).1
  rw[j8_]at hl
  rw[jM_ hl]at hj
  cases hj
  exact⟨a,by rw[jM_ (by rw[h.1];exact hl)],ha⟩
 ·rw[jY_ e]at hj ⊢
  exact h.2 j r hj⟩
theorem Bc.off {K:α3}       (h:Bc K H a L ms ws)(hp:H p=some (.lst zs)):Bc K (upd H p (.lst ys)) a L ms ws:=by
 obtain⟨m,w',h1,h2,ts,t1,t2,t3⟩:=h
 exact⟨m,w',BX hp h1,BX hp h2,ts,BX hp t1,t2,fun i t r e1 e2=>BX hp (t3 i t r e1 e2)⟩
theorem HsL.off {K:α3}     (h:HsL K H xs hs)(hp:H p=some (.lst zs)):HsL K (upd H p (.lst ys)) xs hs:=⟨h.1,fun i r hi=>by
 obtain⟨a,b,c⟩:=h.2 i r hi
 exact⟨a,b,Bc.off c hp⟩⟩
noncomputable def okP (n:Int)(r:Hus):Bool:=decide (r.1=n)&&decide (r.2.1.length<=4)
noncomputable def CZ (K:α3)(H:Hp)(h:Addr)(p:Int)(xs:List V)(hs:List Hus):Prop:=∃y,SqT K H h [.int p,.ref y]/\SqT K H y xs/\HsL K H xs hs
theorem CZ.mono {K:α3}      (x:CZ K H h p xs hs)(s:Same H H'):CZ K H' h p xs hs:=by
 obtain⟨y,a,b,c⟩:=x
 exact⟨y,s.seqT a,s.seqT b,c.mono s⟩
noncomputable def ansH (hs:List Hus)(pr:Int×α2):Int:=OF (hs.getD pr.1.toNat (0,[],[])).2.1 (Sq (hs.getD pr.1.toNat (0,[],[])).2.2 pr.2)
noncomputable def okT (hs:List Hus)(pr:Int×α2):Bool:=decide (ansH hs pr≠0)
noncomputable def WfW (n:Int)(hs:List Hus):Prop:=∀r∈hs,r.1=n/\Wf n r.2.1 r.2.2
theorem HsL.get {K:α3}{H:Hp}{xs:List V}{hs:List Hus}{n j:Int}(h:HsL K H xs hs)(w:WfW n hs)(j0:0<=j)(j1:j<hs.length):∃a,atI xs j=some (.ref a)/\Bc K H a n (hs.getD j.toNat (0,[],[])).2.1 (hs.getD j.toNat (0,[],[])).2.2/\Wf n (hs.getD j.toNat (0,[],[])).2.1 (hs.getD j.toNat (0,[],[])).2.2:=by
 have hj:j.toNat<hs.length:=by lia
 have e:hs[j.toNat]?=some hs[j.toNat]:=by simp[hj]
 have e2:hs.getD j.toNat (0,[],[])=hs[j.toNat]:=by rw[js_,e];rfl
 rw[e2]
 obtain⟨a,b,c⟩:=h.2 _ _ e
 obtain⟨f,g⟩:=w _ (jl_ e)
 rw[f]at c
 exact⟨a,by rw[show j=(j.toNat:Int) by lia];exact AE b,c,g⟩
theorem AY.tsq2 {K:α3}    (h:AY T H H')(hT:H T=some (.tbl ps)):TSq K H H':=fun b ys q=>h.tsq hT q
theorem Bc.monoQ {K:α3}      (x:Bc K H h L marks ways)(e:TSq K H H'):Bc K H' h L marks ways:=by
 obtain⟨m,w,h1,h2,ts,h3,h4,h5⟩:=x
 exact⟨m,w,e _ _ h1,e _ _ h2,ts,e _ _ h3,h4,fun i t r a b=>e _ _ (h5 i t r a b)⟩
noncomputable def A80 (hs:List Hus)(j:Int)(w:α2):Prop:=∃r,hs[j.toNat]?=some r/\0<=j/\mk80 r.2.1 (w.foldl (An r.2.2) 0)≠0
theorem El {hs:List Hus}{j:Nat}{r:Hus}(h:hs[j]?=some r)(w:α2):A80 hs (j:Int) w↔mk80 r.2.1 (w.foldl (An r.2.2) 0)≠0:=by
 constructor
 ·rintro⟨r',a,_,b⟩
  rw[ju_,h]at a
  cases a;exact b
 ·intro b
  exact⟨r,by rw[ju_];exact h,by lia,b⟩
theorem AY.tk    (h:AY T H H')(hT:H T=some (.tbl ps)):TK H H':=fun b xs e=>h.ne e (fun _ z=>by cases z) hT
noncomputable def Kc (K:α3):Sp:=fun vs H Q _=>∃(wa:Addr) (p:Nat) (xs:List V) (hs:List Hus),vs=[.ref wa]/\CZ K H wa p xs hs/\WfW (p+hs.length) hs/\1<=hs.length/\hs.length<=3/\1<=p/\p<=6/\(∀r∈hs,r.2.1.length<=4)/\Lm80 K H/\∀l ys rs H',AY (tabP K "least_row_taken") H H'->Lm80 K H'->H' l=some (.lst ys)->RO H' ys rs->rs.length=hs.length->Sd (A80 hs) p (p+hs.length+1) hs.length rs->Q (.ref l) H'
theorem Kd   (F:Fun K "shortest" "shortest" C8 f fd)(T:Txt mg)
  (Z:Exs K mg C_j2 C_j1 C_j4)
   (q_j7:Cal P w K mg base CX0 2 "rows_by_letter" Bg ["plain","rows"] (Iv K) Cc BW)
   (q_j0:Cal P w K mg base CX0 6 "least_row_taken" AH ["house","by_letter","start"] (Ka K) Bb E1)
  : FnOk P w K mg base CX0 7 f fd ["works"] (Kc K):=by
 refine F.ok CD (fun vs H Q E h=>?_) (fun cdv A outer s H vs Q E hr h=>?_)
 ·obtain⟨w,p,xs,hs,rfl,_⟩:=h;rfl
 ·obtain⟨wa,p,xs,hs,rfl,hw,hwf,hh1,hh3,hp1,hp6,h4,hLm,k⟩:=h
  have hl:=Au
  refine⟨_,(Ac (Aj (i:=1) CD.nd (Av Ja (A8 (Aa Ba Ad)) (Aq (lenD Ai) (by rfl) T.len jD_ (Aa (Ah (ixTD Am) (pvD 0) Ae) Ad))))
   (Ac (A0 jC_ rfl (Bn rfl T.range (Aa (Aq (lenD Ai) (by rfl) T.len jD_ (Aa (Ah (ixTD Am) (pvD 0) Ae) Ad)) Ad)) (As (i:=2) CD.nd rfl (Or.inl rfl))
   (Ac (EI (i:=3) CD.nd rfl (Or.inr rfl) (Ak q_j7 hr.d AF (Aa (Ah (ixTD Am) (pvD 0) Ae) (Aa (pvD 1) Ad))))
   (Af (Ey (i:=1) CD.nd rfl rfl rfl (DR rfl) (cp:=FL) ⟨⟨rfl,rfl⟩,True.intro⟩ (IP (Ah (ixTD Am) (pvD 0) Ae)) (fun _ _ _ _=>(As (i:=0) GR rfl (Or.inl rfl))) (fun _ _ _ _=>FH) (fun _ _ _ _=>(Ak q_j0 hr.d AF (Aa (pvD 0) (Aa (pvD 1) (Aa Ae Ad)))))))))
   (Af (Aw (pvD 1))))),?_⟩
  obtain⟨y,q1,q2,q3⟩:=id hw
  have hxl:=q3.1
  walk_at "rd"
  refine⟨by lia,fun p0 hp0=>⟨_,(Same.new hp0).seqT q1,_,rfl,y,rfl,xs,.inr ((Same.new hp0).seqT q2),_,Ab,by lia,by lia,by simp;lia,fun p1 hp1=>?_⟩⟩
  have s1:=(Same.new hp0 (o:=.lst [V.non])).newT hp1 (o:=.lst (List.replicate ((xs.length:Int)).toNat [V.non]).flatten)
  have e1:(List.replicate ((xs.length:Int)).toNat [V.non]).flatten=List.replicate hs.length V.non:=by
   rw[ju_,hxl];simp
  have hp1':upd (upd H p0 (.lst [V.non])) p1 (.lst (List.replicate ((xs.length:Int)).toNat [V.non]).flatten) p1=some (.lst (List.replicate hs.length V.non)):=by rw[Ab,e1]
  generalize upd (upd H p0 (.lst [V.non])) p1 (.lst (List.replicate ((xs.length:Int)).toNat [V.non]).flatten)=H1 at s1 hp1' ⊢
  refine⟨_,s1.seqT q1,_,rfl,y,rfl,xs,.inr (s1.seqT q2),by lia,by lia,?_⟩
  rw[ju_,hxl]
  obtain⟨ps,hps⟩:=hLm.is
  have hro0:RO H1 (List.replicate hs.length V.non) (List.replicate hs.length none):=⟨by simp,fun i o ho=>by
   have hm:=jl_ ho
   have hi:=(jc_.mp ho).1
   rw[qA_]at hi
   exact .inl ⟨(xj_.mp hm).2,by rw[xc_,if_pos hi]⟩⟩
  obtain⟨Pv,hPv⟩:∃Pv:Nat->St->Hp->Prop,∀d σ' H',Pv d σ' H'↔(∃(a:Addr) (ys:List V) (rs:List (Option (α2))) (o2 o3:Option V),AY (tabP K "least_row_taken") H H'/\Lm80 K H'/\H' a=some (.lst ys)/\RO H' ys rs/\rs.length=hs.length/\Sd (A80 hs) p (p+hs.length+1) d rs/\σ'=[some (.ref wa),some (.ref a),o2,o3]):=⟨_,fun _ _ _=>j2_⟩
  refine forR Pv ((hPv _ _ _).mpr ⟨p1,_,_,none,none,AY.of s1,hLm.mono s1,hp1',hro0,by simp,Sd.zero _,rfl⟩) (fun d σ2 H2 hd h2=>?_) (fun σ2 H2 h2=>?_)
  ·obtain⟨a,ys,rs,o2,o3,s2,hL2,ha2,hro2,hrl,hS,rfl⟩:=(hPv _ _ _).mp h2
   have t2:TSq K H H2:=AY.tsq2 (T:=tabP K "least_row_taken") s2 hps
   have hmd:md80 d<=24:=by
    match d,hd with
    |0,_=>decide
    |1,_=>decide
    |2,_=>decide
    |d+3,hd=>lia
   walk_at "rd"
   refine⟨_,t2 _ _ q1,_,rfl,p,a,ys,rs,rfl,SqL.of ha2,hro2,by lia,hp6,fun r hr=>?_,fun l1 zs H3 s3 hl1 hro3=>?_⟩
   ·obtain⟨j,hj,e⟩:=jT_.mp hr
    have:=hS.m j r (by rw[ja_ hj,e])
    lia
   have s23:=s2.trans (AY.of s3)
   have hL3:Lm80 K H3:=hL2.mono s3
   obtain⟨ps3,hps3⟩:=hL3.is
   have t3:TSq K H H3:=AY.tsq2 (T:=tabP K "least_row_taken") s23 hps
   refine⟨_,t3 _ _ q1,_,rfl,y,rfl,⟨_,t3 _ _ q2⟩,?_⟩
   obtain⟨Pc,hPc⟩:∃Pc:Nat->List V->St->Hp->Prop,∀i us σ' H',Pc i us σ' H'↔(AY (tabP K "least_row_taken") H3 H'/\Lm80 K H'/\(∃rs':List (Option (α2)),rs'.length=i/\RO H' us rs'/\∀(j:Nat) res,rs'[j]?=some res->(∀t,res=some t->N80.Acc (A80 hs) p ((p:Int)+rs.length) (j:Int) t/\t.length<=3*(md80 d+2))/\∀row,N80.Acc (A80 hs) p ((p:Int)+rs.length) (j:Int) row->N80.cnt (A80 hs) p ((p:Int)+rs.length) (p+hs.length+1) rs.length (N80.cod (p+hs.length+1) row)<d+1->∃t,res=some t/\N80.cod (p+hs.length+1) t<=N80.cod (p+hs.length+1) row)/\∃o,σ'=[o,some (.ref l1)]):=⟨_,fun _ _ _ _=>j2_⟩
   refine Si (xs:=xs) Pc ((hPc _ _ _ _).mpr ⟨AY.of (Same.refl _),hL3,⟨[],rfl,RO.nil,fun j res h=>by simp at h⟩,none,rfl⟩) s!"" (fun i us σ' H' hi h'=>?_) (fun i x us σ' H' hx h'=>?_) (fun us σ' H' h' D hD=>?_)
   ·obtain⟨s5,_,⟨rs',e5,hro5,_⟩,_⟩:=(hPc _ _ _ _).mp h'
    exact⟨AY.tsq2 (T:=tabP K "least_row_taken") s5 hps3 _ _ (t3 _ _ q2),by rw[hro5.1];lia⟩
   ·obtain⟨s5,hL5,⟨rs',e5,hro5,hone⟩,ov,rfl⟩:=(hPc _ _ _ _).mp h'
    obtain⟨r,ar,hr,rfl,hhr⟩:=q3.at hx
    have hrm:=jl_ hr
    have hih:i<hs.length:=(jc_.mp hr).1
    have t5:TSq K H3 H':=AY.tsq2 (T:=tabP K "least_row_taken") s5 hps3
    have hh5:Bc K H' ar r.1 r.2.1 r.2.2:=Bc.monoQ (Bc.monoQ hhr t3) t5
    have hr1:=(hwf r hrm).1
    have hr2:=(hwf r hrm).2
    have hr1':r.1=((p+hs.length:Nat):Int):=by rw[jQ_];exact hr1
    rw[hr1']at hh5
    have hr2':Wf ((p+hs.length:Nat):Int) r.2.1 r.2.2:=by rw[jQ_];exact hr2
    have hBe:((p+hs.length+1:Nat):Int)=(p:Int)+rs.length+1:=by lia
    walk_at "rd"
    refine⟨ar,l1,0,p+hs.length,r.2.1.length,md80 d+2,p+hs.length+1,r.2.1,r.2.2,zs,blR p rs,G80 (A80 hs) p ((p:Int)+rs.length) r.2.2,rfl,by lia,(by have:=hr2'.n1;lia),hh5,hr2',rfl,h4 r hrm,s5.lsq hps3 (SqL.of hl1),hro3.mono (AY.tk s5 hps3),by rw[Kb];lia,by lia,by lia,fun v hv=>?_,hL5,G80.start,fun s t x v hg hv=>hg.step hS.s hv,fun s s' t h1 h2=>G80.one h1 h2,fun ks f res v H6 s6 hL6 hBs hcl hv h1 h2=>?_⟩
    ·obtain⟨j,hj,e⟩:=jT_.mp hv
     rcases D3 (show (blR p rs)[j]?=some (some v) by rw[ja_ hj,e]) with ⟨hx,rfl⟩|⟨i',r',rfl,hi',hr',rfl⟩
     ·refine⟨by simp,fun z hz=>?_⟩
      rw[jb_.mp hz];lia
     ·have:=hS.m i' r' hr'
      refine⟨by simp;lia,?_⟩
      exact (N80.nst_ca s!"" s!"" (hS.s i' r' hr').n).dg s!"" hBe s!""
    ·obtain⟨a1,a2⟩:=hS.one s!"" hBe hBs hcl h1 h2 (j:=i) s!"" (El hr) (h4 r hrm)
     obtain⟨ps5,hps5⟩:=hL5.is
     refine (hPc _ _ _ _).mpr ⟨s5.trans s6,hL6,⟨rs'++[res],by rw[jf_,e5];rfl,(hro5.mono (AY.tk s6 hps5)).put ?_,fun j res' hj=>?_⟩,_,rfl⟩
     ·rcases hv with e|⟨r',t',e1,e2,e3⟩
      ·exact .inl e
      ·exact .inr ⟨r',t',e1,e2,e3⟩
     ·by_cases hji:j<rs'.length
      ·rw[jg_ hji]at hj
       exact hone j res' hj
      ·rw[jp_ s!""]at hj
       have h0:j-rs'.length=0:=by
        have:=(jc_.mp hj).1
        simpa using this
       rw[h0]at hj
       have hj:res=res':=by simpa using hj
       subst hj
       have:j=i:=by lia
       subst this
       exact⟨a1,a2⟩
   ·obtain⟨s5,hL5,⟨rs',e5,hro5,hone⟩,ov,rfl⟩:=(hPc _ _ _ _).mp h'
    have sD:=Same.new hD (o:=.lst us)
    rw[hxl]at e5
    have e6:rs'.length=rs.length:=by lia
    refine (hPv _ _ _).mpr ⟨D,us,rs',_,_,(s23.trans s5).trans (AY.of sD),hL5.mono sD,Ab,hro5.mono (TK.of sD),e5,⟨fun j t ht=>?_,fun j row hj ha hc=>?_,fun j t ht=>?_⟩,rfl⟩
    ·rw[e6];exact ((hone j _ ht).1 t rfl).1
    ·rw[e6]at ha hc
     have hjl:j<rs'.length:=hj
     obtain⟨t,b1,b2⟩:=(hone j rs'[j] (ja_ hjl)).2 row ha hc
     exact⟨t,by rw[ja_ hjl,b1],b2⟩
    ·exact ((hone j _ ht).1 t rfl).2
  ·obtain⟨a,ys,rs,o2,o3,s2,hL2,ha2,hro2,hrl,hS,rfl⟩:=(hPv _ _ _).mp h2
   walk_at "rd"
   exact k a ys rs H2 s2 hL2 ha2 hro2 hrl hS
theorem Js {xs:List V}{s:Int}{v:V}(h0:0<=s)(h:xs[s.toNat]?=some v):atI xs s=some v:=by
 obtain⟨m,rfl⟩:∃m:Nat,s=(m:Int):=⟨s.toNat,by lia⟩
 rw[ju_]at h
 exact AE h
noncomputable def Ke (K:α3):Sp:=fun vs H Q _=>∃(h b:Addr) (L:Nat) (marks:α2) (ways:α1) (gs:α2),vs=[.ref h,.ref b]/\Bc K H h L marks ways/\Wf L marks ways/\SqL K H b (gs.map V.int)/\(∀x∈gs,0<=x/\x<(L:Int))/\∀l (R:α2) H',Same H H'->H l=none->H' l=some (.lst (R.map V.int))->R.Nodup->(∀s∈R,0<=s/\s<marks.length)->0∈R->(∀s∈R,∀x∈gs,An ways s x∈R)->(∀G:Int->Prop,G 0->(∀s,G s->∀x∈gs,G (An ways s x))->∀s∈R,G s)->Q (.ref l) H'
theorem F2   (F:Fun K "_law_rooms_to" "_law_rooms_to" Br f fd)(T:Txt mg)
  (Z:Exs K mg C_j2 C_j1 C_j4)
  : FnOk P w K mg base CX0 1 f fd ["house","letters"] (Ke K):=by
 refine F.ok Bi (fun vs H Q E h=>?_) (fun cdv A outer s H vs Q E hr h=>?_)
 ·obtain⟨h,b,L,marks,ways,gs,rfl,_⟩:=h;rfl
 ·obtain⟨h,b,L,marks,ways,gs,rfl,hh,wf,hb,hgs,k⟩:=h
  have hl:=Au
  have hn1:=wf.n1
  have hn40:=wf.n40
  refine⟨_,(Ac (Aj (i:=2) Bi.nd (A8 (Aa Ae Ad)))
   (Ac (Aj (i:=3) Bi.nd Ae)
   (Ac (Dj jC_ (ptT (Ap (opD0 HK) (pvD 3) (Aq (lenD Ai) (by rfl) T.len jD_ (Aa (pvD 2) Ad)) (Ar _)))
   (Ac (A0 jC_ rfl (BI (pvD 1)) (As (i:=4) Bi.nd rfl (Or.inl rfl))
   (Af (AR (ptT (Ap B1 (Ah (ixTD Am) (Ah (ixTD Am) (Ah (ixTD Am) (pvD 0) Ae) (Ah (ixLD AS) (pvD 2) (pvD 3))) (pvD 4)) (pvD 2) rfl))
   (Af (AM (B2 jt_ jz_ jA_ AA (pvD 2) (Aa (Ah (ixTD Am) (Ah (ixTD Am) (Ah (ixTD Am) (pvD 0) Ae) (Ah (ixLD AS) (pvD 2) (pvD 3))) (pvD 4)) Ad))))
   Ax)))
   (Af (Aj (i:=3) Bi.nd (Av (opD0 AN) (pvD 3) Ae)))))
   (Af (Aw (pvD 2)))))),?_⟩
  obtain⟨tm,tw,q1,q2,ts,q3,q4,q5⟩:=id hh
  walk_at "rd"
  refine⟨by lia,fun l hl'=>?_⟩
  obtain⟨Pw,hPw⟩:∃Pv:Nat->St->Hp->Prop,∀m σ' H',Pv m σ' H'↔(∃(R:α2) (at':Nat) (o:Option V),Same H H'/\H' l=some (.lst (R.map V.int))/\R.Nodup/\(∀s∈R,0<=s/\s<marks.length)/\0∈R/\at'<=R.length/\(∀s∈R.take at',∀x∈gs,An ways s x∈R)/\(∀G:Int->Prop,G 0->(∀s,G s->∀x∈gs,G (An ways s x))->∀s∈R,G s)/\m=marks.length-at'/\σ'=[some (.ref h),some (.ref b),some (.ref l),some (.int at'),o]):=⟨_,fun _ _ _=>j2_⟩
  refine GD Pw ⟨_,(hPw _ _ _).mpr ⟨[0],0,none,Same.new hl',Ab,by simp,fun s hs=>by rw[jb_.mp hs];lia,by simp,by simp,fun s hs=>by simp at hs,fun G g0 _ s hs=>by rw[jb_.mp hs];exact g0,rfl,rfl⟩⟩ fun m σ' H' h'=>?_
  obtain⟨R,a',o,s1,hR,hnd,hrg,h0,hal,hcl,hG,hm,rfl⟩:=(hPw _ _ _).mp h'
  walk_at "rd"
  refine⟨_,.inl (SqL.of hR),?_⟩
  rw[jd_]
  refine ite2 (fun hlt=>?_) (fun hge=>?_)
  rotate_left
  ·rw[show a'=R.length by lia,jL_]at hcl
   exact k l R H' s1 hl' hR hnd hrg h0 hcl hG
  have hlt:a'<R.length:=by lia
  have hRl:R.length<=marks.length:=AD marks.length hnd hrg
  refine⟨fun σ2 H2=>∃m',m'<m/\Pw m' σ2 H2,fun _ _ h=>h,⟨_,s1.seq hb⟩,?_⟩
  have hs:R[a']?=some R[a']:=ja_ hlt
  have hsm:R[a']∈R:=jB_ hlt
  generalize R[a']=s at hs hsm
  have hsr:=hrg s hsm
  have hsw:s.toNat<ways.length:=by rw[wf.len];lia
  have hst:s.toNat<ts.length:=by rw[q4];exact hsw
  have hrow:=q5 s.toNat ts[s.toNat] ways[s.toNat] (ja_ hst) (ja_ hsw)
  have hwr:=wf.rows ways[s.toNat] (jB_ hsw)
  obtain⟨Pz,hPz⟩:∃Pv:Nat->St->Hp->Prop,∀j σ2 H2,Pv j σ2 H2↔(∃(R2 more:α2) (o:Option V),Same H H2/\H2 l=some (.lst (R2.map V.int))/\R2.Nodup/\(∀s∈R2,0<=s/\s<marks.length)/\R2=R++more/\(∀x∈gs.take j,An ways s x∈R2)/\(∀G:Int->Prop,G 0->(∀s,G s->∀x∈gs,G (An ways s x))->∀s∈R2,G s)/\σ2=[some (.ref h),some (.ref b),some (.ref l),some (.int a'),o]):=⟨_,fun _ _ _=>j2_⟩
  refine forL (xs:=gs.map V.int) Pz ((hPz _ _ _).mpr ⟨R,[],_,s1,hR,hnd,hrg,by simp,(fun x hx=>by simp at hx),hG,rfl⟩) (fun j σ2 H2 _ h2=>by obtain⟨_,_,_,s2,_⟩:=(hPz _ _ _).mp h2;exact s2.seq hb) (fun j x σ2 H2 hx h2=>?_) (fun σ2 H2 h2=>?_)
  ·obtain⟨R2,more,o2,s2,hR2,hnd2,hrg2,e2,hc2,hG2,rfl⟩:=(hPz _ _ _).mp h2
   obtain⟨g,hg,rfl⟩:=A1 hx
   have hgm:=jl_ hg
   have hgr:=hgs g hgm
   have hgl:g.toNat<ways[s.toNat].length:=by lia
   have hstep:An ways s g=ways[s.toNat][g.toNat]:=Ig (ja_ hsw) (ja_ hgl)
   have hwg:=hwr.2 _ (jB_ hgl)
   rw[<-hstep]at hwg
   have hs2:R2[a']?=some s:=by rw[e2,jg_ hlt];exact hs
   have et:gs.take (j+1)=gs.take j++[g]:=by rw[jF_,hg];rfl
   have hi1:atI (ts.map V.ref) s=some (.ref ts[s.toNat]):=Js hsr.1 (by rw[jw_,ja_ hst];rfl)
   have hi2:atI (ways[s.toNat].map V.int) g=some (.int (An ways s g)):=Js hgr.1 (by rw[jw_,ja_ hgl,hstep];rfl)
   have hi3:atI (R2.map V.int) (a':Int)=some (.int s):=AE (by rw[jw_,hs2];rfl)
   walk_at "rd"
   refine⟨_,s2.seqT q1,_,rfl,_,SqL.of hR2,_,hi3,tw,rfl,_,s,rfl,s2.seqT q3,_,hi1,_,rfl,_,s2.seqT hrow,_,hi2,_,.inl (SqL.of hR2),rfl,by simp[B7],?_⟩
   rw[CS]
   by_cases hin:An ways s g∈R2
   ·rw[if_neg (by simp[hin])]
    refine (hPz _ _ _).mpr ⟨R2,more,_,s2,hR2,hnd2,hrg2,e2,fun x hx=>?_,hG2,rfl⟩
    rw[et]at hx
    rcases jj_.mp hx with hx|hx
    ·exact hc2 x hx
    ·rw[jb_.mp hx];exact hin
   ·rw[if_pos (by simp[hin])]
    have hR2l:R2.length<=marks.length:=AD marks.length hnd2 hrg2
    refine⟨.inl ⟨rfl,_,SqL.of hR2⟩,_,s2.seqT q1,_,rfl,_,SqL.of hR2,_,hi3,tw,rfl,_,s,rfl,s2.seqT q3,_,hi1,_,rfl,_,s2.seqT hrow,_,hi2,_,hR2,by rw[jd_];lia,(hPz _ _ _).mpr ⟨R2++[An ways s g],more++[An ways s g],_,s2.over hl',by rw[Ab,jI_];rfl,?_,fun z hz=>?_,by rw[e2,jX_],fun x hx=>?_,fun G g0 g1 z hz=>?_,rfl⟩⟩
    ·refine qc_.mpr ⟨hnd2,by simp,fun c hc b' hb'=>?_⟩
     rw[jb_.mp hb']
     intro e
     exact hin (e ▸ hc)
    ·rcases jj_.mp hz with hz|hz
     ·exact hrg2 z hz
     ·rw[jb_.mp hz];exact hwg
    ·rw[et]at hx
     rcases jj_.mp hx with hx|hx
     ·exact jr_ _ (hc2 x hx)
     ·rw[jb_.mp hx];exact jk_ _ (jb_.mpr rfl)
    ·rcases jj_.mp hz with hz|hz
     ·exact hG2 G g0 g1 z hz
     ·rw[jb_.mp hz]
      exact g1 s (hG2 G g0 g1 s (jl_ hs2)) g hgm
  ·obtain⟨R2,more,o2,s2,hR2,hnd2,hrg2,e2,hc2,hG2,rfl⟩:=(hPz _ _ _).mp h2
   rw[jd_,jL_]at hc2
   walk_at "rd"
   have hR2l:R2.length<=marks.length:=AD marks.length hnd2 hrg2
   refine⟨marks.length-(a'+1),by lia,(hPw _ _ _).mpr ⟨R2,a'+1,_,s2,hR2,hnd2,hrg2,by rw[e2];exact jr_ _ h0,by rw[e2,jf_];lia,fun s' hs' x hx=>?_,hG2,rfl,by rw[jQ_];rfl⟩⟩
   rw[e2,List.take_append_of_le_length s!"",jF_,hs]at hs'
   rcases jj_.mp hs' with hs' | hs'
   ·rw[e2];exact jr_ _ (hcl s' hs' x hx)
   ·have:s'=s:=by simpa using hs'
    rw[this];exact hc2 x hx
theorem GV   (hp:0<=p)(hpe:p<=e)  (hn:N80.Nst p e row):N80.Okr A p e row->∀x∈Nest.outW p e row,(0<=x/\x<p)\/(p<=x/\x<e/\∃inn,N80.Acc A p e (x-p) inn/\inn.length<row.length):=by
 induction hn with
 |nil=>intro _ x hx;cases hx
 |@pl y row h0 h1 hn ih=>
  intro ho x hx
  have e1:y::row=[y]++row:=rfl
  rw[e1]at ho hx
  have ho2:=((N80.okr_app hp hpe (N80.nst_pl h0 h1) hn).mp ho).2
  rw[(N80.out_app ((N80.nst_pl (e:=e) h0 h1).row hp hpe) (hn.row hp hpe)).2,(N80.out_pl h0 h1 hpe).2]at hx
  rcases jj_.mp hx with hx|hx
  ·rw[jb_.mp hx];exact .inl ⟨h0,h1⟩
  ·rcases ih ho2 x hx with h|⟨a,b,inn,c,d⟩
   ·exact .inl h
   ·exact .inr ⟨a,b,inn,c,by rw[jR_];lia⟩
 |@ca c inn row h0 h1 hi hn _ ih=>
  intro ho x hx
  have e1:c::inn++e::row=(c::inn++[e])++row:=by simp
  rw[e1]at ho hx ⊢
  obtain⟨ho1,ho2⟩:=(N80.okr_app hp hpe (N80.nst_ca h0 h1 hi) hn).mp ho
  have hA:=(N80.okr_ca hp hpe h0 h1 hi).mp ho1
  rw[(N80.out_app ((N80.nst_ca h0 h1 hi).row hp hpe) (hn.row hp hpe)).2,(N80.out_ca hp h0 h1 (hi.row hp hpe)).2]at hx
  rcases jj_.mp hx with hx|hx
  ·rw[jb_.mp hx];exact .inr ⟨h0,h1,inn,hA,by simp;lia⟩
  ·rcases ih ho2 x hx with h|⟨a,b,inn',c',d⟩
   ·exact .inl h
   ·exact .inr ⟨a,b,inn',c',by rw[jf_];lia⟩
structure Gd (A:Int->α2->Prop)(p h B d:Nat)(good:α2):Prop where
 nd:good.Nodup
 rg:∀x∈good,0<=x/\x<(p:Int)+h
 pl:∀x:Int,0<=x->x<p->x∈good
 s:∀x∈good,(p:Int)<=x->∃row,N80.Acc A p ((p:Int)+h) (x-p) row
 l:∀(j:Nat) row,j<h->N80.Acc A p ((p:Int)+h) (j:Int) row->N80.cnt A p ((p:Int)+h) B h (N80.cod B row)<d->(p:Int)+j∈good
theorem Gd.room {A:Int->α2->Prop}{p h B d:Nat}{good:α2}(g:Gd A p h B d good){ways:α1}{R:α2}(hR:∀G:Int->Prop,G 0->(∀s,G s->∀x∈good,G (An ways s x))->∀s∈R,G s){s:Int}(hs:s∈R):∃t,G80 A p ((p:Int)+h) ways s t:=by
 have hp:(0:Int)<=(p:Int):=by lia
 have hpe:(p:Int)<=(p:Int)+h:=by lia
 refine hR (fun s=>∃t,G80 A p ((p:Int)+h) ways s t) ⟨[],G80.start⟩ (fun s hs x hx=>?_) s hs
 obtain⟨t,h1,h2,h3⟩:=hs
 have hxr:=g.rg x hx
 by_cases hxp:x<p
 ·have hn:N80.Nst (p:Int) ((p:Int)+h) [x]:=N80.nst_pl s!"" hxp
  refine⟨t++[x],h1.app hn,(N80.okr_app hp hpe h1 hn).mpr ⟨h2,N80.okr_pl s!"" hxp hpe⟩,?_⟩
  rw[(N80.out_app (h1.row hp hpe) (hn.row hp hpe)).2,(N80.out_pl s!"" hxp hpe).2,jK_,h3];rfl
 ·obtain⟨r,ha⟩:=g.s x hx s!""
  have hn:=N80.nst_ca (c:=x) (e:=(p:Int)+h) (p:=(p:Int)) s!"" s!"" ha.n
  refine⟨t++(x::r++[(p:Int)+h]),h1.app hn,(N80.okr_app hp hpe h1 hn).mpr ⟨h2,(N80.okr_ca hp hpe s!"" s!"" ha.n).mpr ha⟩,?_⟩
  rw[(N80.out_app (h1.row hp hpe) (hn.row hp hpe)).2,(N80.out_ca hp s!"" s!"" (ha.n.row hp hpe)).2,jK_,h3];rfl
theorem Gd.walk {A:Int->α2->Prop}{p h B d:Nat}{good:α2}(g:Gd A p h B d good)(hB:2<=B)(hBe:(B:Int)=(p:Int)+h+1){ways:α1}{R:α2}(h0:(0:Int)∈R)(hcl:∀s∈R,∀x∈good,An ways s x∈R){j:Nat}{row:α2}(ha:N80.Acc A p ((p:Int)+h) (j:Int) row)(hc:N80.cnt A p ((p:Int)+h) B h (N80.cod B row)<d+1):(Nest.outW (p:Int) ((p:Int)+h) row).foldl (An ways) 0∈R:=by
 have hp:(0:Int)<=(p:Int):=by lia
 have hpe:(p:Int)<=(p:Int)+h:=by lia
 have hx:∀x∈Nest.outW (p:Int) ((p:Int)+h) row,x∈good:=fun x hx=>by
  rcases GV hp hpe ha.n ha.o x hx with ⟨a,b⟩|⟨a,b,inn,hi,hil⟩
  ·exact g.pl x a b
  ·obtain⟨k,hk⟩:∃k:Nat,x-p=(k:Int):=⟨(x-p).toNat,by lia⟩
   rw[hk]at hi
   obtain⟨r,a1,a2,a3⟩:=N80.least_acc B hi
   have hlt:=N80.cod_len hB (hi.n.dg hp hBe hpe) hil
   have:=N80.cnt_lt (b:=B) (show k<h by lia) a1 a3 (n:=N80.cod B row) s!""
   have:=g.l k r s!"" a1 s!""
   rw[show x=(p:Int)+k by lia];exact this
 have key:∀(w:α2) (s:Int),s∈R->(∀x∈w,x∈good)->w.foldl (An ways) s∈R:=by
  intro w
  induction w with
  |nil=>intro s hs _;exact hs
  |cons x w ih=>intro s hs hw;exact ih _ (hcl s hs x (hw x jv_)) (fun y hy=>hw y (jx_ _ hy))
 exact key _ 0 h0 hx
noncomputable def Nu (K:α3):Sp:=fun vs H Q _=>∃(wa:Addr) (p:Nat) (xs:List V) (hs:List Hus),vs=[.ref wa]/\CZ K H wa p xs hs/\WfW (p+hs.length) hs/\1<=hs.length/\hs.length<=3/\1<=p/\p<=6/\∀l (good:α2) H',Same H H'->H' l=some (.lst (good.map V.int))->Gd (A80 hs) p hs.length (p+hs.length+1) hs.length good->Q (.ref l) H'
theorem Eh   (F:Fun K "_law_letters_good" "_law_letters_good" Bf f fd)(T:Txt mg)
  (Z:Exs K mg C_j2 C_j1 C_j4)
   (q_je:Cal P w K mg base CX0 1 "_law_rooms_to" Br ["house","letters"] (Ke K) CI Cd)
  : FnOk P w K mg base CX0 2 f fd ["works"] (Nu K):=by
 refine F.ok AK (fun vs H Q E h=>?_) (fun cdv A outer s H vs Q E hr h=>?_)
 ·obtain⟨w,p,xs,hs,rfl,_⟩:=h;rfl
 ·obtain⟨wa,p,xs,hs,rfl,hw,hwf,hh1,hh3,hp1,hp6,k⟩:=h
  have hl:=Au
  refine⟨_,(Ac (Aj (i:=1) AK.nd (Ah (ixTD Am) (pvD 0) Ae))
   (Ac (Aj (i:=2) AK.nd (Ll rfl rfl T.list rfl T.range (pvD 1)))
   (Ac (A0 jC_ rfl (Bn rfl T.range (Aa (Aq (lenD Ai) (by rfl) T.len jD_ (Aa (Ah (ixTD Am) (pvD 0) Ae) Ad)) Ad)) (As (i:=3) AK.nd rfl (Or.inl rfl))
   (Af (A0 jC_ rfl (Bn rfl T.range (Aa (Aq (lenD Ai) (by rfl) T.len jD_ (Aa (Ah (ixTD Am) (pvD 0) Ae) Ad)) Ad)) (As (i:=4) AK.nd rfl (Or.inl rfl))
   (Af (A0 jC_ rfl (BI (Ak q_je hr.d AF (Aa (Ah (ixTD Am) (Ah (ixTD Am) (pvD 0) Ae) (pvD 4)) (Aa (pvD 2) Ad)))) (As (i:=5) AK.nd rfl (Or.inl rfl))
   (Af (AR (PW.pt (Ho (ptT (Ap (opN Gr) (Ah (ixTD Am) (Ah (ixTD Am) (Ah (ixTD Am) (Ah (ixTD Am) (pvD 0) Ae) (pvD 4)) Ae) (pvD 5)) Ae (Ar _))) (Fm (ptT (Ap B1 (Av (opD0 AN) (pvD 1) (pvD 4)) (pvD 2) rfl)))))
   (Af (AM (B2 jt_ jz_ jA_ AA (pvD 2) (Aa (Av (opD0 AN) (pvD 1) (pvD 4)) Ad))))
   Ax)))))))
   (Af (Aw (pvD 2)))))),?_⟩
  obtain⟨y,q1,q2,q3⟩:=id hw
  have hxl:=q3.1
  walk_at "rd"
  refine⟨_,q1,_,rfl,p,rfl,by lia,by lia,fun g hg=>?_⟩
  rw[ju_]
  have s1:=Same.new hg (o:=.lst ((ups p).map V.int))
  refine⟨_,s1.seqT q1,_,rfl,y,rfl,xs,.inr (s1.seqT q2),by lia,by lia,?_⟩
  rw[ju_,hxl]
  have hB:2<=p+hs.length+1:=by lia
  have hBe:((p+hs.length+1:Nat):Int)=(p:Int)+hs.length+1:=by lia
  obtain⟨Pv,hPv⟩:∃Pv:Nat->St->Hp->Prop,∀d σ' H',Pv d σ' H'↔(∃(good:α2) (o3 o4 o5:Option V),Same H H'/\H' g=some (.lst (good.map V.int))/\Gd (A80 hs) p hs.length (p+hs.length+1) d good/\σ'=[some (.ref wa),some (.int p),some (.ref g),o3,o4,o5]):=⟨_,fun _ _ _=>j2_⟩
  refine forR Pv ((hPv _ _ _).mpr ⟨ups p,none,none,none,s1,Ab,?_,rfl⟩) (fun d σ2 H2 hd h2=>?_) (fun σ2 H2 h2=>?_)
  ·refine⟨MQ p,fun x hx=>?_,fun x h0 h1=>JT.mpr ⟨h0,h1⟩,fun x hx hx2=>?_,fun j row _ _ z=>absurd z (qp_ _)⟩
   ·have:=JT.mp hx;lia
   ·have:=JT.mp hx;lia
  ·obtain⟨good,o3,o4,o5,s2,hg2,hG2,rfl⟩:=(hPv _ _ _).mp h2
   rw[xa_]
   walk_at "rd"
   refine⟨_,s2.seqT q1,_,rfl,y,rfl,xs,.inr (s2.seqT q2),by lia,by lia,?_⟩
   rw[ju_,hxl]
   obtain⟨Pj,hPj⟩:∃Pv:Nat->St->Hp->Prop,∀j σ' H',Pv j σ' H'↔(∃(good:α2) (o4 o5:Option V),Same H H'/\H' g=some (.lst (good.map V.int))/\Gd (A80 hs) p hs.length (p+hs.length+1) d good/\(∀(j':Nat) row,j'<j->N80.Acc (A80 hs) p ((p:Int)+hs.length) (j':Int) row->N80.cnt (A80 hs) p ((p:Int)+hs.length) (p+hs.length+1) hs.length (N80.cod (p+hs.length+1) row)<d+1->(p:Int)+j'∈good)/\σ'=[some (.ref wa),some (.int p),some (.ref g),some (.int d),o4,o5]):=⟨_,fun _ _ _=>j2_⟩
   refine forR Pj ((hPj _ _ _).mpr ⟨good,_,_,s2,hg2,hG2,(fun j' row z=>absurd z (qp_ _)),rfl⟩) (fun j σ3 H3 hj h3=>?_) (fun σ3 H3 h3=>?_)
   ·clear hg2 hG2
    obtain⟨good,o4,o5,s3,hg3,hG3,hJ3,rfl⟩:=(hPj _ _ _).mp h3
    rw[xa_]
    have hjs:hs[j]?=some hs[j]:=ja_ hj
    obtain⟨ha,hx1,hh⟩:=q3.2 j _ hjs
    have hwj:=hwf _ (jB_ hj)
    have hi1:atI xs (j:Int)=some (.ref ha):=AE hx1
    have hAj:=El (hs:=hs) hjs
    rw[hwj.1]at hh
    generalize hs[j]=r at hwj hh hAj
    obtain⟨tm,tw,r1,r2,r3⟩:=id hh
    have hwf':=hwj.2
    walk_at "rd"
    refine⟨_,s3.seqT q1,_,rfl,y,rfl,_,s3.seqT q2,_,hi1,ha,g,p+hs.length,r.2.1,r.2.2,good,rfl,?_,?_,SqL.of hg3,fun x hx=>?_,fun lr R H4 s4 hlr hR4 hRn hRr hR0 hRc hRG=>?_⟩
    ·have:=hh.mono s3
     rw[<-jQ_]at this
     exact this
    ·rw[<-jQ_]at hwf';exact hwf'
    ·have:=hG3.rg x hx;lia
    have hlg:lr≠g:=fun z=>by rw[z,hg3]at hlr;cases hlr
    have s34:=s3.trans s4
    have hg4:=s4 _ _ hg3
    refine⟨lr,rfl,⟨_,SqL.of hR4⟩,?_⟩
    obtain⟨Pr,hPr⟩:∃Pv:Nat->St->Hp->Prop,∀i σ' H',Pv i σ' H'↔(∃(gd:α2) (o5:Option V),Same H H'/\H' g=some (.lst (gd.map V.int))/\H' lr=some (.lst (R.map V.int))/\(gd=good\/(gd=good++[(p:Int)+j]/\(p:Int)+j∉good/\∃row,N80.Acc (A80 hs) p ((p:Int)+hs.length) (j:Int) row))/\(∀s∈R.take i,mk80 r.2.1 s≠0->(p:Int)+j∈gd)/\σ'=[some (.ref wa),some (.int p),some (.ref g),some (.int d),some (.int j),o5]):=⟨_,fun _ _ _=>j2_⟩
    refine forL (xs:=R.map V.int) Pr ((hPr _ _ _).mpr ⟨good,_,s34,hg4,hR4,.inl rfl,(fun s hs'=>by simp at hs'),rfl⟩) (fun i σ5 H5 _ h5=>by obtain⟨_,_,_,_,h,_⟩:=(hPr _ _ _).mp h5;exact SqL.of h) (fun i x σ5 H5 hx h5=>?_) (fun σ5 H5 h5=>?_)
    ·obtain⟨gd,o5,s5,hg5,hR5,hgd,hm5,rfl⟩:=(hPr _ _ _).mp h5
     obtain⟨s,hs',rfl⟩:=A1 hx
     have hsm:=jl_ hs'
     have hsr:=hRr s hsm
     have et:R.take (i+1)=R.take i++[s]:=by rw[jF_,hs'];rfl
     have hmk:atI (r.2.1.map V.int) s=some (.int (mk80 r.2.1 s)):=Js hsr.1 (by
      unfold mk80
      have:s.toNat<r.2.1.length:=by lia
      rw[jw_,ja_ this,js_,ja_ this];rfl)
     walk_at "rd"
     refine⟨_,s5.seqT q1,_,rfl,y,rfl,_,s5.seqT q2,_,hi1,ha,rfl,_,s5.seqT r1,_,rfl,tm,rfl,_,s5.seqT r2,_,hmk,rfl,?_⟩
     by_cases h0:mk80 r.2.1 s=0
     ·rw[if_neg (by simp[h0])]
      refine (hPr _ _ _).mpr ⟨gd,_,s5,hg5,hR5,hgd,fun s' hs'' hm=>?_,rfl⟩
      rw[et]at hs''
      rcases jj_.mp hs'' with h|h
      ·exact hm5 s' h hm
      ·rw[jb_.mp h]at hm;exact absurd h0 hm
     ·rw[if_pos (by simp[h0])]
      refine⟨_,.inl (SqL.of hg5),rfl,by simp[B7],?_⟩
      rw[CS]
      by_cases hin:(p:Int)+j∈gd
      ·rw[if_neg (by simp[hin])]
       exact (hPr _ _ _).mpr ⟨gd,_,s5,hg5,hR5,hgd,fun _ _ _=>hin,rfl⟩
      ·rw[if_pos (by simp[hin])]
       have hgd':gd=good:=by
        rcases hgd with h|⟨h,_⟩
        ·exact h
        ·rw[h]at hin;exact absurd (jk_ _ (jb_.mpr rfl)) hin
       subst hgd'
       obtain⟨t,t1,t2,t3⟩:=hG3.room hRG hsm
       have hgl:gd.length<=p+hs.length:=AD (p+hs.length) hG3.nd (fun x hx=>by have:=hG3.rg x hx;lia)
       refine⟨.inl ⟨rfl,_,SqL.of hg5⟩,_,hg5,by rw[jd_];lia,(hPr _ _ _).mpr ⟨gd++[(p:Int)+j],_,s5.over hg,by rw[Ab,jI_];rfl,by rw[Ag hlg];exact hR5,.inr ⟨rfl,hin,t,t1,t2,(hAj _).mpr (by rw[t3];exact h0)⟩,fun _ _ _=>jk_ _ (jb_.mpr rfl),rfl⟩⟩
    ·obtain⟨gd,o5,s5,hg5,hR5,hgd,hm5,rfl⟩:=(hPr _ _ _).mp h5
     rw[jd_,jL_]at hm5
     have hsub:∀x∈good,x∈gd:=fun x hx=>by
      rcases hgd with h|⟨h,_⟩
      ·rw[h];exact hx
      ·rw[h];exact jr_ _ hx
     refine (hPj _ _ _).mpr ⟨gd,_,_,s5,hg5,?_,fun j' row hj' ha' hc'=>?_,rfl⟩
     ·rcases hgd with h|⟨h,h2,row,h3⟩
      ·rw[h];exact hG3
      ·subst h
       refine⟨qc_.mpr ⟨hG3.nd,by simp,fun a ha b hb=>?_⟩,fun x hx=>?_,fun x h0 h1=>hsub _ (hG3.pl x h0 h1),fun x hx hxp=>?_,fun j' row' a b c=>hsub _ (hG3.l j' row' a b c)⟩
       ·rw[jb_.mp hb]
        intro e
        exact h2 (e ▸ ha)
       ·rcases jj_.mp hx with h|h
        ·exact hG3.rg x h
        ·rw[jb_.mp h];lia
       ·rcases jj_.mp hx with h|h
        ·exact hG3.s x h hxp
        ·rw[jb_.mp h,show (p:Int)+j-p=j by lia];exact⟨row,h3⟩
     ·by_cases e:j'=j
      ·subst e
       have:=hG3.walk hB hBe hR0 hRc ha' hc'
       exact hm5 _ this ((hAj _).mp ha'.a)
      ·exact hsub _ (hJ3 j' row s!"" ha' hc')
   ·obtain⟨good,o4,o5,s3,hg3,hG3,hJ3,rfl⟩:=(hPj _ _ _).mp h3
    exact (hPv _ _ _).mpr ⟨good,_,_,_,s3,hg3,⟨hG3.nd,hG3.rg,hG3.pl,hG3.s,hJ3⟩,rfl⟩
  ·obtain⟨good,o3,o4,o5,s2,hg2,hG2,rfl⟩:=(hPv _ _ _).mp h2
   walk_at "rd"
   exact k g good _ s2 hg2 hG2
open Nest (spreadN dueN outW AI Cz prtF prtS DT GI)
theorem LLs.lastG {H0 H:Hp}{xs:List V}{ws:α1}{w:α2}(h:LLs H0 H xs (ws++[w])):∃ys t,xs=ys++[.ref t]/\H t=some (.lst (w.map V.int))/\H0 t=none/\(∀o,LLs (upd H0 t o) H ys ws)/\∀v:α2,LLs H0 (upd H t (.lst (v.map V.int))) xs (ws++[v]):=by
 have hh:=h
 obtain⟨ts,a,b,c,d,e⟩:=hh
 obtain⟨ys,t,e1,e2,e3,e4,e5⟩:=LLs.last h
 refine⟨ys,t,e1,e2,e3,fun o=>?_,e5⟩
 rw[jf_,jq_]at b
 obtain⟨us,t',rfl⟩:∃us t,ts=us++[t]:=⟨ts.dropLast,ts.getLast (fun z=>by rw[z]at b;simp at b),(qs_ _).symm⟩
 have hul:us.length=ws.length:=by rw[jf_,jq_]at b;lia
 have nd:=qc_.mp c
 rw[a,jI_,xi_]at e1
 have e6:=List.append_inj' e1 rfl
 obtain⟨e7,e8⟩:=e6
 have:t'=t:=by simpa using e8
 subst this
 have hut:∀u∈us,u≠t':=fun u hu=>nd.2.2 u hu t' (by simp)
 refine⟨us,e7.symm,hul,nd.1,fun i u v h1 h2=>?_,fun u hu=>?_⟩
 ·have hi:=(jc_.mp h1).1
  exact d i u v (by rw[jg_ hi];exact h1) (by rw[jg_ s!""];exact h2)
 ·rw[Ag (hut u hu)];exact e u (by simp[hu])
noncomputable def BR (G H:Hp)(xs:List V)(ps:List (Int×α2)):Prop:=xs.length=ps.length/\∀(i:Nat) (pr:Int×α2),ps[i]?=some pr->∃t tw,xs[i]?=some (.ref t)/\H t=some (.tup [.int pr.1,.ref tw])/\G tw=some (.tup [])/\H tw=some (.lst (pr.2.map V.int))
theorem BR.nil  : BR G H [] []:=⟨rfl,fun i pr h=>by simp at h⟩
theorem BR.same    (h:BR G H xs ps)(s:Same H H'):BR G H' xs ps:=by
 refine⟨h.1,fun i pr hi=>?_⟩
 obtain⟨t,tw,a,b,c,d⟩:=h.2 i pr hi
 exact⟨t,tw,a,s _ _ b,c,s _ _ d⟩
theorem BR.off      (h:BR G H xs ps)(hu:H u=some (.lst zs))(hg:G u≠some (.tup [])):BR G (upd H u o) xs ps:=by
 refine⟨h.1,fun i pr hi=>?_⟩
 obtain⟨t,tw,a,b,c,d⟩:=h.2 i pr hi
 exact⟨t,tw,a,by rw[Ag (fun z=>by rw[z,hu]at b;cases b)];exact b,c,by rw[Ag (fun z=>hg (by rw[<-z];exact c))];exact d⟩
theorem BR.mark     (h:BR G H xs ps):BR (upd G u (.tup [])) H xs ps:=by
 refine⟨h.1,fun i pr hi=>?_⟩
 obtain⟨t,tw,a,b,c,d⟩:=h.2 i pr hi
 refine⟨t,tw,a,b,?_,d⟩
 by_cases e:tw=u
 ·rw[e];exact Ab
 ·rw[Ag e];exact c
theorem BR.snoc {G H:Hp}{xs:List V}{ps:List (Int×α2)}{t tw:Addr}{j:Int}{w:α2}(h:BR G H xs ps)(h1:H t=some (.tup [.int j,.ref tw]))(h2:G tw=some (.tup []))(h3:H tw=some (.lst (w.map V.int))):BR G H (xs++[.ref t]) (ps++[(j,w)]):=by
 refine⟨by simp[h.1],fun i pr hi=>?_⟩
 by_cases hl:i<ps.length
 ·rw[jg_ hl]at hi
  rw[jg_ (by rw[h.1];exact hl)]
  exact h.2 i pr hi
 ·have:=(jc_.mp hi).1
  rw[jf_,jq_]at this
  have e:i=ps.length:=by lia
  subst e
  rw[jp_ (jh_ _),j4_]at hi
  simp at hi
  subst hi
  exact⟨t,tw,by rw[<-h.1];simp,h1,h2,h3⟩
noncomputable def S0 (H:Hp)(xs:List V)(ps:List (Int×α2)):Prop:=xs.length=ps.length/\∀(i:Nat) (pr:Int×α2),ps[i]?=some pr->∃t tw,xs[i]?=some (.ref t)/\H t=some (.tup [.int pr.1,.ref tw])/\H tw=some (.lst (pr.2.map V.int))
noncomputable def GX (K:α3):Sp:=fun vs H Q _=>∃(t:Bool) (p h top:Int) (a:Addr) (ws:α2),vs=[.int p,.int h,.ref a,.int top]/\SqB K H t a (ws.map V.int)/\ws.length<=4000/\AI p (p+h) ws 0=true/\∀l xs H',Same H H'->H' l=some (.lst xs)->S0 H' xs ((prtS p (p+h) ws).1++[(top,outW p (p+h) ws)])->xs.length<=4001->Q (.ref l) H'
theorem IA   (F:Fun K "_law_parts" "_law_parts" CW f fd)(T:Txt mg)
  (Z:Exs K mg C_j2 C_j1 C_j4)
  : FnOk P w K mg base CX0 1 f fd ["plain","helpers","signs","top"] (GX K):=by
 refine F.ok BN (fun vs H Q E h=>?_) (fun cdv A outer s H vs Q E hr h=>?_)
 ·obtain⟨tb,p,h,top,a,ws,rfl,_⟩:=h;rfl
 ·obtain⟨tb,p,h,top,a,ws,rfl,ha,hz,hv,k⟩:=h
  have hln:=Au
  refine⟨_,(Ac (Aj (i:=4) BN.nd (A8 Ad))
   (Ac (Aj (i:=5) BN.nd (A8 (Aa (pvD 3) Ad)))
   (Ac (Aj (i:=6) BN.nd (A8 (Aa (A8 Ad) Ad)))
   (Ac (A0 jC_ rfl (Po (pvD 2)) (As (i:=7) BN.nd rfl (Or.inl rfl))
   (Af (AR (ptT (Ap (opE C3) (pvD 7) (Av (opD0 AN) (pvD 0) (pvD 1)) (Ar _)))
   (Af (AM (B2 jt_ jz_ jA_ AA (pvD 4) (Aa (AL (Aa (L9 jt_ xV_ xW_ Md (pvD 5)) (Aa (L9 jt_ xV_ xW_ Md (pvD 6)) Ad))) Ad))))
   (Ac (AM (B2 jt_ jz_ jA_ AA (Ah (ixLD AS) (pvD 6) (S6 RE Ae)) (Aa (pvD 7) Ad)))
   (Af (AR (ptT (Ap (opD0 LU) (pvD 7) (pvD 0) (Ar _)))
   (Ac (AM (B2 jt_ jz_ jA_ AA (pvD 5) (Aa (Av (opD0 Gq) (pvD 7) (pvD 0)) Ad)))
   (Af (AM (B2 jt_ jz_ jA_ AA (pvD 6) (Aa (A8 Ad) Ad)))))
   Ax))))))
   (Ac (AM (B2 jt_ jz_ jA_ AA (pvD 4) (Aa (AL (Aa (pvD 3) (Aa (Ah (ixLD AS) (pvD 6) Ae) Ad))) Ad)))
   (Af (Aw (pvD 4)))))))),?_⟩
  walk_at "rd"
  refine⟨by lia,fun q1 hq1=>⟨by lia,fun q2 hq2=>⟨by lia,fun t0 ht0=>⟨by lia,fun q hq=>?_⟩⟩⟩⟩
  have sa:=((Same.new hq1 (o:=.lst [])).newT hq2 (o:=.lst [V.int top])).newT ht0 (o:=.lst [])
  have sb:=sa.newT hq (o:=.lst [V.ref t0])
  have hq21:q2≠q1:=(Al hq2).2
  have ht02:t0≠q2:=(Al ht0).2
  have ht01:t0≠q1:=(Al (Al ht0).1).2
  have hqt:q≠t0:=(Al hq).2
  have hq2':q≠q2:=(Al (Al hq).1).2
  have hq1':q≠q1:=(Al (Al (Al hq).1).1).2
  have ht0H:H t0=none:=(Al (Al ht0).1).1
  have hq1H:H q1=none:=hq1
  have hq2H:H q2=none:=(Al hq2).1
  have hqH:H q=none:=(Al (Al (Al hq).1).1).1
  obtain⟨G0,hG0⟩:∃G:Hp,G=upd (upd (upd H q1 (.lst [])) q2 (.lst [])) q (.lst []):=⟨_,rfl⟩
  have g1:G0 q1=some (.lst []):=by rw[hG0,Ag (qf_ hq1'),Ag (qf_ hq21)];exact Ab
  have g2:G0 q2=some (.lst []):=by rw[hG0,Ag (qf_ hq2')];exact Ab
  have g3:G0 q=some (.lst []):=by rw[hG0];exact Ab
  have g0:G0 t0=none:=by rw[hG0,Ag (qf_ hqt),Ag ht02,Ag ht01];exact ht0H
  have gS:Same H G0:=by rw[hG0];exact (((Same.refl H).over hq1H).over hq2H).over hqH
  have gN:∀u,upd (upd (upd (upd H q1 (.lst [])) q2 (.lst [V.int top])) t0 (.lst [])) q (.lst [V.ref t0]) u=none->G0 u=none:=fun u hu=>by
   obtain⟨hu1,n1⟩:=Al hu
   obtain⟨hu2,n2⟩:=Al hu1
   obtain⟨hu3,n3⟩:=Al hu2
   obtain⟨hu4,n4⟩:=Al hu3
   rw[hG0,Ag n1,Ag n3,Ag n4];exact hu4
  have L0:LLs G0 (upd (upd (upd (upd H q1 (.lst [])) q2 (.lst [V.int top])) t0 (.lst [])) q (.lst [V.ref t0])) [V.ref t0] [[]]:=((LLs.nil G0 (upd (upd H q1 (.lst [])) q2 (.lst [V.int top]))).snoc (w:=[]) g0 ht0).mono (Same.new hq)
  have h1:upd (upd (upd (upd H q1 (.lst [])) q2 (.lst [V.int top])) t0 (.lst [])) q (.lst [V.ref t0]) q1=some (.lst []):=by rw[Ag (qf_ hq1'),Ag (qf_ ht01),Ag (qf_ hq21)];exact Ab
  have h2:upd (upd (upd (upd H q1 (.lst [])) q2 (.lst [V.int top])) t0 (.lst [])) q (.lst [V.ref t0]) q2=some (.lst [V.int top]):=by rw[Ag (qf_ hq2'),Ag (qf_ ht02)];exact Ab
  have h3:upd (upd (upd (upd H q1 (.lst [])) q2 (.lst [V.int top])) t0 (.lst [])) q (.lst [V.ref t0]) q=some (.lst [V.ref t0]):=Ab
  generalize upd (upd (upd (upd H q1 (.lst [])) q2 (.lst [V.int top])) t0 (.lst [])) q (.lst [V.ref t0])=H0 at sb L0 h1 h2 h3 gN ⊢
  obtain⟨Pv,hPv⟩:∃Pv:Nat->St->Hp->Prop,∀i σ' H',Pv i σ' H'↔(∃(G:Hp) (ts xs:List V) (tl:List (Int×α2)) (cs:α2) (wl:α1) (o:Option V),prtS p (p+h) (ws.take i)=(tl,cs,wl)/\Same H H'/\Same H G/\(∀u,H' u=none->G u=none)/\G q1=some (.lst [])/\G q2=some (.lst [])/\G q=some (.lst [])/\H' q1=some (.lst ts)/\BR G H' ts tl/\H' q2=some (.lst (V.int top::cs.map V.int))/\H' q=some (.lst xs)/\LLs G H' xs wl/\AI p (p+h) (ws.drop i) cs.length=true/\wl.length=cs.length+1/\tl.length<=i/\cs.length<=i/\(∀w∈wl,w.length<=i)/\σ'=[some (.int p),some (.int h),some (.ref a),some (.int top),some (.ref q1),some (.ref q2),some (.ref q),o]):=⟨_,fun _ _ _=>j2_⟩
  refine forB (t:=tb) (xs:=ws.map V.int) Pv ((hPv _ _ _).mpr ⟨G0,[],_,[],[],[[]],none,rfl,sb,gS,gN,g1,g2,g3,h1,BR.nil,h2,h3,L0,hv,rfl,jh_ _,jh_ _,by simp,rfl⟩) (fun i σ' H' _ h'=>by obtain⟨_,_,_,_,_,_,_,_,s',_⟩:=(hPv _ _ _).mp h';exact ha.mono s') (fun i x σ' H' hx h'=>?_) (fun σ' H' h'=>?_)
  ·clear h1 h2 h3 L0 sb gN gS g0 g1 g2 g3 hG0 G0
   obtain⟨G,ts,xs,tl,cs,wl,o,hst,s2,gS,gN,g1,g2,g3,e1,hP,e2,e3,hL,hd,hwl,l1,l2,l3,rfl⟩:=(hPv _ _ _).mp h'
   obtain⟨n,hn,rfl⟩:=A1 hx
   have hi:=(jc_.mp hn).1
   have hst':=DT (p:=p) (e:=p+h) hn
   rw[hst]at hst'
   rw[Cz hn]at hd
   have hok:¬ (n<0\/p+h<n):=fun z=>by rw[if_pos z]at hd;cases hd
   rw[if_neg hok]at hd
   obtain⟨wl,w',rfl⟩:∃us u,wl=us++[u]:=⟨wl.dropLast,wl.getLast (fun z=>by rw[z]at hwl;simp at hwl),(qs_ _).symm⟩
   obtain⟨ys,t,rfl,ht,hgt,hL',hLv⟩:=LLs.lastG hL
   have hlw:=l3 w' (by simp)
   walk_at "rd"
   have htq:t≠q:=fun z=>by rw[z,g3]at hgt;cases hgt
   have htq1:t≠q1:=fun z=>by rw[z,g1]at hgt;cases hgt
   have htq2:t≠q2:=fun z=>by rw[z,g2]at hgt;cases hgt
   have hPl:=hP.1
   refine ite2 (fun e=>?_) (fun e=>?_)
   ·rw[if_pos e]at hd
    obtain⟨cs,c,rfl⟩:∃us u,cs=us++[u]:=⟨cs.dropLast,cs.getLast (fun z=>by rw[z]at hd;cases hd),(qs_ _).symm⟩
    rw[jf_,jq_]at hd l2 hwl
    rw[jf_,jq_]at hwl
    rw[jI_,xi_,<-qb_]at e2
    refine⟨.inl ⟨rfl,_,SqL.of e1⟩,.inl ⟨rfl,_,SqL.of e2⟩,_,e2,V.int c,by simp,?_⟩
    rw[jP_]
    have e3A:upd H' q2 (.lst (V.int top::cs.map V.int)) q=some (.lst (ys++[V.ref t])):=by rw[Ag hq2'];exact e3
    refine⟨.inl ⟨rfl,_,SqL.of e3A⟩,_,e3A,V.ref t,by simp,?_⟩
    rw[jP_]
    have htB:upd (upd H' q2 (.lst (V.int top::cs.map V.int))) q (.lst ys) t=some (.lst (w'.map V.int)):=by rw[Ag htq,Ag htq2];exact ht
    have e1B:upd (upd H' q2 (.lst (V.int top::cs.map V.int))) q (.lst ys) q1=some (.lst ts):=by rw[Ag (qf_ hq1'),Ag (qf_ hq21)];exact e1
    have e2B:upd (upd H' q2 (.lst (V.int top::cs.map V.int))) q (.lst ys) q2=some (.lst (V.int top::cs.map V.int)):=by rw[Ag (qf_ hq2')];exact Ab
    have e3B:upd (upd H' q2 (.lst (V.int top::cs.map V.int))) q (.lst ys) q=some (.lst ys):=Ab
    have sB:Same H (upd (upd H' q2 (.lst (V.int top::cs.map V.int))) q (.lst ys)):=(s2.over hq2H).over hqH
    have LB:=LLs.off (LLs.off (hL' (.tup [])) (o:=.lst (V.int top::cs.map V.int)) (u:=.lst []) (by rw[Ag (qf_ htq2)];exact g2)) (o:=.lst ys) (u:=.lst []) (by rw[Ag (qf_ htq)];exact g3)
    have PB:BR (upd G t (.tup [])) (upd (upd H' q2 (.lst (V.int top::cs.map V.int))) q (.lst ys)) ts tl:=((hP.off e2 (by rw[g2];simp)).off e3A (by rw[g3];simp)).mark
    have NB:∀u,upd (upd H' q2 (.lst (V.int top::cs.map V.int))) q (.lst ys) u=none->upd G t (.tup []) u=none:=fun u hu=>by
     have hu2:=(Al (Al hu).1).1
     rw[Ag (J8 hu2 ht)];exact gN u hu2
    generalize upd (upd H' q2 (.lst (V.int top::cs.map V.int))) q (.lst ys)=HB at htB e1B e2B e3B sB LB PB NB ⊢
    refine⟨by lia,fun p1 hp1=>?_⟩
    have sp:=Same.new hp1 (o:=.tup [V.int c,V.ref t])
    have e1':=sp _ _ e1B
    have PC:=(PB.same sp).snoc (j:=c) (w:=w') (t:=p1) (tw:=t) Ab Ab (sp _ _ htB)
    refine⟨_,e1',by lia,(hPv _ _ _).mpr ⟨upd G t (.tup []),ts++[.ref p1],ys,tl++[(c,w')],cs,wl,_,?_,(sB.trans sp).over hq1H,gS.over (gS.none hgt),fun u hu=>NB u (Al (Al hu).1).1,by rw[Ag (qf_ htq1)];exact g1,by rw[Ag (qf_ htq2)];exact g2,by rw[Ag (qf_ htq)];exact g3,Ab,PC.off e1' (by rw[Ag (qf_ htq1),g1];simp),?_,?_,LLs.off (LB.mono sp) (u:=.lst []) (by rw[Ag (qf_ htq1)];exact g1),hd,by lia,by simp;lia,by lia,fun w hw=>?_,rfl⟩⟩
    ·rw[hst']
     unfold prtF
     rw[if_pos e]
     simp only[jP_,jZ_]
    ·rw[Ag hq21];exact sp _ _ e2B
    ·rw[Ag hq1'];exact sp _ _ e3B
    ·have:=l3 w (by simp[hw]);lia
   ·rw[if_neg e]at hd
    refine⟨_,SqL.of e3,_,QO (v:=V.ref t) (by simp),.inl ⟨rfl,_,SqL.of ht⟩,t,rfl,_,ht,by rw[jd_];lia,?_⟩
    rw[show w'.map V.int++[V.int n]=(w'++[n]).map V.int from by simp]
    have LA:=hLv (w'++[n])
    have e1A:upd H' t (.lst ((w'++[n]).map V.int)) q1=some (.lst ts):=by rw[Ag (qf_ htq1)];exact e1
    have e2A:upd H' t (.lst ((w'++[n]).map V.int)) q2=some (.lst (V.int top::cs.map V.int)):=by rw[Ag (qf_ htq2)];exact e2
    have e3A:upd H' t (.lst ((w'++[n]).map V.int)) q=some (.lst (ys++[V.ref t])):=by rw[Ag (qf_ htq)];exact e3
    have htH:H t=none:=gS.none hgt
    have sA:Same H (upd H' t (.lst ((w'++[n]).map V.int))):=s2.over htH
    have PA':BR G (upd H' t (.lst ((w'++[n]).map V.int))) ts tl:=hP.off ht (by rw[hgt];simp)
    have NA:∀u,upd H' t (.lst ((w'++[n]).map V.int)) u=none->G u=none:=fun u hu=>gN u (Al hu).1
    generalize upd H' t (.lst ((w'++[n]).map V.int))=HA at LA e1A e2A e3A sA PA' NA ⊢
    rw[jf_,jq_]at hwl
    have hyl:ys.length=wl.length:=by have:=LLs.len hL;simpa using this
    have l3':∀w∈wl++[w'++[n]],w.length<=i+1:=fun w hw=>by
     rcases jj_.mp hw with hw|hw
     ·have:=l3 w (by simp[hw]);lia
     ·rw[jb_.mp hw,jf_,jq_];lia
    refine ite2 (fun hp=>?_) (fun hp=>?_)
    ·rw[if_pos hp]at hd
     refine⟨.inl ⟨rfl,_,SqL.of e2A⟩,_,e2A,by rw[jR_,jd_];lia,?_⟩
     rw[show V.int top::cs.map V.int++[V.int (n-p)]=V.int top::(cs++[n-p]).map V.int from by simp]
     have e1B:upd HA q2 (.lst (V.int top::(cs++[n-p]).map V.int)) q1=some (.lst ts):=by rw[Ag (qf_ hq21)];exact e1A
     have e2B:upd HA q2 (.lst (V.int top::(cs++[n-p]).map V.int)) q2=some (.lst (V.int top::(cs++[n-p]).map V.int)):=Ab
     have e3B:upd HA q2 (.lst (V.int top::(cs++[n-p]).map V.int)) q=some (.lst (ys++[V.ref t])):=by rw[Ag hq2'];exact e3A
     have sB:Same H (upd HA q2 (.lst (V.int top::(cs++[n-p]).map V.int))):=sA.over hq2H
     have LB:=LLs.off LA (o:=.lst (V.int top::(cs++[n-p]).map V.int)) g2
     have PB:BR G (upd HA q2 (.lst (V.int top::(cs++[n-p]).map V.int))) ts tl:=PA'.off e2A (by rw[g2];simp)
     have NB:∀u,upd HA q2 (.lst (V.int top::(cs++[n-p]).map V.int)) u=none->G u=none:=fun u hu=>NA u (Al hu).1
     generalize upd HA q2 (.lst (V.int top::(cs++[n-p]).map V.int))=HB at e1B e2B e3B sB LB PB NB ⊢
     refine⟨.inl ⟨rfl,_,SqL.of e3B⟩,by lia,fun p1 hp1=>?_⟩
     have sp:=Same.new hp1 (o:=.lst [])
     have gp1:G p1=none:=NB p1 hp1
     have LC:=LLs.off (LB.snoc (w:=[]) gp1 hp1) (o:=.lst (ys++[V.ref t]++[V.ref p1])) g3
     refine⟨_,sp _ _ e3B,by simp;lia,(hPv _ _ _).mpr ⟨G,ts,ys++[V.ref t]++[V.ref p1],tl,cs++[n-p],wl++[w'++[n]]++[[]],_,?_,(sB.trans sp).over hqH,gS,fun u hu=>NB u (Al (Al hu).1).1,g1,g2,g3,?_,(PB.same sp).off (sp _ _ e3B) (by rw[g3];simp),?_,Ab,LC,by rw[jf_,jq_];exact hd,by simp;lia,by lia,by simp;lia,fun w hw=>?_,rfl⟩⟩
     ·rw[hst']
      unfold prtF
      rw[if_neg e,if_pos hp]
      simp only[jP_,jZ_]
     ·rw[Ag (qf_ hq1')];exact sp _ _ e1B
     ·rw[Ag (qf_ hq2')];exact sp _ _ e2B
     ·rcases jj_.mp hw with hw|hw
      ·exact l3' w hw
      ·rw[jb_.mp hw];simp
    ·rw[if_neg hp]at hd
     refine (hPv _ _ _).mpr ⟨G,ts,ys++[V.ref t],tl,cs,wl++[w'++[n]],_,?_,sA,gS,NA,g1,g2,g3,e1A,PA',e2A,e3A,LA,hd,by simp;lia,by lia,by lia,l3',rfl⟩
     rw[hst']
     unfold prtF
     rw[if_neg e,if_neg hp]
     simp only[jP_,jZ_]
  ·clear h1 h2 h3 L0 sb gN gS g0 g1 g2 g3 hG0 G0
   obtain⟨G,ts,xs,tl,cs,wl,o,hst,s2,gS,gN,g1,g2,g3,e1,hP,e2,e3,hL,hd,hwl,l1,l2,l3,rfl⟩:=(hPv _ _ _).mp h'
   rw[jd_,jL_]at hst
   have hpd:=(Nest.parts_due hv).2
   rw[hst]at hpd
   obtain⟨w0,wr,rfl⟩:∃w0 wr,wl=w0::wr:=by
    cases wl with
    |nil=>simp at hwl
    |cons w0 wr=>exact⟨w0,wr,rfl⟩
   have hpd:w0=outW p (p+h) ws:=hpd
   obtain⟨t,ht1,ht2⟩:=LLs.head hL
   obtain⟨t',ht1',ht2',hgt,_⟩:=LLs.at hL (i:=0) (w:=w0) rfl
   have:t'=t:=by rw[ht1]at ht1';simpa using ht1'.symm
   subst this
   walk_at "rd"
   refine⟨.inl ⟨rfl,_,SqL.of e1⟩,_,SqL.of e3,_,(AE ht1:atI xs ((0:Nat):Int)=_),by lia,fun p1 hp1=>?_⟩
   have sp:=Same.new hp1 (o:=.tup [V.int top,V.ref t'])
   have e1':=sp _ _ e1
   rw[jd_]at l1
   have hPl:=hP.1
   refine⟨_,e1',by lia,?_⟩
   have hP2:=((hP.mark (u:=t')).same sp).snoc (j:=top) (w:=w0) (t:=p1) (tw:=t') Ab Ab (sp _ _ ht2)
   have htq1:t'≠q1:=fun z=>by rw[z,g1]at hgt;cases hgt
   have hP3:=hP2.off (o:=.lst (ts++[.ref p1])) e1' (by rw[Ag (qf_ htq1),g1];simp)
   refine k q1 _ _ ((s2.trans sp).over hq1H) Ab ?_ (by rw[jf_,jq_];lia)
   rw[hst,<-hpd]
   refine⟨hP3.1,fun i pr hi=>?_⟩
   obtain⟨t,tw,a1,a2,a3,a4⟩:=hP3.2 i pr hi
   exact⟨t,tw,a1,a2,a4⟩
noncomputable def FN (K:α3):Sp:=fun vs H Q _=>∃(t:Bool) (p h:Int) (a:Addr) (ws:α2),vs=[.int p,.int h,.ref a]/\SqB K H t a (ws.map V.int)/\ws.length<=4000/\∀H',Same H H'->Q (.bl (AI p (p+h) ws 0)) H'
theorem Hi   (F:Fun K "_law_nested" "_law_nested" Cu f fd)(T:Txt mg)
  (Z:Exs K mg C_j2 C_j1 C_j4)
  : FnOk P w K mg base CX0 1 f fd ["plain","helpers","signs"] (FN K):=by
 refine F.ok C5 (fun vs H Q E h=>?_) (fun cdv A outer s H vs Q E hr h=>?_)
 ·obtain⟨tb,p,h,a,ws,rfl,_⟩:=h;rfl
 ·obtain⟨tb,p,h,a,ws,rfl,ha,hz,k⟩:=h
  have hln:=Au
  refine⟨_,(Ac (Aj (i:=3) C5.nd (A8 Ad))
   (Ac (A0 jC_ rfl (Po (pvD 2)) (As (i:=4) C5.nd rfl (Or.inl rfl))
   (Ac (AR (PW.pt (Ld (ptT (Ap (opD0 HK) (pvD 4) Ae (Ar _))) (Hn (ptT (Ap (opD0 RF) (pvD 4) (Av (opD0 AN) (pvD 0) (pvD 1)) (Ar _))))))
   (Af (Aw Di))
   Ax)
   (Af (AR (ptT (Ap (opE C3) (pvD 4) (Av (opD0 AN) (pvD 0) (pvD 1)) (Ar _)))
   (Ac (AR (ptT (Ap (opE C3) (Aq (lenD Ai) (by rfl) T.len jD_ (Aa (pvD 3) Ad)) Ae (Ar _)))
   (Af (Aw Di))
   Ax)
   (Af (AM (L9 jt_ xV_ xW_ Md (pvD 3)))))
   (Af (AR (ptT (Ap (opD0 LU) (pvD 4) (pvD 0) (Ar _)))
   (Af (AM (B2 jt_ jz_ jA_ AA (pvD 3) (Aa (pvD 4) Ad))))
   Ax))))))
   (Af (Aw (CB (opE C3) (Aq (lenD Ai) (by rfl) T.len jD_ (Aa (pvD 3) Ad)) Ae (Ar _)))))),?_⟩
  walk_at "rd"
  refine⟨by lia,fun q hq=>?_⟩
  have s0:=Same.new hq (o:=.lst [])
  obtain⟨Pv,hPv⟩:∃Pv:Nat->St->Hp->Prop,∀i σ' H',Pv i σ' H'↔(∃(xs:List V) (o:Option V),Same H H'/\H' q=some (.lst xs)/\xs.length<=i/\AI p (p+h) (ws.drop i) xs.length=AI p (p+h) ws 0/\σ'=[some (.int p),some (.int h),some (.ref a),some (.ref q),o]):=⟨_,fun _ _ _=>j2_⟩
  refine forB (t:=tb) (xs:=ws.map V.int) Pv ((hPv _ _ _).mpr ⟨[],none,s0,Ab,by simp,rfl,rfl⟩) (fun i σ2 H2 _ h2=>by obtain⟨_,_,s2,_⟩:=(hPv _ _ _).mp h2;exact ha.mono s2) (fun i x σ2 H2 hx h2=>?_) (fun σ2 H2 h2=>?_)
  ·obtain⟨xs,o,s2,hq2,hxl,hd,rfl⟩:=(hPv _ _ _).mp h2
   obtain⟨n,hn,rfl⟩:=A1 hx
   have hi:=(jc_.mp hn).1
   rw[Cz hn]at hd
   walk_at "rd"
   by_cases h0:0<=n/\n<=p+h
   ·rw[if_neg s!"",if_neg s!""]
    rw[if_neg s!""]at hd
    refine ite2 (fun e=>⟨_,.inl (SqL.of hq2),?_⟩) (fun e=>ite2 (fun e2=>?_) (fun e2=>?_))
    ·rw[if_pos e]at hd
     by_cases hx0:xs.length=0
     ·rw[hx0]at hd
      rw[if_pos s!"",show false=AI p (p+h) ws 0 from hd]
      exact k _ s2
     ·rw[if_neg s!""]
      have hlt:xs.length-1<xs.length:=by lia
      obtain⟨m,hm⟩:∃m,xs.length=m+1:=⟨xs.length-1,by lia⟩
      rw[hm]at hd
      refine⟨.inl ⟨rfl,_,SqL.of hq2⟩,_,hq2,xs[xs.length-1],by simp[hlt],(hPv _ _ _).mpr ⟨xs.dropLast,_,s2.over hq,Ab,by rw[x1_];lia,?_,rfl⟩⟩
      rw[x1_,hm]
      exact hd
    ·rw[if_neg e,if_pos e2]at hd
     refine⟨.inl ⟨rfl,_,SqL.of hq2⟩,_,hq2,by lia,(hPv _ _ _).mpr ⟨xs++[V.int n],_,s2.over hq,Ab,by simp;lia,?_,rfl⟩⟩
     rw[jf_,jq_]
     exact hd
    ·rw[if_neg e,if_neg e2]at hd
     exact (hPv _ _ _).mpr ⟨xs,_,s2,hq2,by lia,hd,rfl⟩
   ·rw[if_pos s!""]at hd
    have kf:=k _ s2
    rw[<-hd]at kf
    by_cases h1:n<0
    ·rw[if_pos h1];exact kf
    ·rw[if_neg h1,if_pos s!""];exact kf
  ·obtain⟨xs,o,s2,hq2,hxl,hd,rfl⟩:=(hPv _ _ _).mp h2
   rw[jd_,List.drop_length,show AI p (p+h) [] xs.length=decide (xs.length=0) from rfl]at hd
   walk_at "rd"
   refine⟨_,.inl (SqL.of hq2),?_⟩
   rw[show decide ((xs.length:Int)=0)=decide (xs.length=0) from by simp,hd]
   exact k _ s2
noncomputable def Nv (K:α3):Sp:=fun vs H Q _=>∃(a:Addr) (ns:α2) (k m:Int),vs=[.ref a,.int k,.int m]/\SqL K H a (ns.map V.int)/\0<=k/\k<=1000000/\0<m/\∀x,0<=x->x<m->Q (.int x) H
theorem Jt   (F:Fun K "_law_draw" "_law_draw" Dr f fd)(T:Txt mg)
  (Z:Exs K mg C_j2 C_j1 C_j4)
  : FnOk P w K mg base CX0 1 f fd ["flow","k","many"] (Nv K):=by
 refine F.ok DW (fun vs H Q E h=>?_) (fun cdv A outer s H vs Q E hr h=>?_)
 ·obtain⟨a,ns,k,m,rfl,_⟩:=h;rfl
 ·obtain⟨a,ns,k,m,rfl,hs,hk0,hk1,hm,q⟩:=h
  have hl:=Au
  refine⟨_,(Ac (AR (ptT (Ap (opD0 HK) (pvD 1) (Aq (lenD Ai) (by rfl) T.len jD_ (Aa (pvD 0) Ad)) (Ar _)))
   (Af (Aw (Av (opD Bo) (Ah (ixLD AS) (pvD 0) (pvD 1)) (pvD 2))))
   Ax)
   (Ac (AR (ptT (Ap (opE C3) (Aq (lenD Ai) (by rfl) T.len jD_ (Aa (pvD 0) Ad)) Ae (Ar _)))
   (Af (Aw Ae))
   Ax)
   (Ac (Aj (i:=3) DW.nd (Av (opD Bo) (Ah (ixLD AS) (pvD 0) (Av (opD Bo) (pvD 1) (Aq (lenD Ai) (by rfl) T.len jD_ (Aa (pvD 0) Ad)))) Ae))
   (Ac (Aj (i:=4) DW.nd (Av (opD Bo) (Av (opD IS) (Av (opD0 AN) (Av (opD0 AN) (pvD 3) (Av (opD IS) (pvD 1) (pvD 1))) Ae) Ae) Ae))
   (Af (Aw (Av (opD Bo) (Av (opD Bo) (Av (opD IS) (pvD 4) (pvD 4)) Ae) (pvD 2)))))))),?_⟩
  walk_at "rd"
  refine⟨_,.inl hs,?_⟩
  rw[jd_]
  refine ite2 (fun hlt=>?_) (fun hge=>?_)
  ·have hk':k.toNat<ns.length:=by lia
   refine⟨_,hs,_,B9 hk0 (v:=ns[k.toNat]) (by simp[hk']),?_⟩
   walk_at "rd"
   exact⟨hm,q _ (qe_ _ s!"") (j0_ _ hm)⟩
  ·refine⟨_,.inl hs,?_⟩
   rw[jd_]
   refine ite2 (fun h0=>q 0 s!"" hm) (fun h0=>?_)
   have hpos:0<(ns.length:Int):=by lia
   have e0:=qe_ k (show (ns.length:Int)≠0 by lia)
   have e1:=j0_ k hpos
   have hk':(k%(ns.length:Int)).toNat<ns.length:=by lia
   refine⟨_,.inl hs,by rw[jd_];exact hpos,_,hs,_,by rw[jd_];exact B9 e0 (v:=ns[(k%(ns.length:Int)).toNat]) (by simp[hk']),?_⟩
   walk_at "rd"
   refine⟨by decide,.inl ⟨by lia,by lia⟩,?_⟩
   generalize ns[(k%(ns.length:Int)).toNat]%2147483647+k*k+1=z
   have m0:=qe_ (z*48271) (show (2147483647:Int)≠0 by decide)
   have m1:=j0_ (z*48271) (show (0:Int)<2147483647 by decide)
   refine⟨.inr ⟨by decide,by decide⟩,by decide,.inl ⟨by lia,by lia⟩,by decide,hm,?_⟩
   exact q _ (qe_ _ s!"") (j0_ _ hm)
noncomputable def IB (K:α3):Sp:=fun vs H Q _=>∃(a:Addr) (ns:α2) (c:Int) (L:Nat),vs=[.ref a,.int c,.int L]/\SqL K H a (ns.map V.int)/\0<=c/\c<=1000/\1<=L/\L<=6/\∀h marks ways H',Same H H'->Bc K H' h L marks ways->Wf L marks ways->marks.length<=4->Q (.ref h) H'
theorem F3   (F:Fun K "_law_house_by" "_law_house_by" Bp f fd)(T:Txt mg)
  (Z:Exs K mg C_j2 C_j1 C_j4)
   (q_jq:Cal P w K mg base CX0 1 "_law_draw" Dr ["flow","k","many"] (Nv K) GY FO)
  : FnOk P w K mg base CX0 2 f fd ["flow","at","letters"] (IB K):=by
 refine F.ok AU (fun vs H Q E h=>?_) (fun cdv A outer s H vs Q E hr h=>?_)
 ·obtain⟨a,ns,c,L,rfl,_⟩:=h;rfl
 ·obtain⟨a,ns,c,L,rfl,hs,c0,c1,hL1,hL6,k⟩:=h
  have hl:=Au
  refine⟨_,(Ac (EI (i:=3) AU.nd rfl (Or.inr rfl) (Av (opD0 AN) Ae (Ak q_jq hr.d AF (Aa (pvD 0) (Aa (pvD 1) (Aa Ae Ad))))))
   (Ac (Aj (i:=4) AU.nd (A8 Ad))
   (Ac (Aj (i:=5) AU.nd (A8 Ad))
   (Ac (A0 jC_ rfl (Bn rfl T.range (Aa (pvD 3) Ad)) (As (i:=6) AU.nd rfl (Or.inl rfl))
   (Ac (EI (i:=7) AU.nd rfl (Or.inr rfl) (Av (opD0 AN) (Av (opD0 AN) (pvD 1) Ae) (Av (opD IS) (pvD 6) Ae)))
   (Ac (Aj (i:=8) AU.nd (Ak q_jq hr.d AF (Aa (pvD 0) (Aa (pvD 7) (Aa Ae Ad)))))
   (DS (AR (ptT (Ap (opE C3) (Av (opD Bo) (pvD 8) Ae) Ae (Ar _)))
   (Af (AM (B2 jt_ jz_ jA_ AA (pvD 4) (Aa Ae Ad))))
   (Af (AM (B2 jt_ jz_ jA_ AA (pvD 4) (Aa (Av (opD0 AN) Ae (Av (opD DM) (pvD 8) Ae)) Ad)))))
   (Af (AM (B2 jt_ jz_ jA_ AA (pvD 5) (Aa (AJ AG rfl T.tuple jO_ (Aa (Ia rfl (DR rfl) (cp:=Dd) ⟨⟨rfl,rfl⟩,⟨⟨rfl,rfl⟩,⟨⟨rfl,rfl⟩,True.intro⟩⟩⟩ (Bn rfl T.range (Aa (pvD 2) Ad)) (fun _ _ _ _=>(As (i:=0) Ef rfl (Or.inl rfl))) (fun _ _ _ _=>FH) (fun _ _ _ _=>(Ak q_jq hr.d AF (Aa (pvD 1) (Aa (Av (opD0 AN) (Av (opD0 AN) (pvD 3) Ae) (pvD 0)) (Aa (pvD 2) Ad)))))) Ad)) Ad))))))))
   (Af (Aw (AL (Aa (pvD 2) (Aa (AJ AG rfl T.tuple jO_ (Aa (pvD 4) Ad)) (Aa (AJ AG rfl T.tuple jO_ (Aa (pvD 5) Ad)) Ad)))))))))),?_⟩
  walk_at "rd"
  refine⟨a,ns,c,4,rfl,hs,c0,by lia,by lia,fun r0 r1 r2=>?_⟩
  obtain⟨n,hn,hn1,hn4⟩:∃n:Nat,1+r0=(n:Int)/\1<=n/\n<=4:=⟨(1+r0).toNat,by lia,by lia,by lia⟩
  refine⟨r0,rfl,?_⟩
  rw[hn]
  refine⟨by lia,fun pm hpm=>⟨by lia,fun pw hpw=>⟨by lia,by lia,?_⟩⟩⟩
  rw[ju_]
  have hpp:pw≠pm:=(Al hpw).2
  have hpw0:H pw=none:=(Al hpw).1
  obtain⟨Pv,hPv⟩:∃Pv:Nat->St->Hp->Prop,∀i σ' H',Pv i σ' H'↔(∃(ms:α2) (ways:α1) (o1 o2 o3:Option V),Same H H'/\H' pm=some (.lst (ms.map V.int))/\DH K H' pw ways/\ms.length=i/\ways.length=i/\(∀m∈ms,0<=m/\m<=1000000000)/\(∀row∈ways,row.length=L/\∀x∈row,0<=x/\x<(n:Int))/\σ'=[some (.ref a),some (.int c),some (.int L),some (.int n),some (.ref pm),some (.ref pw),o1,o2,o3]):=⟨_,fun _ _ _=>j2_⟩
  refine forR Pv ((hPv _ _ _).mpr ⟨[],[],none,none,none,(Same.new hpm).newT hpw,Same.new hpw _ _ Ab,DH.nil Ab,rfl,rfl,by simp,by simp,rfl⟩) (fun i σ2 H2 hi h2=>?_) (fun σ2 H2 h2=>?_)
  ·obtain⟨ms,ways,o1,o2,o3,s2,hM,hW,hml,hwl,hmr,hwr,rfl⟩:=(hPv _ _ _).mp h2
   rw[xa_]
   walk_at "rd"
   refine⟨.inr ⟨by lia,by lia⟩,?_⟩
   have hf:0<=c+1+(i:Int)*7/\c+1+(i:Int)*7<=2000:=by lia
   generalize c+1+(i:Int)*7=fi at hf ⊢
   refine⟨a,ns,fi,4000000000,rfl,s2.seq hs,by lia,by lia,by lia,fun mk m0 m1=>?_⟩
   obtain⟨R,hR⟩:∃R:St->Hp->Prop,∀σ' H',R σ' H'↔(∃m:Int,0<=m/\m<=1000000000/\H'=upd H2 pm (.lst ((ms++[m]).map V.int))/\σ'=[some (.ref a),some (.int c),some (.int L),some (.int n),some (.ref pm),some (.ref pw),some (.int i),some (.int fi),some (.int mk)]):=⟨_,fun _ _=>j2_⟩
   refine⟨R,?_,fun σ3 H3 h3=>?_⟩
   ·walk_at "rd"
    refine⟨by decide,ite2 (fun _=>?_) (fun _=>?_)⟩
    ·refine⟨.inl ⟨rfl,_,SqL.of hM⟩,_,hM,by rw[jd_];lia,(hR _ _).mpr ⟨0,by lia,by lia,by simp,rfl⟩⟩
    ·refine⟨.inl ⟨rfl,_,SqL.of hM⟩,⟨by decide,by decide⟩,_,hM,by rw[jd_];lia,(hR _ _).mpr ⟨1+mk / 4,by lia,by lia,by simp,rfl⟩⟩
   obtain⟨m,mm0,mm1,rfl,rfl⟩:=(hR _ _).mp h3
   have s3:Same H (upd H2 pm (.lst ((ms++[m]).map V.int))):=s2.over hpm
   have hW3:=hW.off hM (ys:=(ms++[m]).map V.int) hpp
   have hM3:upd H2 pm (.lst ((ms++[m]).map V.int)) pm=some (.lst ((ms++[m]).map V.int)):=Ab
   generalize upd H2 pm (.lst ((ms++[m]).map V.int))=H3 at s3 hW3 hM3
   obtain⟨us,hu1,_⟩:=id hW3
   walk_at "rd"
   refine⟨.inl ⟨rfl,_,SqL.of hu1⟩,by lia,by lia,?_⟩
   rw[ju_]
   obtain⟨Pc,hPc⟩:∃Pc:Nat->List V->St->Hp->Prop,∀j ys σ4 H4,Pc j ys σ4 H4↔(H4=H3/\∃(row:α2) (o:Option V),ys=row.map V.int/\row.length=j/\(∀x∈row,0<=x/\x<(n:Int))/\σ4=[o,some (.ref a),some (.int n),some (.int fi)]):=⟨_,fun _ _ _ _=>j2_⟩
   refine Og Pc ((hPc _ _ _ _).mpr ⟨rfl,[],none,rfl,rfl,(fun x hx=>by cases hx),rfl⟩) s!"" (fun j ys σ4 H4 _ h4=>?_) (fun j ys σ4 H4 hj h4=>?_) (fun ys σ4 H4 h4 D hD=>?_)
   ·obtain⟨_,row,o,rfl,hrl,_⟩:=(hPc _ _ _ _).mp h4
    rw[jd_];lia
   ·obtain⟨rfl,row,o,rfl,hrl,hrr,rfl⟩:=(hPc _ _ _ _).mp h4
    rw[xa_]
    walk_at "rd"
    refine⟨a,ns,fi+1+j,n,rfl,s3.seq hs,by lia,by lia,by lia,fun x x0 x1=>(hPc _ _ _ _).mpr ⟨rfl,row++[x],_,by simp,by simp[hrl],fun z hz'=>?_,rfl⟩⟩
    rcases jj_.mp hz' with h|h
    ·exact hrr z h
    ·rw[jb_.mp h];exact⟨x0,x1⟩
   obtain⟨rfl,row,o4,rfl,hrl,hrr,rfl⟩:=(hPc _ _ _ _).mp h4
   refine⟨D,rfl,_,.inl ⟨SqL.of Ab,fun t ht=>?_⟩⟩
   have sDt:=(Same.new hD (o:=.lst (row.map V.int))).newT ht (o:=.tup (row.map V.int))
   obtain⟨xs,e1,e2,e3⟩:=(hW3.mono sDt).push (w:=row) (t:=t) (SqT.of Ab)
   refine⟨xs,e1,by lia,(hPv _ _ _).mpr ⟨ms++[m],ways++[row],_,_,_,(s3.trans sDt).over hpw0,by rw[Ag (qf_ hpp)];exact sDt _ _ hM3,e3,by simp[hml],by simp[hwl],fun z hz'=>?_,fun r hr'=>?_,rfl⟩⟩
   ·rcases jj_.mp hz' with h|h
    ·exact hmr z h
    ·rw[jb_.mp h];exact⟨mm0,mm1⟩
   ·rcases jj_.mp hr' with h|h
    ·exact hwr r h
    ·rw[jb_.mp h];exact⟨hrl,hrr⟩
  ·obtain⟨ms,ways,o1,o2,o3,s2,hM,hW,hml,hwl,hmr,hwr,rfl⟩:=(hPv _ _ _).mp h2
   walk_at "rd"
   refine⟨_,.inl ⟨SqL.of hM,fun t1 ht1=>?_⟩⟩
   obtain⟨ys,hy1,hrw⟩:=(hW.mono (Same.new ht1 (o:=.tup (ms.map V.int)))).rows
   refine⟨ys,.inl ⟨SqL.of hy1,fun t2 ht2=>⟨by lia,fun hh hhh=>?_⟩⟩⟩
   exact k hh ms ways _ (((s2.newT ht1).newT ht2).newT hhh) ⟨t1,t2,SqT.of Ab,((Same.new ht2).newT hhh).seqT (SqT.of Ab),(hrw t2 ht2).mono (Same.new hhh)⟩
    ⟨by lia,by lia,by lia,by lia,by lia,fun row hr'=>⟨by have:=(hwr row hr').1;lia,fun x hx=>by have:=(hwr row hr').2 x hx;lia⟩,hmr⟩ s!""
noncomputable def IC (K:α3):Sp:=fun vs H Q _=>∃(a:Addr) (ns:α2) (p h:Nat),vs=[.ref a,.int p,.int h]/\SqL K H a (ns.map V.int)/\1<=p/\1<=h/\h<=3/\p+h<=6/\∀w xs hs H',Same H H'->CZ K H' w p xs hs->hs.length=h->WfW (p+h) hs->(∀r∈hs,r.2.1.length<=4)->Q (.ref w) H'
theorem F4   (F:Fun K "_law_works_by" "_law_works_by" Bq f fd)(T:Txt mg)
  (Z:Exs K mg C_j2 C_j1 C_j4)
   (q_jb:Cal P w K mg base CX0 2 "_law_house_by" Bp ["flow","at","letters"] (IB K) CJ Ce)
  : FnOk P w K mg base CX0 3 f fd ["flow","plain","helpers"] (IC K):=by
 refine F.ok F1 (fun vs H Q E h=>?_) (fun cdv A outer s H vs Q E hr h=>?_)
 ·obtain⟨a,ns,p,h,rfl,_⟩:=h;rfl
 ·obtain⟨a,ns,p,h,rfl,hs,hp1,hh1,hh3,hph,k⟩:=h
  have hl:=Au
  refine⟨_,(Af (Aw (AL (Aa (pvD 1) (Aa (AJ AG rfl T.tuple jO_ (Aa (Ia rfl (DR rfl) (cp:=De) ⟨⟨rfl,rfl⟩,⟨⟨rfl,rfl⟩,⟨⟨rfl,rfl⟩,True.intro⟩⟩⟩ (Bn rfl T.range (Aa (pvD 2) Ad)) (fun _ _ _ _=>(As (i:=0) Eg rfl (Or.inl rfl))) (fun _ _ _ _=>FH) (fun _ _ _ _=>(Ak q_jb hr.d AF (Aa (pvD 1) (Aa (Av (opD IS) Ae (pvD 0)) (Aa (Av (opD0 AN) (pvD 2) (pvD 3)) Ad)))))) Ad)) Ad))))),?_⟩
  walk_at "rd"
  refine⟨by lia,by lia,?_⟩
  rw[ju_]
  obtain⟨Pc,hPc⟩:∃Pc:Nat->List V->St->Hp->Prop,∀j ys σ4 H4,Pc j ys σ4 H4↔(∃(hs:List Hus) (o:Option V),Same H H4/\HsL K H4 ys hs/\hs.length=j/\WfW (p+h) hs/\(∀r∈hs,r.2.1.length<=4)/\σ4=[o,some (.ref a),some (.int p),some (.int h)]):=⟨_,fun _ _ _ _=>j2_⟩
  refine Og Pc ((hPc _ _ _ _).mpr ⟨[],none,Same.refl _,HsL.nil,rfl,fun r hr'=>(by cases hr'),fun r hr'=>(by cases hr'),rfl⟩) s!"" (fun j ys σ4 H4 _ h4=>?_) (fun j ys σ4 H4 hj h4=>?_) (fun ys σ4 H4 h4 D hD=>?_)
  ·obtain⟨hs',o,_,hH,hlen,_⟩:=(hPc _ _ _ _).mp h4
   rw[hH.1];lia
  ·obtain⟨hs',o,s4,hH,hlen,hwf,h4',rfl⟩:=(hPc _ _ _ _).mp h4
   rw[xa_]
   walk_at "rd"
   refine⟨.inl ⟨by lia,by lia⟩,a,ns,29*j,p+h,by simp,s4.seq hs,by lia,by lia,by lia,by lia,fun hh marks ways H5 s5 hhh wf hm4=>(hPc _ _ _ _).mpr ⟨hs'++[(((p+h:Nat):Int),marks,ways)],_,s4.trans s5,(hH.mono s5).snoc hhh,by simp[hlen],fun r hr'=>?_,fun r hr'=>?_,rfl⟩⟩
   ·rcases jj_.mp hr' with h|h
    ·exact hwf r h
    ·rw[jb_.mp h];exact⟨by simp,by simpa using wf⟩
   ·rcases jj_.mp hr' with h|h
    ·exact h4' r h
    ·rw[jb_.mp h];exact hm4
  ·obtain⟨hs',o,s4,hH,hlen,hwf,h4',rfl⟩:=(hPc _ _ _ _).mp h4
   refine⟨D,rfl,_,.inl ⟨SqL.of Ab,fun t ht=>⟨by lia,fun w' hw'=>?_⟩⟩⟩
   have s5:=((Same.new hD (o:=.lst ys)).newT ht (o:=.tup ys)).newT hw' (o:=.tup [.int p,.ref t])
   exact k w' ys hs' _ (s4.trans s5) ⟨t,SqT.of Ab,(Same.new hw').seqT (SqT.of Ab),hH.mono s5⟩ hlen hwf h4'
noncomputable def K2 (K:α3):Sp:=fun vs H Q _=>∃(h a:Addr) (L:Int) (marks:α2) (ways:α1) (ws:α2),vs=[.ref h,.ref a]/\Bc K H h L marks ways/\Wf L marks ways/\H a=some (.lst (ws.map V.int))/\isW L ws=true/\Q (.int (OF marks (Sq ways ws))) H
theorem Hj   (F:Fun K "_law_answer" "_law_answer" Cv f fd)(T:Txt mg)
  (Z:Exs K mg C_j2 C_j1 C_j4)
  : FnOk P w K mg base CX0 1 f fd ["house","word"] (K2 K):=by
 refine F.ok BZ (fun vs H Q E h=>?_) (fun cdv A outer s H vs Q E hr h=>?_)
 ·obtain⟨h,a,L,marks,ways,ws,rfl,_⟩:=h;rfl
 ·obtain⟨h,a,L,marks,ways,ws,rfl,hh,wf,ha,hv,k⟩:=h
  have hn1:=wf.n1
  refine⟨_,(Ac (Aj (i:=2) BZ.nd Ae)
   (Ac (A0 jC_ rfl (BI (pvD 1)) (As (i:=3) BZ.nd rfl (Or.inl rfl))
   (Af (Aj (i:=2) BZ.nd (Ah (ixTD Am) (Ah (ixTD Am) (Ah (ixTD Am) (pvD 0) Ae) (pvD 2)) (pvD 3)))))
   (Af (Aw (Ah (ixTD Am) (Ah (ixTD Am) (pvD 0) Ae) (pvD 2)))))),?_⟩
  walk_at "rd"
  refine⟨⟨_,SqL.of ha⟩,forL (xs:=ws.map V.int) (fun i σ2 H2=>H2=H/\∃o,σ2=[some (.ref h),some (.ref a),some (.int (DI ways 0 (ws.take i))),o]) ⟨rfl,none,by simp[DI]⟩ (fun i σ2 H2 _ h=>by rw[h.1];exact SqL.of ha) (fun i x σ2 H2 hx h=>?_) (fun σ2 H2 h=>?_)⟩
  ·obtain⟨rfl,o,rfl⟩:=h
   obtain⟨n,hn,rfl⟩:=A1 hx
   have hin:=B8.mp hv n (jl_ hn)
   have hwk:=Ii wf (ws.take i) (Ox hv i) (show (0:Int)<=0 by lia) s!""
   obtain⟨row,g,r1,r2,r3,r4,r5⟩:=wf.step hwk.1 hwk.2 hin.1 hin.2
   obtain⟨m,wv,q1,q2,q3⟩:=id hh
   obtain⟨xs,t,z1,z2,z3⟩:=q3.atZ hwk.1 r1
   walk_at "rd"
   refine⟨_,q1,_,rfl,?_⟩
   walk_at "rd"
   refine⟨_,z1,_,z2,?_⟩
   walk_at "rd"
   refine⟨_,z3,_,B9 hin.1 r2,?_⟩
   rw[Lr hn,r3]
   exact⟨rfl,_,rfl⟩
  ·obtain⟨rfl,o,rfl⟩:=h
   rw[jd_,jL_]
   obtain⟨m,wv,q1,q2,q3⟩:=id hh
   have wk:=Ii wf ws hv (show (0:Int)<=0 by lia) s!""
   walk_at "rd"
   exact⟨_,q1,_,rfl,m,rfl,_,q2,_,OG wk.1 wk.2,k⟩
theorem ID (d:Nat)(e:Int):(List.replicate d [V.int e]).flatten=(List.replicate d e).map V.int:=by
 induction d with
 |zero=>rfl
 |succ d ih=>rw[qy_,xm_,ih,qy_];rfl
noncomputable def K3 (K:α3):Sp:=fun vs H Q _=>∃(a:Addr) (ns:α2) (p h:Int),vs=[.ref a,.int p,.int h]/\SqL K H a (ns.map V.int)/\ns.length<=200/\1<=p/\1<=h/\∀(l:Addr) (row:α2) (H':Hp),Same H H'->H' l=some (.lst (row.map V.int))->row.length<=2*ns.length->AI p (p+h) row 0=true->Q (.ref l) H'
theorem Ju   (F:Fun K "_law_nest" "_law_nest" Dq f fd)(T:Txt mg)
  (Z:Exs K mg C_j2 C_j1 C_j4)
  : FnOk P w K mg base CX0 1 f fd ["flow","plain","helpers"] (K3 K):=by
 refine F.ok Bd (fun vs H Q E h=>?_) (fun cdv A outer s H vs Q E hr h=>?_)
 ·obtain⟨a,ns,p,h,rfl,_⟩:=h;rfl
 ·obtain⟨a,ns,p,h,rfl,ha,hz,hp,hh,k⟩:=h
  have hln:=Au
  refine⟨_,(Ac (Aj (i:=3) Bd.nd (A8 Ad))
   (Ac (Aj (i:=4) Bd.nd Ae)
   (Ac (A0 jC_ rfl (BI (pvD 0)) (As (i:=5) Bd.nd rfl (Or.inl rfl))
   (Ac (Aj (i:=6) Bd.nd (Av (opD Bo) (pvD 5) (Av (opD0 AN) (Av (opD0 AN) (pvD 1) (pvD 2)) Ae)))
   (DS (AR (PW.pt (Ho (ptT (Ap (opE C3) (pvD 6) (Av (opD0 AN) (pvD 1) (pvD 2)) (Ar _))) (Fm (ptT (Ap (opE C3) (pvD 4) Ae (Ar _))))))
   (Af (Aj (i:=6) Bd.nd (Av (opD Bo) (Av (opD DM) (pvD 5) Ae) (pvD 1))))
   Ax)
   (DS (AR (ptT (Ap (opE C3) (pvD 6) (Av (opD0 AN) (pvD 1) (pvD 2)) (Ar _)))
   (Af (Aj (i:=4) Bd.nd (Av (opD0 Gq) (pvD 4) Ae)))
   (Af (AR (ptT (Ap (opD0 LU) (pvD 6) (pvD 1) (Ar _)))
   (Af (Aj (i:=4) Bd.nd (Av (opD0 AN) (pvD 4) Ae)))
   Ax)))
   (Af (AM (B2 jt_ jz_ jA_ AA (pvD 3) (Aa (pvD 6) Ad))))))))
   (Af (Aw (Av RP (pvD 3) (Av Ja (A8 (Aa (Av (opD0 AN) (pvD 1) (pvD 2)) Ad)) (pvD 4)))))))),?_⟩
  walk_at "rd"
  refine⟨by lia,fun q hq=>?_⟩
  have s0:=Same.new hq (o:=.lst [])
  refine⟨⟨_,s0.seq ha⟩,?_⟩
  obtain⟨Pv,hPv⟩:∃Pv:Nat->St->Hp->Prop,∀i σ' H',Pv i σ' H'↔(∃(row:α2) (d:Nat) (o1 o2:Option V),Same H H'/\H' q=some (.lst (row.map V.int))/\row.length=i/\d<=i/\(∀rest,AI p (p+h) (row++rest) 0=AI p (p+h) rest d)/\σ'=[some (.ref a),some (.int p),some (.int h),some (.ref q),some (.int d),o1,o2]):=⟨_,fun _ _ _=>j2_⟩
  refine forL (xs:=ns.map V.int) Pv ((hPv _ _ _).mpr ⟨[],0,none,none,s0,Ab,rfl,by lia,fun _=>rfl,rfl⟩) (fun i σ2 H2 _ h2=>by obtain⟨_,_,_,_,s2,_⟩:=(hPv _ _ _).mp h2;exact s2.seq ha) (fun i x σ2 H2 hx h2=>?_) (fun σ2 H2 h2=>?_)
  ·obtain⟨row,d,o1,o2,s2,hq2,hrl,hd,hnr,rfl⟩:=(hPv _ _ _).mp h2
   obtain⟨c,hc,rfl⟩:=A1 hx
   have hi:=(jc_.mp hc).1
   walk_at "rd"
   refine⟨by lia,?_⟩
   have g0:=qe_ c (show p+h+1≠0 by lia)
   have g1:=j0_ c (show 0<p+h+1 by lia)
   have f0:=qe_ (c / 13) (show p≠0 by lia)
   have f1:=j0_ (c / 13) (show 0<p by lia)
   generalize c%(p+h+1)=sg at g0 g1 ⊢
   obtain⟨R,hR⟩:∃R:St->Hp->Prop,∀σ3 H3,R σ3 H3↔(H3=H2/\∃sg:Int,0<=sg/\sg<=p+h/\(sg=p+h->d≠0)/\σ3=[some (.ref a),some (.int p),some (.int h),some (.ref q),some (.int d),some (.int c),some (.int sg)]):=⟨_,fun _ _=>j2_⟩
   obtain⟨R2,hR2⟩:∃R:St->Hp->Prop,∀σ3 H3,R σ3 H3↔(H3=H2/\∃(sg:Int) (d':Nat),d'<=i+1/\(∀rest,AI p (p+h) ((row++[sg])++rest) 0=AI p (p+h) rest d')/\σ3=[some (.ref a),some (.int p),some (.int h),some (.ref q),some (.int d'),some (.int c),some (.int sg)]):=⟨_,fun _ _=>j2_⟩
   refine⟨R,?_,fun σ3 H3 h3=>⟨R2,?_,fun σ4 H4 h4=>?_⟩⟩
   ·walk_at "rd"
    refine ite2 (fun e=>ite2 (fun e2=>⟨⟨by decide,by decide⟩,by lia,?_⟩) (fun e2=>?_)) (fun e=>?_)
    ·exact (hR _ _).mpr ⟨rfl,_,f0,by lia,fun z=>by lia,rfl⟩
    ·exact (hR _ _).mpr ⟨rfl,_,g0,by lia,fun _=>by lia,rfl⟩
    ·exact (hR _ _).mpr ⟨rfl,_,g0,by lia,fun z=>absurd z e,rfl⟩
   ·obtain⟨rfl,sg,k0,k1,k2,rfl⟩:=(hR _ _).mp h3
    have sn:=Nest.nestR_snoc hnr k0 k1 k2
    walk_at "rd"
    refine ite2 (fun e=>(hR2 _ _).mpr ⟨rfl,sg,d-1,by lia,?_,?_⟩) (fun e=>ite2 (fun e2=>(hR2 _ _).mpr ⟨rfl,sg,d+1,by lia,?_,?_⟩) (fun e2=>(hR2 _ _).mpr ⟨rfl,sg,d,by lia,?_,rfl⟩))
    ·simpa only[if_pos e] using sn
    ·have:=k2 e
     rw[show ((d-1:Nat):Int)=(d:Int)-1 from by lia]
    ·simpa only[if_neg e,if_pos e2] using sn
    ·rw[show ((d+1:Nat):Int)=(d:Int)+1 from by lia]
    ·simpa only[if_neg e,if_neg e2] using sn
   ·obtain⟨rfl,sg,d',hd',hsn,rfl⟩:=(hR2 _ _).mp h4
    walk_at "rd"
    refine⟨.inl ⟨rfl,_,SqL.of hq2⟩,_,hq2,by rw[jd_];lia,(hPv _ _ _).mpr ⟨row++[sg],d',_,_,s2.over hq,by rw[Ab];simp,by simp[hrl],by lia,hsn,rfl⟩⟩
  ·obtain⟨row,d,o1,o2,s2,hq2,hrl,hd,hnr,rfl⟩:=(hPv _ _ _).mp h2
   rw[jd_]at hrl hd
   walk_at "rd"
   refine⟨by lia,fun p1 hp1=>⟨_,Ab,by lia,by lia,by simp;lia,fun p2 hp2=>?_⟩⟩
   have sp:=(Same.new hp1 (o:=.lst [V.int (p+h)])).newT hp2 (o:=.lst (List.replicate (d:Int).toNat [V.int (p+h)]).flatten)
   refine⟨_,sp _ _ hq2,_,Ab,?_,fun p3 hp3=>?_⟩
   ·rw[ju_,ID,jd_,jd_,qA_];lia
   ·refine k p3 (row++List.replicate d (p+h)) _ ((s2.trans sp).newT hp3) ?_ (by rw[jf_,qA_];lia) ?_
    ·rw[Ab,ju_,ID,jI_]
    ·rw[hnr]
     have:=Nest.nestR_ends (p:=p) (e:=p+h) s!"" d [] 0
     rw[q5_,Nat.zero_add]at this
     rw[this];rfl
open Nest (outW)
noncomputable def accB (hs:List Hus)(p:Int)(j:Int)(ws:α2):Bool:=((prtS p (p+hs.length) ws).1++[(j,outW p (p+hs.length) ws)]).all (okT hs)
theorem K4   (h0:0<=q.1)(h1:q.1<hs.length):okT hs q=true↔A80 hs q.1 q.2:=by
 have hj:q.1.toNat<hs.length:=by lia
 have e:hs[q.1.toNat]?=some hs[q.1.toNat]:=ja_ hj
 have e2:hs.getD q.1.toNat (0,[],[])=hs[q.1.toNat]:=by rw[js_,e];rfl
 unfold okT ansH
 rw[e2,jN_]
 constructor
 ·intro h
  exact⟨_,e,h0,h⟩
 ·rintro⟨r,a,_,b⟩
  rw[e]at a
  cases a
  exact b
theorem Qf  (hh:1<=h)  (hn:AI p (p+h) row 0=true):(∀q∈(prtS p (p+h) row).1,0<=q.1/\q.1<h/\q.2.length<=row.length/\∀x∈q.2,0<=x/\x<p+h)/\(outW p (p+h) row).length<=row.length/\∀x∈outW p (p+h) row,0<=x/\x<p+h:=by
 have hok:=Nest.partsW_ok hh hn
 have hps:(prtS p (p+h) row).1++[(0,outW p (p+h) row)]=GI p (p+h) row:=by rw[<-(Nest.parts_due hn).2];rfl
 rw[<-hps]at hok
 have ho:=hok (0,outW p (p+h) row) (by simp)
 exact⟨fun q hq=>hok q (jr_ _ hq),ho.2.2⟩
theorem IE {hs:List Hus}{p:Nat}{j:Int}{ws:α2}(hh:1<=hs.length)(j0:0<=j)(j1:j<hs.length)(hn:AI (p:Int) ((p:Int)+hs.length) ws 0=true):accB hs p j ws=true↔N80.Acc (A80 hs) p ((p:Int)+hs.length) j ws:=by
 have hp:(0:Int)<=(p:Int):=by lia
 have hpe:(p:Int)<=(p:Int)+hs.length:=by lia
 obtain⟨k1,_⟩:=Qf (h:=hs.length) s!"" hn
 unfold accB
 rw[List.all_append,qn_,xY_]
 constructor
 ·rintro⟨a,b⟩
  refine⟨(N80.nst_iff hp hpe).mp hn,fun q hq=>?_,?_⟩
  ·have:=k1 q hq
   exact (K4 this.1 this.2.1).mp (a q hq)
  ·rw[zj_,List.all_nil,Bool.and_true]at b
   exact (K4 (q:=(j,_)) j0 j1).mp b
 ·intro h
  refine⟨fun q hq=>?_,?_⟩
  ·have:=k1 q hq
   exact (K4 this.1 this.2.1).mpr (h.o q hq)
  ·rw[zj_,List.all_nil,Bool.and_true]
   exact (K4 (q:=(j,_)) j0 j1).mpr h.a
noncomputable def K5 (K:α3):Sp:=fun vs H Q _=>∃(t:Bool) (h a:Addr) (p:Nat) (j:Int) (xs:List V) (hs:List Hus) (ws:α2),vs=[.ref h,.ref a,.int j]/\CZ K H h p xs hs/\WfW (p+hs.length) hs/\1<=hs.length/\0<=j/\j<hs.length/\SqB K H t a (ws.map V.int)/\ws.length<=4000/\AI (p:Int) ((p:Int)+hs.length) ws 0=true/\∀H',Same H H'->Q (.bl (accB hs p j ws)) H'
theorem F5   (F:Fun K "_law_accepted" "_law_accepted" BO f fd)(T:Txt mg)
  (Z:Exs K mg C_j2 C_j1 C_j4)
   (q_jx:Cal P w K mg base CX0 1 "_law_parts" CW ["plain","helpers","signs","top"] (GX K) FP E2)
   (q_jr:Cal P w K mg base CX0 1 "_law_answer" Cv ["house","word"] (K2 K) E3 Em)
  : FnOk P w K mg base CX0 2 f fd ["works","signs","top"] (K5 K):=by
 refine F.ok Cb (fun vs H Q E h=>?_) (fun cdv A outer s H vs Q E hr h=>?_)
 ·obtain⟨t,h,a,p,j,xs,hs,ws,rfl,_⟩:=h;rfl
 ·obtain⟨tb,h,a,p,j,xs,hs,ws,rfl,hW,wf,hs1,j0,j1,ha,hz,hv,k⟩:=h
  have hln:=Au
  refine⟨_,(Ac (A0 jC_ rfl (BI (Ak q_jx hr.d AF (Aa (Ah (ixTD Am) (pvD 0) Ae) (Aa (Aq (lenD Ai) (by rfl) T.len jD_ (Aa (Ah (ixTD Am) (pvD 0) Ae) Ad)) (Aa (pvD 1) (Aa (pvD 2) Ad)))))) (FF rfl (AZ (As (i:=3) Cb.nd rfl (Or.inl rfl)) (AZ (As (i:=4) Cb.nd rfl (Or.inl rfl)) DL)))
   (Af (AR (ptT (Ap (opE C3) (Ak q_jr hr.d AF (Aa (Ah (ixTD Am) (Ah (ixTD Am) (pvD 0) Ae) (pvD 3)) (Aa (pvD 4) Ad))) Ae (Ar _)))
   (Af (Aw Di))
   Ax)))
   (Af (Aw Di))),?_⟩
  obtain⟨y,h1,h2,h3⟩:=id hW
  walk_at "rd"
  refine⟨_,h1,_,rfl,_,h1,_,rfl,y,rfl,_,.inr h2,tb,p,hs.length,j,a,ws,by rw[h3.1],ha,by lia,hv,fun l ts H1 s1 hl hP hlen=>?_⟩
  obtain⟨k1,k2⟩:=Qf (h:=hs.length) s!"" hv
  have hok:∀q∈(prtS (p:Int) ((p:Int)+hs.length) ws).1++[(j,outW (p:Int) ((p:Int)+hs.length) ws)],0<=q.1/\q.1<hs.length/\q.2.length<=ws.length/\∀x∈q.2,0<=x/\x<(p:Int)+hs.length:=fun q hq=>by
   rcases jj_.mp hq with hq|hq
   ·exact k1 q hq
   ·rw[jb_.mp hq];exact⟨j0,j1,k2⟩
  unfold accB at k
  generalize (prtS (p:Int) ((p:Int)+hs.length) ws).1++[(j,outW (p:Int) ((p:Int)+hs.length) ws)]=ps at hP hok k
  refine⟨l,rfl,⟨_,SqL.of hl⟩,?_⟩
  obtain⟨Pv,hPv⟩:∃Pv:Nat->St->Hp->Prop,∀i σ' H',Pv i σ' H'↔(H'=H1/\(ps.take i).all (okT hs)=true/\∃o1 o2,σ'=[some (.ref h),some (.ref a),some (.int j),o1,o2]):=⟨_,fun _ _ _=>j2_⟩
  refine forL (xs:=ts) Pv ((hPv _ _ _).mpr ⟨rfl,by simp,none,none,rfl⟩) (fun i σ' H' _ h'=>by rw[((hPv _ _ _).mp h').1];exact SqL.of hl) (fun i x σ' H' hx h'=>?_) (fun σ' H' h'=>?_)
  ·obtain⟨rfl,hall,o1,o2,rfl⟩:=(hPv _ _ _).mp h'
   have hi:i<ps.length:=by rw[<-hP.1];exact (jc_.mp hx).1
   have hri:ps[i]?=some ps[i]:=by simp[hi]
   obtain⟨t,tw,e1,e2,e3⟩:=hP.2 i _ hri
   rw[hx]at e1
   cases e1
   obtain⟨j0,j1,hwl,hwx⟩:=hok _ (jl_ hri)
   obtain⟨y',h1',h2',h3'⟩:=hW.mono s1
   obtain⟨g,f1,f2,f3⟩:=h3'.get wf j0 j1
   walk_at "rd"
   refine⟨_,SqT.of e2,rfl,_,_,rfl,_,_,rfl,rfl,_,h1',_,rfl,y',rfl,_,_,rfl,h2',_,f1,g,tw,_,_,_,ps[i].2,rfl,f2,f3,e3,B8.mpr hwx,rfl,?_⟩
   refine ite2 (fun hm=>?_) (fun hm=>?_)
   ·replace hm:ansH hs ps[i]=0:=V.int.inj hm
    have hf:ps.all (okT hs)=false:=List.all_eq_false.mpr ⟨ps[i],jl_ hri,by simp[okT,hm]⟩
    rw[hf]at k
    exact k _ s1
   ·replace hm:ansH hs ps[i]≠0:=fun z=>hm (qR_ V.int z)
    refine (hPv _ _ _).mpr ⟨rfl,?_,_,_,rfl⟩
    rw[jF_,hri,List.all_append,hall]
    simp[okT,hm]
  ·obtain⟨rfl,hall,o1,o2,rfl⟩:=(hPv _ _ _).mp h'
   rw[hP.1,jL_]at hall
   walk_at "rd"
   rw[hall]at k
   exact k _ s1
noncomputable abbrev LmA (K:α3)(H:Hp):Prop:=LamT (tabP K "around") GQ (Str.ofString "around" ++ ".<locals>.") H
noncomputable def Gs (A:Int->α2->Prop)(p e:Int)(ways:α1)(s0 s:Int)(t:α2):Prop:=N80.Nst p e t/\N80.Okr A p e t/\(Nest.outW p e t).foldl (An ways) s0=s
theorem Gs.one      (h:Gs A p e ways s0 s t)(h':Gs A p e ways s0 s' t):s=s':=h.2.2.symm.trans h'.2.2
theorem Gs.start     : Gs A p e ways s0 s0 []:=⟨.nil,(fun q hq=>nomatch hq),rfl⟩
theorem Gs.step {A:Int->α2->Prop}{p:Nat}{ways:α1}{rs:List (Option (α2))}(hA:∀(i:Nat) r,rs[i]?=some (some r)->N80.Acc A p ((p:Int)+rs.length) (i:Int) r){s0 s:Int}{t:α2}{x:Nat}{v:α2}(h:Gs A p ((p:Int)+rs.length) ways s0 s t)(hv:(blR p rs)[x]?=some (some v)):Gs A p ((p:Int)+rs.length) ways s0 (An ways s (x:Int)) (t++v):=by
 have hp:(0:Int)<=(p:Int):=by lia
 have hpe:(p:Int)<=(p:Int)+rs.length:=by lia
 obtain⟨h1,h2,h3⟩:=h
 rcases D3 hv with ⟨hx,rfl⟩|⟨i,r,rfl,hi,hr,rfl⟩
 ·have hn:N80.Nst (p:Int) ((p:Int)+rs.length) [(x:Int)]:=N80.nst_pl s!"" s!""
  refine⟨h1.app hn,(N80.okr_app hp hpe h1 hn).mpr ⟨h2,N80.okr_pl s!"" s!"" hpe⟩,?_⟩
  rw[(N80.out_app (h1.row hp hpe) (hn.row hp hpe)).2,(N80.out_pl s!"" s!"" hpe).2,jK_,h3];rfl
 ·have ha:=hA i r hr
  have hn:=N80.nst_ca (c:=(p:Int)+i) (e:=(p:Int)+rs.length) s!"" s!"" ha.n
  refine⟨h1.app hn,(N80.okr_app hp hpe h1 hn).mpr ⟨h2,(N80.okr_ca hp hpe s!"" s!"" ha.n).mpr (by rw[show (p:Int)+i-p=i by lia];exact ha)⟩,?_⟩
  rw[(N80.out_app (h1.row hp hpe) (hn.row hp hpe)).2,(N80.out_ca hp s!"" s!"" (ha.n.row hp hpe)).2,jK_,h3]
  show An ways s ((p:Int)+i)=An ways s ((p+i:Nat):Int)
  rw[jQ_]
noncomputable def Gx (bl:List (Option (α2)))(x:Int):Prop:=0<=x/\∃v,bl[x.toNat]?=some (some v)
theorem Kf {bl:List (Option (α2))}{ways:α1}{f:Int->Option (α2)}(hcl:∀s t (x:Nat) v,f s=some t->bl[x]?=some (some v)->∃t',f (An ways s (x:Int))=some t'/\lessW (t++v) t'=false):∀(w:α2) (s:Int),(f s).isSome=true->(∀x∈w,Gx bl x)->(f (w.foldl (An ways) s)).isSome=true
 |[],s,h,_=>h
 |x::w,s,h,hw=>by
  obtain⟨t,ht⟩:=q7_.mp h
  obtain⟨h0,v,hv⟩:=hw x jv_
  obtain⟨t',h1,_⟩:=hcl s t x.toNat v ht hv
  rw[show ((x.toNat:Nat):Int)=x by lia]at h1
  exact Kf hcl w _ (by rw[h1];rfl) (fun y hy=>hw y (jx_ _ hy))
noncomputable def PrL (H:Hp)(ps:List (Addr×α2×α2)):Prop:=∀x∈ps,∃tb tc,H x.1=some (.tup [.ref tb,.ref tc])/\H tb=some (.tup (x.2.1.map V.int))/\H tc=some (.tup (x.2.2.map V.int))
theorem PrL.mono   (h:PrL H ps)(s:TK H H'):PrL H' ps:=fun x hx=>by
 obtain⟨tb,tc,a,b,c⟩:=h x hx
 exact⟨tb,tc,s _ _ a,s _ _ b,s _ _ c⟩
noncomputable def Nw (K:α3):Sp:=fun vs H Q _=>∃(h b:Addr) (L n M B p:Nat) (x:Nat) (marks:α2) (ways:α1) (ys:List V) (rs:List (Option (α2))) (A:Int->α2->Prop),vs=[.ref h,.ref b,.int x]/\Bc K H h L marks ways/\Wf L marks ways/\marks.length=n/\n<=4/\x<L/\SqL K H b ys/\RO H ys (blR p rs)/\(blR p rs).length=L/\2<=B/\M<=2000/\(∀v,some v∈blR p rs->v.length<=M/\N80.Dg B v)/\(∀(i:Nat) r,rs[i]?=some (some r)->N80.Acc A p ((p:Int)+rs.length) (i:Int) r)/\Lm80 K H/\LmA K H/\tabP K "least_row_taken" ≠ tabP K "around" /\
 ∀(o:Option (α2×α2)) v H',SmT H H'->Lm80 K H'->LmA K H'->((o=none/\v=.non) \/ ∃u t ta tb,o=some (u,t)/\v=.ref ta/\(∃tc,SqT K H' ta [.ref tb,.ref tc]/\SqT K H' tb (u.map V.int)/\SqT K H' tc (t.map V.int)))->(∀u t,o=some (u,t)->u.length+M<=M*4/\t.length+M<=M*4/\∃s,Gs A p ((p:Int)+rs.length) ways 0 s u/\∃s',Gs A p ((p:Int)+rs.length) ways (An ways s (x:Int)) s' t/\mk80 marks s'≠0)->(∀u v:α2,(∀y∈u,Gx (blR p rs) y)->(∀y∈v,Gx (blR p rs) y)->mk80 marks ((u++(x:Int)::v).foldl (An ways) 0)≠0->o.isSome=true)->Q v H'
theorem Nx   (F:FunL K mg base "around" "around" Dp f fd)(T:Txt mg)
  (Z:Exs K mg C_j2 C_j1 C_j4)
   (q_jj:Cal P w K mg base CX0 2 "least_rows" B5 ["house","by_letter","start"] (J9 K) D1 Dy)
   (q_j0:Cal P w K mg base CX0 6 "least_row_taken" AH ["house","by_letter","start"] (Ka K) Bb E1)
  : FnOk P w K mg base CX0 10 f fd ["house","by_letter","letter"] (Nw K):=by
 refine F.ok DU (fun vs H Q E h=>?_) (fun cdv hcd A outer s H vs Q E hr h=>?_)
 ·obtain⟨h,b,L,n,M,B,p,x,marks,ways,ys,rs,A,rfl,_⟩:=h;rfl
 ·obtain⟨h,b,L,n,M,B,p,x,marks,ways,ys,rs,A,rfl,hh,wf,hmn,hn4,hxL,hb,hro,hbl,hB,hM,hbv,hA,hL1,hLA,hne,k⟩:=h
  have hl:=Au
  have hn1:=wf.n1
  refine⟨_,(Ac (Aj (i:=3) DU.nd (A8 Ad))
   (Ac (Aj (i:=4) DU.nd (Ak q_jj hr.d AF (Aa (pvD 0) (Aa (pvD 1) (Aa Ae Ad)))))
   (Ac (A0 jC_ rfl (KN (pvD 4)) (As (i:=5) DU.nd rfl (Or.inl rfl))
   (Ac (Aj (i:=6) DU.nd (Ak q_j0 hr.d AF (Aa (pvD 0) (Aa (pvD 1) (Aa (Ah (ixTD Am) (Ah (ixTD Am) (Ah (ixTD Am) (pvD 0) Ae) (pvD 5)) (pvD 2)) Ad)))))
   (Af (AR (ptT (Ap Dm (pvD 6) Ba (Ar _)))
   (Af (AM (B2 jt_ jz_ jA_ AA (pvD 3) (Aa (AL (Aa (Fp (Gz hr) (pvD 4) (pvD 5) (fun _ _=>rfl)) (Aa (pvD 6) Ad))) Ad))))
   Ax))))
   (Af (Aw (Rb (k:=0) (c:=tabC K "around") (P:=tabP K "around") (lp:=GQ) (qual:=Str.ofString "around" ++ ".<locals>.") rfl (hr.mono (by decide)) rfl T.min T.len hcd F.C F.B (Aa (pvD 3) Ad))))))),?_⟩
  obtain⟨tm,tw,q1,q2,q3⟩:=id hh
  walk_at "rd"
  refine⟨by lia,fun fp hfp=>?_⟩
  have s0:=Same.new hfp (o:=.lst [])
  have hRg:∀s,0<=s->s<(n:Int)->0<=An ways s (x:Int)/\An ways s (x:Int)<(n:Int):=fun s h0 h1=>by
   obtain⟨row,g,r1,r2,r3,r4,r5⟩:=wf.step h0 s!"" (show (0:Int)<=(x:Int) by lia) s!""
   lia
  refine⟨h,b,0,L,n,M,B,marks,ways,ys,blR p rs,rfl,by lia,by lia,hh.mono s0,wf,hmn,hn4,s0.seq hb,hro.mono (fun b' xs' e=>s0 _ _ e),hbl,hB,hM,hbv,fun d ks f H1 s1 hdn hBF hBs hcl=>?_⟩
  obtain⟨kvs,e1,e2,e3⟩:=id hBF
  have hkl:=AD n hBs.nd hBs.rg
  have hkn:=e2.len
  refine⟨d,rfl,kvs,.inl e1,fun o H2 hf2 hz2=>?_⟩
  have hfp1:H1 fp=some (.lst []):=s1 _ _ Ab
  have hdfp:d≠fp:=fun z=>by rw[z,hfp1]at e1;cases e1
  have hdH:H d=none:=s0.none hdn
  have s2:Same H H2:=fun c u e=>hz2.1 c u (fun z=>by rw[z,hdH]at e;cases e) (s1 _ _ (s0 _ _ e))
  have ht2:TK H1 H2:=fun t ys e=>hz2.1 t _ (fun z=>by rw[z,e1]at e;cases e) e
  have hfp2:H2 fp=some (.lst []):=hz2.1 fp _ hdfp.symm hfp1
  have hGs:∀s t,f s=some t->Gs A p ((p:Int)+rs.length) ways 0 s t:=hBs.g (Gs A p ((p:Int)+rs.length) ways 0) Gs.start (fun s t y v hg hv=>hg.step hA hv)
  have hL2:Lm80 K H2:=hL1.mono s2
  have hLA2:LmA K H2:=hLA.mono s2
  obtain⟨Pv,hPv⟩:∃Pv:Nat->St->Hp->Prop,∀i σ' H',Pv i σ' H'↔(∃(ps:List (Addr×α2×α2)) (o5 o6:Option V),SmT H H'/\TK H2 H'/\Lm80 K H'/\LmA K H'/\H' d=some (.frz o (.dK kvs))/\H' fp=some (.lst (ps.map fun y=>V.ref y.1))/\PrL H' ps/\ps.length<=i/\(∀y∈ps,y.2.1.length+M<=M*4/\y.2.2.length+M<=M*4/\∃s,Gs A p ((p:Int)+rs.length) ways 0 s y.2.1/\∃s',Gs A p ((p:Int)+rs.length) ways (An ways s (x:Int)) s' y.2.2/\mk80 marks s'≠0)/\(∀s∈ks.take i,∀v:α2,(∀y∈v,Gx (blR p rs) y)->mk80 marks (v.foldl (An ways) (An ways s (x:Int)))≠0->ps ≠ [])/\σ'=[some (.ref h),some (.ref b),some (.int x),some (.ref fp),some (.ref d),o5,o6]):=⟨_,fun _ _ _=>j2_⟩
  refine Tc Pv ((hPv _ _ _).mpr ⟨[],none,none,SmT.of s2,fun _ _ e=>e,hL2,hLA2,hf2,hfp2,(fun y hy=>nomatch hy),jh_ _,(fun y hy=>nomatch hy),(fun s hs=>by simp at hs),rfl⟩) (fun i σ' H' _ h'=>by obtain⟨_,_,_,_,_,_,_,h5,_⟩:=(hPv _ _ _).mp h';exact h5) (fun i kk vv σ3 H3 hk h3=>?_) (fun σ3 H3 h3=>?_)
  ·obtain⟨ps,o5,o6,m3,k3,hL3,hLA3,hd3,hf3,hP3,hpl,hPg,hPc,rfl⟩:=(hPv _ _ _).mp h3
   have hik:i<ks.length:=by rw[<-hkn];exact (jc_.mp hk).1
   have hkk:kk=Sum.inl ks[i]:=by
    have:=qR_ (fun l=>l[i]?) e2
    rw[jw_,jw_,hk,ja_ hik]at this
    exact jH_ this
   subst hkk
   have hsm:ks[i]∈ks:=jB_ hik
   have hsr:=hBs.rg _ hsm
   generalize hse:ks[i]=s at hsm hsr hk ⊢
   have et:ks.take (i+1)=ks.take i++[s]:=by rw[jF_,ja_ hik,hse];rfl
   obtain⟨r,t,f1,f2,f3⟩:∃r t,f s=some r/\valV kvs (Sum.inl s)=some (.ref t)/\H1 t=some (.tup (r.map V.int)):=by
    rcases e3 s with ⟨a,_⟩|⟨r',t',a,b',c'⟩
    ·have:=(hBs.ky s).mp hsm
     rw[a]at this;cases this
    ·exact⟨r',t',a,b',c'⟩
   have hst:=hRg s hsr.1 hsr.2
   obtain⟨row,g,r1,r2,r3,r4,r5⟩:=wf.step hsr.1 s!"" (show (0:Int)<=(x:Int) by lia) s!""
   obtain⟨xs,tr,z1,z2,z3⟩:=q3.atZ hsr.1 r1
   walk_at "rd"
   refine⟨_,m3.tsq q1,_,rfl,tw,rfl,_,s,rfl,m3.tsq z1,_,z2,tr,rfl,_,m3.tsq z3,_,B9 s!"" r2,?_⟩
   rw[<-r3]
   have hh3:Bc K H3 h L marks ways:=Bc.monoQ hh (fun b' ys'=>m3.tsq)
   refine⟨h,b,An ways s (x:Int),L,n,M,B,marks,ways,ys,blR p rs,Gs A p ((p:Int)+rs.length) ways (An ways s (x:Int)),rfl,hst.1,hst.2,hh3,wf,hmn,hn4,m3.lsq hb,hro.mono m3.tk,hbl,hB,hM,hbv,hL3,Gs.start,fun s t y v hg hv=>hg.step hA hv,fun s s' t a1 a2=>Gs.one a1 a2,fun ks4 f4 res v H4 s4 hL4 hBs4 hcl4 hv hr1 hr2=>?_⟩
   obtain⟨ps3,hps3⟩:=hL3.is
   obtain⟨psA,hpsA⟩:=hLA3.is
   have m34:SmT H3 H4:=SmT.ofT s4 hps3
   have hLA4:LmA K H4:=hLA3.monoT s4 hps3 hne.symm
   have m4:=m3.trans m34
   have hf4:=m34.lst hf3
   have k4:TK H2 H4:=fun b' ys' e=>m34.tup (k3 _ _ e)
   have hd4:H4 d=some (.frz o (.dK kvs)):=m34 _ _ (fun _ z=>by cases z) hd3
   have comp:∀v:α2,(∀y∈v,Gx (blR p rs) y)->mk80 marks (v.foldl (An ways) (An ways s (x:Int)))≠0->∃t',res=some t':=fun v hv hm=>by
    have:=Kf hcl4 v (An ways s (x:Int)) (by rw[hBs4.z];rfl) hv
    obtain⟨t1,ht1⟩:=q7_.mp this
    obtain⟨t',h1,_⟩:=hr2 _ t1 ht1 hm
    exact⟨t',h1⟩
   rcases hv with ⟨hv,rfl⟩|⟨t4,ta,hv,rfl,hta⟩
   ·rw[if_neg (by decide)]
    refine (hPv _ _ _).mpr ⟨ps,_,_,m4,k4,hL4,hLA4,hd4,hf4,hP3.mono m34.tk,by lia,hPg,fun s' hs' v hv' hm=>?_,rfl⟩
    rw[et]at hs'
    rcases jj_.mp hs' with hs' | hs'
    ·exact hPc s' hs' v hv' hm
    ·rw[jb_.mp hs']at hm
     obtain⟨t',h1⟩:=comp v hv' hm
     rw[hv]at h1;cases h1
   ·rw[if_pos (by simp)]
    have hgs:=hGs s r f1
    obtain⟨s',g1,g2⟩:=hr1 t4 hv
    have hgt:=hBs4.g (Gs A p ((p:Int)+rs.length) ways (An ways s (x:Int))) Gs.start (fun s t y v hg hv=>hg.step hA hv) s' t4 g1
    have hl1:=(hBs.ln s r f1).1
    have hl2:=(hBs4.ln s' t4 g1).1
    have hk4:=AD n hBs4.nd hBs4.rg
    have b1:=qK_ M (show ks.length<=4 by lia)
    have b2:=qK_ M (show ks4.length<=4 by lia)
    have hdg:DGet H4 d (.int s) (some (.ref t)):=.inl ⟨kvs,Sum.inl s,.inr ⟨o,hd4⟩,rfl,f2.symm⟩
    refine⟨.inl ⟨rfl,_,SqL.of hf4⟩,.ref t,hdg,by lia,fun q hq=>?_⟩
    have sq:=Same.new hq (o:=.tup [.ref t,.ref ta])
    have hfq:=sq _ _ hf4
    refine⟨_,hfq,by rw[jd_];lia,(hPv _ _ _).mpr ⟨ps++[(q,r,t4)],_,_,(m4.same sq).over hfp,?_,?_,?_,?_,?_,?_,by rw[jf_,jq_];lia,fun y hy=>?_,fun s' hs' v hv' hm=>by simp,rfl⟩⟩
    ·exact Np (fun b' ys' e=>sq _ _ (k4 _ _ e)) hfq
    ·exact (hL4.mono sq).off hfq
    ·exact (hLA4.mono sq).off hfq
    ·rw[Ag hdfp];exact sq _ _ hd4
    ·rw[Ab,jI_];rfl
    ·refine PrL.mono (H:=upd H4 q (.tup [.ref t,.ref ta])) (fun y hy=>?_) (Np (fun b' ys' e=>e) hfq)
     rcases jj_.mp hy with hy|hy
     ·exact (hP3.mono (fun b' ys' e=>sq _ _ (m34.tup e))) y hy
     ·rw[jb_.mp hy]
      exact⟨t,ta,Ab,sq _ _ (k4 _ _ (ht2 _ _ f3)),sq _ _ hta⟩
    ·rcases jj_.mp hy with hy|hy
     ·exact hPg y hy
     ·rw[jb_.mp hy]
      exact⟨qG_ hl1 b1,qG_ hl2 b2,s,hgs,s',hgt,g2⟩
  ·obtain⟨ps,o5,o6,m3,k3,hL3,hLA3,hd3,hf3,hP3,hpl,hPg,hPc,rfl⟩:=(hPv _ _ _).mp h3
   rw[hkn,jL_]at hPc
   walk_at "rd"
   obtain⟨psA,hpsA⟩:=hLA3.is
   obtain⟨ps3,hps3⟩:=hL3.is
   refine⟨ps.map (·.1),by rw[xB_];exact SqL.of hf3,fun a ha=>?_,hLA3,fun hz H4 s4 hL4=>?_,fun w H4 s4 hL4 hw=>?_⟩
   ·obtain⟨y,hy,rfl⟩:=qh_.mp ha
    obtain⟨tb,tc,a1,a2,a3⟩:=hP3 y hy
    exact⟨tb,tc,_,_,SqT.of a1,SqT.of a2,SqT.of a3⟩
   ·have hz':ps=[]:=List.map_eq_nil_iff.mp hz
    refine k none .non H4 (m3.trans (SmT.ofT s4 hpsA)) (hL3.monoT s4 hpsA hne) hL4 (.inl ⟨rfl,rfl⟩) (fun u t z=>nomatch z) (fun u v hu hv hm=>?_)
    exfalso
    rw[jK_,qo_]at hm
    have h1:=Kf hcl u 0 (by rw[hBs.z];rfl) hu
    exact hPc _ ((hBs.ky _).mpr h1) v hv hm hz'
   ·obtain⟨y,hy,rfl⟩:=qh_.mp hw
    obtain⟨tb,tc,a1,a2,a3⟩:=hP3 y hy
    have m34:SmT H3 H4:=SmT.ofT s4 hpsA
    exact k (some (y.2.1,y.2.2)) (.ref y.1) H4 (m3.trans m34) (hL3.monoT s4 hpsA hne) hL4 (.inr ⟨y.2.1,y.2.2,y.1,tb,rfl,rfl,tc,SqT.of (m34.tup a1),SqT.of (m34.tup a2),SqT.of (m34.tup a3)⟩) (fun u t z=>by cases z;exact hPg y hy) (fun u v _ _ _=>rfl)
theorem Sd.all  {p B:Nat}  (hS:Sd (A80 hs) p B hs.length rs)(hrl:rs.length=hs.length)  (hj:j<hs.length)  (ha:N80.Acc (A80 hs) p ((p:Int)+hs.length) (j:Int) row):∃t,rs[j]?=some (some t)/\N80.cod B t<=N80.cod B row:=by
 rw[<-hrl]at ha
 obtain⟨r,a1,a2,a3⟩:=N80.least_acc B ha
 have:=N80.cnt_small (b:=B) (show j<rs.length by lia) a3
 obtain⟨t,b1,b2⟩:=hS.l j r s!"" a1 (by rw[<-hrl];exact this)
 exact⟨t,b1,by lia⟩
theorem Gd.all  {p h B:Nat}  (g:Gd A p h B h good)  (hj:j<h)  (ha:N80.Acc A p ((p:Int)+h) (j:Int) row):(p:Int)+j∈good:=by
 obtain⟨r,a1,a2,a3⟩:=N80.least_acc B ha
 exact g.l j r hj a1 (N80.cnt_small (b:=B) hj a3)
noncomputable def Use3 (K:α3)(H:Hp)(u:Addr)(x:α2×α2×α2):Prop:=∃a b c:Addr,SqT K H u [.ref a,.ref b,.ref c]/\SqT K H a (x.1.map V.int)/\SqT K H b (x.2.1.map V.int)/\SqT K H c (x.2.2.map V.int)
theorem Use3.mono {K:α3}    (h:Use3 K H u x)(s:Same H H'):Use3 K H' u x:=by
 obtain⟨a,b,c,h1,h2,h3,h4⟩:=h
 exact⟨a,b,c,s.seqT h1,s.seqT h2,s.seqT h3,s.seqT h4⟩
theorem Use3.off {K:α3}     (h:Use3 K H u x)(hp:H p=some (.lst zs)):Use3 K (upd H p (.lst ys)) u x:=by
 obtain⟨a,b,c,h1,h2,h3,h4⟩:=h
 exact⟨a,b,c,BX hp h1,BX hp h2,BX hp h3,BX hp h4⟩
noncomputable def Cn (p j:Int)(u:α2×α2×α2):α2:=if j=0 then [] else u.1++[p+j]
noncomputable def Bz (e j:Int)(u:α2×α2×α2):α2:=if j=0 then [] else e::u.2.2
noncomputable def IF (K:α3):Sp:=fun vs H Q _=>∃(p j:Int) (t:Addr) (u:α2×α2×α2),vs=[.int p,.int j,.ref t]/\Use3 K H t u/\u.1.length<=900/\∀q H',Same H H'->SqT K H' q ((Cn p j u).map V.int)->Q (.ref q) H'
theorem Kg   (F:Fun K "ahead_of" "ahead_of" C9 f fd)(T:Txt mg)
  (Z:Exs K mg C_j2 C_j1 C_j4)
  : FnOk P w K mg base CX0 1 f fd ["plain","j","use"] (IF K):=by
 refine F.ok J5 (fun vs H Q E h=>?_) (fun cdv A outer s H vs Q E hr h=>?_)
 ·obtain⟨p,j,t,u,rfl,_⟩:=h;rfl
 ·obtain⟨p,j,t,u,rfl,hu,hz,k⟩:=h
  have hln:=Au
  refine⟨_,(Af (Aw (Ga (ptT (Ap (opE C3) (pvD 1) Ae (Ar _))) (AL Ad) (Av BK (Ah (ixTD Am) (pvD 2) Ae) (AL (Aa (Av (opD0 AN) (pvD 0) (pvD 1)) Ad)))))),?_⟩
  obtain⟨a,b,c,h1,h2,h3,h4⟩:=hu
  walk_at "rd"
  refine ite2 (fun e=>?_) (fun e=>?_)
  ·exact⟨by lia,fun q hq=>k q _ (Same.new hq) (SqT.of (by rw[Ab];unfold Cn;rw[if_pos e];rfl))⟩
  ·exact⟨_,h1,_,rfl,by lia,fun q hq=>Cg.of ((Same.new hq).seqT h2) (SqT.of Ab) (by simp;lia) fun q2 H2 s2 hq2=>k q2 H2 ((Same.new hq).trans s2) (by unfold Cn;rw[if_neg e];simpa using hq2)⟩
noncomputable def GZ (K:α3):Sp:=fun vs H Q _=>∃(p h j:Int) (t:Addr) (u:α2×α2×α2),vs=[.int p,.int h,.int j,.ref t]/\Use3 K H t u/\u.2.2.length<=900/\∀q H',Same H H'->SqT K H' q ((Bz (p+h) j u).map V.int)->Q (.ref q) H'
theorem Jv   (F:Fun K "behind_of" "behind_of" CF f fd)(T:Txt mg)
  (Z:Exs K mg C_j2 C_j1 C_j4)
   (q_ji:Cal P w K mg base CX0 1 "end_sign" CA ["plain","helpers"] (Dv) Ed Dx)
  : FnOk P w K mg base CX0 2 f fd ["plain","helpers","j","use"] (GZ K):=by
 refine F.ok Jq (fun vs H Q E h=>?_) (fun cdv A outer s H vs Q E hr h=>?_)
 ·obtain⟨p,h,j,t,u,rfl,_⟩:=h;rfl
 ·obtain⟨p,h,j,t,u,rfl,hu,hz,k⟩:=h
  have hln:=Au
  refine⟨_,(Af (Aw (Ga (ptT (Ap (opE C3) (pvD 2) Ae (Ar _))) (AL Ad) (Av BK (AL (Aa (Ak q_ji hr.d AF (Aa (pvD 0) (Aa (pvD 1) Ad))) Ad)) (Ah (ixTD Am) (pvD 3) Ae))))),?_⟩
  obtain⟨a,b,c,h1,h2,h3,h4⟩:=hu
  walk_at "rd"
  refine ite2 (fun e=>?_) (fun e=>?_)
  ·exact⟨by lia,fun q hq=>k q _ (Same.new hq) (SqT.of (by rw[Ab];unfold Bz;rw[if_pos e];rfl))⟩
  ·exact⟨p,h,rfl,by lia,fun q hq=>⟨_,(Same.new hq).seqT h1,_,rfl,Cg.of (SqT.of Ab) ((Same.new hq).seqT h4) (by simp;lia) fun q2 H2 s2 hq2=>k q2 H2 ((Same.new hq).trans s2) (by unfold Bz;rw[if_neg e];simpa using hq2)⟩⟩
theorem Ee (p j:Int)(u:α2×α2×α2):(Cn p j u).length<=u.1.length+1:=by unfold Cn;split<;>simp
theorem Dz (e j:Int)(u:α2×α2×α2):(Bz e j u).length<=u.2.2.length+1:=by unfold Bz;split<;>simp
noncomputable def Gy (hs:List Hus)(p:Nat)(x:Int):Prop:=(0<=x/\x<p)\/((p:Int)<=x/\x<(p:Int)+hs.length/\∃row,N80.Acc (A80 hs) p ((p:Int)+hs.length) (x-p) row)
noncomputable def Edg (hs:List Hus)(p c h:Nat):Prop:=h<hs.length/\∃r,hs[c]?=some r/\Gy hs p ((p:Int)+h)/\∃u v:α2,(∀y∈u,Gy hs p y)/\(∀y∈v,Gy hs p y)/\mk80 r.2.1 ((u++((p:Int)+h)::v).foldl (An r.2.2) 0)≠0
inductive Usd (hs:List Hus)(p:Nat):Nat->Prop
 | zero:Gy hs p (p:Int)->Usd hs p 0
 | step {c h:Nat}:Usd hs p c->Edg hs p c h->Usd hs p h
theorem K6  {p B:Nat}  (hS:Sd (A80 hs) p B hs.length rs)(hrl:rs.length=hs.length)  : Gx (blR p rs) x↔Gy hs p x:=by
 constructor
 ·rintro⟨h0,v,hv⟩
  rcases D3 hv with ⟨hx,_⟩|⟨i,r,e,hi,hr,_⟩
  ·exact .inl ⟨h0,by lia⟩
  ·have ha:=hS.s i r hr
   rw[hrl]at ha
   refine .inr ⟨by lia,by lia,r,?_⟩
   rw[show x-p=(i:Int) by lia];exact ha
 ·rintro (⟨h0,h1⟩|⟨h0,h1,row,ha⟩)
  ·exact⟨h0,_,K0 s!""⟩
  ·obtain⟨i,hi⟩:∃i:Nat,x-p=(i:Int):=⟨(x-p).toNat,by lia⟩
   rw[hi]at ha
   obtain⟨t,ht,_⟩:=hS.all hrl s!"" ha
   refine⟨by lia,((p:Int)+i)::t++[(p:Int)+rs.length],?_⟩
   rw[show x.toNat=p+i by lia,K1 s!""]
   unfold EY
   rw[ht];rfl
theorem FQ {hs:List Hus}{p:Nat}{row:α2}(hn:N80.Nst (p:Int) ((p:Int)+hs.length) row)(ho:N80.Okr (A80 hs) p ((p:Int)+hs.length) row):∀x∈Nest.outW (p:Int) ((p:Int)+hs.length) row,Gy hs p x:=fun x hx=>by
 rcases GV s!"" s!"" hn ho x hx with h|⟨a,b,inn,c,_⟩
 ·exact .inl h
 ·exact .inr ⟨a,b,inn,c⟩
theorem Hy {hs:List Hus}{p c h:Nat}{r:Hus}(hr:hs[c]?=some r)(hh:h<hs.length){s s':Int}{a b x:α2}(ha:Gs (A80 hs) p ((p:Int)+hs.length) r.2.2 0 s a)(hb:Gs (A80 hs) p ((p:Int)+hs.length) r.2.2 (An r.2.2 s ((p:Int)+h)) s' b)(hm:mk80 r.2.1 s'≠0)(hx:N80.Acc (A80 hs) p ((p:Int)+hs.length) (h:Int) x):
  N80.Acc (A80 hs) p ((p:Int)+hs.length) (c:Int) (a++(((p:Int)+h)::x++[(p:Int)+hs.length])++b):=by
 have hp:(0:Int)<=(p:Int):=by lia
 have hpe:(p:Int)<=(p:Int)+hs.length:=by lia
 obtain⟨a1,a2,a3⟩:=ha
 obtain⟨b1,b2,b3⟩:=hb
 have hn:=N80.nst_ca (c:=(p:Int)+h) (e:=(p:Int)+hs.length) (p:=(p:Int)) s!"" s!"" hx.n
 have ho:=(N80.okr_ca (A:=A80 hs) (c:=(p:Int)+h) hp hpe s!"" s!"" hx.n).mpr (by rw[show (p:Int)+h-p=h by lia];exact hx)
 refine⟨(a1.app hn).app b1,(N80.okr_app hp hpe (a1.app hn) b1).mpr ⟨(N80.okr_app hp hpe a1 hn).mpr ⟨a2,ho⟩,b2⟩,?_⟩
 rw[El hr,(N80.out_app ((a1.app hn).row hp hpe) (b1.row hp hpe)).2,(N80.out_app (a1.row hp hpe) (hn.row hp hpe)).2,(N80.out_ca hp s!"" s!"" (hx.n.row hp hpe)).2,jK_,jK_,a3]
 show mk80 r.2.1 ((Nest.outW (p:Int) ((p:Int)+hs.length) b).foldl (An r.2.2) (An r.2.2 s ((p:Int)+h)))≠0
 rw[b3];exact hm
theorem S1 {hs:List Hus}{p c h:Nat}{r:Hus}(hr:hs[c]?=some r)(hh:h<hs.length){s s':Int}{a b t:α2}(ha:Gs (A80 hs) p ((p:Int)+hs.length) r.2.2 0 s a)(hb:Gs (A80 hs) p ((p:Int)+hs.length) r.2.2 (An r.2.2 s ((p:Int)+h)) s' b)(hm:mk80 r.2.1 s'≠0)(hx:N80.Acc (A80 hs) p ((p:Int)+hs.length) (h:Int) t):Edg hs p c h:=by
 refine⟨hh,r,hr,.inr ⟨by lia,by lia,t,by rw[show (p:Int)+h-p=h by lia];exact hx⟩,Nest.outW (p:Int) ((p:Int)+hs.length) a,Nest.outW (p:Int) ((p:Int)+hs.length) b,FQ ha.1 ha.2.1,FQ hb.1 hb.2.1,?_⟩
 rw[jK_,qo_,ha.2.2,hb.2.2];exact hm
theorem G3 {A:Int->α2->Prop}{p n h:Nat}(hh:h<n){a b x:α2}{c:Int}(ha:N80.Nst (p:Int) ((p:Int)+n) a)(hb:N80.Nst (p:Int) ((p:Int)+n) b)(hx:N80.Nst (p:Int) ((p:Int)+n) x)(hA:N80.Acc A p ((p:Int)+n) c (a++(((p:Int)+h)::x++[(p:Int)+n])++b)):
  N80.Acc A p ((p:Int)+n) (h:Int) x/\N80.Okr A p ((p:Int)+n) a/\N80.Okr A p ((p:Int)+n) b/\Nest.outW (p:Int) ((p:Int)+n) (a++(((p:Int)+h)::x++[(p:Int)+n])++b)=Nest.outW (p:Int) ((p:Int)+n) a++((p:Int)+h)::Nest.outW (p:Int) ((p:Int)+n) b:=by
 have hp:(0:Int)<=(p:Int):=by lia
 have hpe:(p:Int)<=(p:Int)+n:=by lia
 have hn:=N80.nst_ca (c:=(p:Int)+h) (e:=(p:Int)+n) (p:=(p:Int)) s!"" s!"" hx
 obtain⟨h1,h2⟩:=(N80.okr_app hp hpe (ha.app hn) hb).mp hA.o
 obtain⟨h3,h4⟩:=(N80.okr_app hp hpe ha hn).mp h1
 have h5:=(N80.okr_ca hp hpe s!"" s!"" hx).mp h4
 rw[show (p:Int)+h-p=h by lia]at h5
 refine⟨h5,h3,h2,?_⟩
 rw[(N80.out_app ((ha.app hn).row hp hpe) (hb.row hp hpe)).2,(N80.out_app (ha.row hp hpe) (hn.row hp hpe)).2,(N80.out_ca hp s!"" s!"" (hx.row hp hpe)).2]
 simp
structure UOk (hs:List Hus)(p:Nat)(j:Nat)(u:α2×α2×α2):Prop where
 z:j=0->u.1=[]/\u.2.2=[]
 a:N80.Acc (A80 hs) p ((p:Int)+hs.length) (j:Int) u.2.1
 c:∀x,N80.Acc (A80 hs) p ((p:Int)+hs.length) (j:Int) x->N80.Acc (A80 hs) p ((p:Int)+hs.length) 0 (if j=0 then x else u.1++(((p:Int)+j)::x++[(p:Int)+hs.length])++u.2.2)
 i:∀(A:Int->α2->Prop) x,N80.Nst (p:Int) ((p:Int)+hs.length) x->N80.Acc A p ((p:Int)+hs.length) 0 (if j=0 then x else u.1++(((p:Int)+j)::x++[(p:Int)+hs.length])++u.2.2)->N80.Acc A p ((p:Int)+hs.length) (j:Int) x
theorem UOk.step {hs:List Hus}{p c h:Nat}{u:α2×α2×α2}(hu:UOk hs p c u)(h0:h≠0){r:Hus}(hr:hs[c]?=some r)(hh:h<hs.length){s s':Int}{a b t:α2}(ha:Gs (A80 hs) p ((p:Int)+hs.length) r.2.2 0 s a)(hb:Gs (A80 hs) p ((p:Int)+hs.length) r.2.2 (An r.2.2 s ((p:Int)+h)) s' b)(hm:mk80 r.2.1 s'≠0)(ht:N80.Acc (A80 hs) p ((p:Int)+hs.length) (h:Int) t):
  UOk hs p h (Cn p c u++a,t,b++Bz ((p:Int)+hs.length) c u):=by
 have e:∀x,(Cn (p:Int) c u++a)++(((p:Int)+h)::x++[(p:Int)+hs.length])++(b++Bz ((p:Int)+hs.length) c u)=(if c=0 then (a++(((p:Int)+h)::x++[(p:Int)+hs.length])++b) else u.1++(((p:Int)+c)::(a++(((p:Int)+h)::x++[(p:Int)+hs.length])++b)++[(p:Int)+hs.length])++u.2.2):=fun x=>by
  unfold Cn Bz
  by_cases hc:c=0
  ·rw[if_pos s!"",if_pos s!"",if_pos hc,qw_,q5_]
  ·rw[if_neg s!"",if_neg s!"",if_neg hc];simp
 refine⟨fun z=>absurd z h0,ht,fun x hx=>?_,fun A x hx hA=>?_⟩
 ·rw[if_neg h0]
  show N80.Acc (A80 hs) p ((p:Int)+hs.length) 0 ((Cn (p:Int) c u++a)++(((p:Int)+h)::x++[(p:Int)+hs.length])++(b++Bz ((p:Int)+hs.length) c u))
  rw[e]
  exact hu.c _ (Hy hr hh ha hb hm hx)
 ·rw[if_neg h0]at hA
  change N80.Acc A p ((p:Int)+hs.length) 0 ((Cn (p:Int) c u++a)++(((p:Int)+h)::x++[(p:Int)+hs.length])++(b++Bz ((p:Int)+hs.length) c u)) at hA
  rw[e]at hA
  exact (G3 s!"" ha.1 hb.1 hx (hu.i A _ ((ha.1.app (N80.nst_ca s!"" s!"" hx)).app hb.1) hA)).1
theorem Qg   (h:Usd hs p j):Gy hs p (p:Int):=by
 induction h with
 |zero h=>exact h
 |step _ _ ih=>exact ih
theorem Qh {hs:List Hus}{p:Nat}{G:Nat->Prop}(h0:Gy hs p (p:Int)->G 0)(h1:∀c h,c<hs.length->G c->Edg hs p c h->G h){j:Nat}(h:Usd hs p j):G j:=by
 induction h with
 |zero h=>exact h0 h
 |step _ e ih=>
  obtain⟨_,r,hr,_⟩:=id e
  exact h1 _ _ (jc_.mp hr).1 ih e
theorem IG {p n:Nat}{rows:α1}:∀(w:α2),(∀x∈w,(0<=x/\x<(p:Int))\/((p:Int)<=x/\x<(p:Int)+n/\N80.Nst (p:Int) ((p:Int)+n) (rows.getD (x-p).toNat [])))->N80.Nst (p:Int) ((p:Int)+n) (Nest.spreadN (p:Int) ((p:Int)+n) rows w)/\Nest.outW (p:Int) ((p:Int)+n) (Nest.spreadN (p:Int) ((p:Int)+n) rows w)=w
 |[],_=>⟨.nil,rfl⟩
 |x::w,h=>by
  have hp:(0:Int)<=(p:Int):=by lia
  have hpe:(p:Int)<=(p:Int)+n:=by lia
  obtain⟨i1,i2⟩:=IG w (fun y hy=>h y (jx_ _ hy))
  have e1:Nest.spreadN (p:Int) ((p:Int)+n) rows (x::w)=(if (p:Int)<=x then x::(rows.getD (x-p).toNat []++[(p:Int)+n]) else [x])++Nest.spreadN (p:Int) ((p:Int)+n) rows w:=by unfold Nest.spreadN;rw[zh_]
  rw[e1]
  rcases h x jv_ with ⟨h0,h1⟩|⟨h0,h1,hn⟩
  ·rw[if_neg s!""]
   have hx:=N80.nst_pl (e:=(p:Int)+n) h0 h1
   exact⟨hx.app i1,by rw[(N80.out_app (hx.row hp hpe) (i1.row hp hpe)).2,(N80.out_pl h0 h1 hpe).2,i2];rfl⟩
  ·rw[if_pos h0]
   have hx:=N80.nst_ca h0 h1 hn
   rw[qb_]at hx
   refine⟨hx.app i1,?_⟩
   rw[(N80.out_app (hx.row hp hpe) (i1.row hp hpe)).2,i2]
   have:=(N80.out_ca hp h0 h1 (hn.row hp hpe)).2
   rw[qb_]at this
   rw[this];rfl
theorem Kh {A:Int->α2->Prop}{p n:Nat}{rows:α1}:∀(w:α2),(∀x∈w,(0<=x/\x<(p:Int))\/((p:Int)<=x/\x<(p:Int)+n/\N80.Acc A p ((p:Int)+n) (x-p) (rows.getD (x-p).toNat [])))->N80.Okr A p ((p:Int)+n) (Nest.spreadN (p:Int) ((p:Int)+n) rows w)
 |[],_=>fun q hq=>nomatch hq
 |x::w,h=>by
  have hp:(0:Int)<=(p:Int):=by lia
  have hpe:(p:Int)<=(p:Int)+n:=by lia
  have hN:∀y∈w,(0<=y/\y<(p:Int))\/((p:Int)<=y/\y<(p:Int)+n/\N80.Nst (p:Int) ((p:Int)+n) (rows.getD (y-p).toNat [])):=fun y hy=>by
   rcases h y (jx_ _ hy) with a|⟨a,b,c⟩
   ·exact .inl a
   ·exact .inr ⟨a,b,c.n⟩
  obtain⟨i1,_⟩:=IG w hN
  have io:=Kh w (fun y hy=>h y (jx_ _ hy))
  have e1:Nest.spreadN (p:Int) ((p:Int)+n) rows (x::w)=(if (p:Int)<=x then x::(rows.getD (x-p).toNat []++[(p:Int)+n]) else [x])++Nest.spreadN (p:Int) ((p:Int)+n) rows w:=by unfold Nest.spreadN;rw[zh_]
  rw[e1]
  rcases h x jv_ with ⟨h0,h1⟩|⟨h0,h1,hn⟩
  ·rw[if_neg s!""]
   exact (N80.okr_app hp hpe (N80.nst_pl h0 h1) i1).mpr ⟨N80.okr_pl h0 h1 hpe,io⟩
  ·rw[if_pos h0]
   have hx:=N80.nst_ca h0 h1 hn.n
   have ho:=(N80.okr_ca hp hpe h0 h1 hn.n).mpr hn
   rw[qb_]at hx ho
   exact (N80.okr_app hp hpe hx i1).mpr ⟨ho,io⟩
theorem Rh   : ∃rows:α1,∀x,Gy hs p x->(0<=x/\x<(p:Int))\/((p:Int)<=x/\x<(p:Int)+hs.length/\N80.Acc (A80 hs) p ((p:Int)+hs.length) (x-p) (rows.getD (x-p).toNat [])):=by
 have key:∀n:Nat,∃rows:α1,rows.length=n/\∀j:Nat,j<n->(∃row,N80.Acc (A80 hs) p ((p:Int)+hs.length) (j:Int) row)->N80.Acc (A80 hs) p ((p:Int)+hs.length) (j:Int) (rows.getD j []):=by
  intro n
  induction n with
  |zero=>exact⟨[],rfl,fun j hj=>absurd hj (qp_ _)⟩
  |succ n ih=>
   obtain⟨rows,hl,hr⟩:=ih
   have old:∀(r:α2) (j:Nat),j<n->(rows++[r]).getD j []=rows.getD j []:=fun r j hj=>by
    rw[js_,js_,jg_ s!""]
   have new:∀r:α2,(rows++[r]).getD n []=r:=fun r=>by
    rw[js_,<-hl];simp
   by_cases hx:∃row,N80.Acc (A80 hs) p ((p:Int)+hs.length) (n:Int) row
   ·obtain⟨row,hrow⟩:=hx
    refine⟨rows++[row],by simp[hl],fun j hj he=>?_⟩
    by_cases e:j=n
    ·subst e;rw[new];exact hrow
    ·rw[old _ j s!""];exact hr j s!"" he
   ·refine⟨rows++[[]],by simp[hl],fun j hj he=>?_⟩
    by_cases e:j=n
    ·subst e;exact absurd he hx
    ·rw[old _ j s!""];exact hr j s!"" he
 obtain⟨rows,hl,hr⟩:=key hs.length
 refine⟨rows,fun x hx=>?_⟩
 rcases hx with h|⟨h0,h1,row,ha⟩
 ·exact .inl h
 ·obtain⟨k,hk⟩:∃k:Nat,x-p=(k:Int):=⟨(x-p).toNat,by lia⟩
  rw[hk]at ha
  refine .inr ⟨h0,h1,?_⟩
  rw[hk,ju_]
  exact hr k s!"" ⟨row,ha⟩
theorem IH {hs:List Hus}{p:Nat}{w:α2}(hw:∀x∈w,Gy hs p x):∃row,N80.Nst (p:Int) ((p:Int)+hs.length) row/\N80.Okr (A80 hs) p ((p:Int)+hs.length) row/\Nest.outW (p:Int) ((p:Int)+hs.length) row=w:=by
 obtain⟨rows,hr⟩:=Rh (hs:=hs) (p:=p)
 have h1:=Kh (A:=A80 hs) (n:=hs.length) (rows:=rows) w (fun x hx=>hr x (hw x hx))
 have h2:=IG (p:=p) (n:=hs.length) (rows:=rows) w (fun x hx=>(hr x (hw x hx)).elim .inl (fun ⟨a,b,c⟩=>.inr ⟨a,b,c.n⟩))
 exact⟨_,h2.1,h1,h2.2⟩
theorem Ny   (h:Usd hs p j):Gy hs p ((p:Int)+j):=by
 cases h with
 |zero h=>rw[show (p:Int)+((0:Nat):Int)=p by lia];exact h
 |step _ e=>
  obtain⟨_,_,_,h,_⟩:=e
  exact h
theorem Qi   (h:Usd hs p j):∃f:α2->α2,(∀x,N80.Acc (A80 hs) p ((p:Int)+hs.length) (j:Int) x->N80.Acc (A80 hs) p ((p:Int)+hs.length) 0 (f x))/\(∀x,N80.Nst (p:Int) ((p:Int)+hs.length) x->N80.Nst (p:Int) ((p:Int)+hs.length) (f x))/\∀(h2:List Hus),h2.length=hs.length->∀x,N80.Nst (p:Int) ((p:Int)+hs.length) x->N80.Acc (A80 h2) p ((p:Int)+hs.length) 0 (f x)->N80.Acc (A80 h2) p ((p:Int)+hs.length) (j:Int) x/\Usd h2 p j:=by
 induction h with
 |zero h=>
  refine⟨id,fun x hx=>hx,fun x hx=>hx,fun h2 hl x hn hA=>⟨hA,.zero (.inr ⟨by lia,?_,x,?_⟩)⟩⟩
  ·rcases h with h|h
   ·lia
   ·rw[hl];lia
  ·rw[show (p:Int)-p=0 by lia,hl];exact hA
 |@step c h hu he ih=>
  obtain⟨f,f1,f2,f3⟩:=ih
  obtain⟨hh,r,hr,hg,u,v,hgu,hgv,hm⟩:=he
  obtain⟨a,a1,a2,a3⟩:=IH hgu
  obtain⟨b,b1,b2,b3⟩:=IH hgv
  have hG1:Gs (A80 hs) p ((p:Int)+hs.length) r.2.2 0 (u.foldl (An r.2.2) 0) a:=⟨a1,a2,by rw[a3]⟩
  have hG2:Gs (A80 hs) p ((p:Int)+hs.length) r.2.2 (An r.2.2 (u.foldl (An r.2.2) 0) ((p:Int)+h)) (v.foldl (An r.2.2) (An r.2.2 (u.foldl (An r.2.2) 0) ((p:Int)+h))) b:=⟨b1,b2,by rw[b3]⟩
  rw[jK_,qo_]at hm
  have hnx:∀x,N80.Nst (p:Int) ((p:Int)+hs.length) x->N80.Nst (p:Int) ((p:Int)+hs.length) (a++(((p:Int)+h)::x++[(p:Int)+hs.length])++b):=fun x hx=>(a1.app (N80.nst_ca s!"" s!"" hx)).app b1
  refine⟨fun x=>f (a++(((p:Int)+h)::x++[(p:Int)+hs.length])++b),fun x hx=>f1 _ (Hy hr hh hG1 hG2 hm hx),fun x hx=>f2 _ (hnx x hx),fun h2 hl x hn hA=>?_⟩
  obtain⟨g1,g2⟩:=f3 h2 hl _ (hnx x hn) hA
  obtain⟨k1,k2,k3,k4⟩:=G3 hh a1 b1 hn g1
  have hc2:∃r2,h2[c]?=some r2:=by
   have:c<h2.length:=by rw[hl];exact (jc_.mp hr).1
   exact⟨_,ja_ this⟩
  obtain⟨r2,hr2⟩:=hc2
  have hm2:=(El hr2 _).mp g1.a
  rw[k4]at hm2
  refine⟨k1,.step g2 ⟨by lia,r2,hr2,.inr ⟨by lia,by lia,x,?_⟩,_,_,?_,?_,hm2⟩⟩
  ·rw[show (p:Int)+h-p=h by lia,hl];exact k1
  ·have:=FQ (hs:=h2) (p:=p) (row:=a) (by rw[hl];exact a1) (by rw[hl];exact k2)
   rw[hl]at this;exact this
  ·have:=FQ (hs:=h2) (p:=p) (row:=b) (by rw[hl];exact b1) (by rw[hl];exact k3)
   rw[hl]at this;exact this
theorem Jw   (H:∀(j:Nat) (w:α2),Usd hs p j->j<hs.length->(∀x∈w,Gy hs p x)->A80 hs j w->A80 h2 j w):∀(n:Nat) (row:α2),row.length<=n->∀j:Nat,j<hs.length->Usd hs p j->N80.Acc (A80 hs) p ((p:Int)+hs.length) (j:Int) row->N80.Acc (A80 h2) p ((p:Int)+hs.length) (j:Int) row:=by
 intro n
 induction n with
 |zero=>
  intro row hl j hj hu ha
  have hz:row=[]:=xH_.mp s!""
  subst hz
  exact⟨ha.n,(fun q hq=>nomatch hq),H j _ hu hj (FQ ha.n ha.o) ha.a⟩
 |succ n ih=>
  intro row hl j hj hu ha
  have hp:(0:Int)<=(p:Int):=by lia
  have hpe:(p:Int)<=(p:Int)+hs.length:=by lia
  refine⟨ha.n,?_,H j _ hu hj (FQ ha.n ha.o) ha.a⟩
  have key:∀(pre suf:α2),N80.Nst (p:Int) ((p:Int)+hs.length) pre->N80.Nst (p:Int) ((p:Int)+hs.length) suf->row=pre++suf->N80.Okr (A80 h2) p ((p:Int)+hs.length) suf:=by
   intro pre suf hpre hsuf
   induction hsuf generalizing pre with
   |nil=>intro _ q hq;exact nomatch hq
   |@pl y rest h0 h1 hn ih2=>
    intro e
    have:=ih2 (pre++[y]) (hpre.app (N80.nst_pl h0 h1)) (by rw[e];simp)
    exact (N80.okr_app hp hpe (N80.nst_pl h0 h1) hn).mpr ⟨N80.okr_pl h0 h1 hpe,this⟩
   |@ca c inn rest h0 h1 hi hn _ ih2=>
    intro e
    obtain⟨k,hk⟩:∃k:Nat,c-p=(k:Int):=⟨(c-p).toNat,by lia⟩
    have hck:c=(p:Int)+k:=by lia
    subst hck
    have e':row=pre++(((p:Int)+k)::inn++[(p:Int)+hs.length])++rest:=by rw[e];simp
    have hA:=ha
    rw[e']at hA
    obtain⟨k1,k2,k3,k4⟩:=G3 s!"" hpre hn hi hA
    have hum:Usd hs p k:=by
     have hjr:hs[j]?=some hs[j]:=ja_ hj
     refine .step hu ⟨by lia,hs[j],hjr,.inr ⟨by lia,by lia,inn,by rw[show (p:Int)+k-p=k by lia];exact k1⟩,_,_,FQ hpre k2,FQ hn k3,?_⟩
     have:=(El hjr _).mp hA.a
     rw[k4]at this
     exact this
    have hi2:=ih inn (by rw[e]at hl;simp at hl;lia) k s!"" hum k1
    have hrest:=ih2 (pre++(((p:Int)+k)::inn++[(p:Int)+hs.length])) (hpre.app (N80.nst_ca s!"" s!"" hi)) e'
    have e2:((p:Int)+k)::inn++((p:Int)+hs.length)::rest=(((p:Int)+k)::inn++[(p:Int)+hs.length])++rest:=by simp
    rw[e2]
    exact (N80.okr_app hp hpe (N80.nst_ca s!"" s!"" hi) hn).mpr ⟨(N80.okr_ca hp hpe s!"" s!"" hi).mpr (by rw[hk];exact hi2),hrest⟩
  exact key [] row .nil ha.n rfl
theorem K7 {hs:List Hus}{p:Nat}(hh:1<=hs.length){row:α2}(ha:N80.Acc (A80 hs) p ((p:Int)+hs.length) 0 row):Usd hs p 0:=.zero (.inr ⟨by lia,by lia,row,by rw[show (p:Int)-p=0 by lia];exact ha⟩)
noncomputable def SmL (hs h2:List Hus)(p:Nat):Prop:=∀row,N80.Acc (A80 hs) p ((p:Int)+hs.length) 0 row↔N80.Acc (A80 h2) p ((p:Int)+hs.length) 0 row
noncomputable def Le82 (hs h2:List Hus)(p:Nat):Prop:=∀(j:Nat) (w:α2),Usd hs p j->j<hs.length->(∀x∈w,Gy hs p x)->A80 hs j w->A80 h2 j w
theorem Qj   (hh:1<=hs.length)(hl:h2.length=hs.length)(h1:Le82 hs h2 p)(h3:Le82 h2 hs p):SmL hs h2 p:=fun row=>⟨fun ha=>Jw h1 row.length row (jh_ _) 0 s!"" (K7 hh ha) ha,fun ha=>by
 rw[<-hl]at ha ⊢
 exact Jw h3 row.length row (jh_ _) 0 s!"" (K7 s!"" ha) ha⟩
theorem Nz   (hh:1<=hs.length)(hl:h2.length=hs.length)(hu:∀j:Nat,j<hs.length->(Usd hs p j↔Usd h2 p j))(hw:∀(j:Nat) (w:α2),Usd hs p j->j<hs.length->(∀x∈w,Gy hs p x/\Gy h2 p x)->(A80 hs j w↔A80 h2 j w)):SmL hs h2 p:=by
 have key:∀(g1 g2:List Hus),g1.length=g2.length->(∀j:Nat,j<g1.length->(Usd g1 p j->Usd g2 p j))->(∀(j:Nat) (w:α2),Usd g1 p j->j<g1.length->(∀x∈w,Gy g1 p x/\Gy g2 p x)->(A80 g1 j w->A80 g2 j w))->Le82 g1 g2 p:=fun g1 g2 hl hu hw j w huj hj hgw hA=>by
  refine hw j w huj hj (fun x hx=>⟨hgw x hx,?_⟩) hA
  rcases hgw x hx with h|⟨h0,h1,row,ha⟩
  ·exact .inl h
  ·obtain⟨k,hk⟩:∃k:Nat,x=(p:Int)+k:=⟨(x-p).toNat,by lia⟩
   subst hk
   obtain⟨u,v,e⟩:=List.append_of_mem hx
   have hjr:g1[j]?=some g1[j]:=ja_ hj
   have hum:Usd g1 p k:=by
    refine .step huj ⟨by lia,g1[j],hjr,hgw _ hx,u,v,fun y hy=>hgw y (by rw[e];exact jr_ _ hy),fun y hy=>hgw y (by rw[e];exact jk_ _ (jx_ _ hy)),?_⟩
    have:=(El hjr w).mp hA
    rw[e]at this
    exact this
   exact Ny (hu k s!"" hum)
 refine Qj hh hl (key hs h2 hl.symm (fun j hj=>(hu j hj).mp) (fun j w a b c=>(hw j w a b c).mp)) (key h2 hs hl (fun j hj=>(hu j s!"").mpr) (fun j w a b c=>(hw j w ((hu j s!"").mpr a) s!"" (fun x hx=>(c x hx).symm)).mpr))
theorem NC   (hh:1<=hs.length)(hl:h2.length=hs.length)(hS:SmL hs h2 p)  (hj:j<hs.length)(hu:Usd hs p j):Usd h2 p j:=by
 obtain⟨f,f1,f2,f3⟩:=Qi hu
 obtain⟨row,ha⟩:∃row,N80.Acc (A80 hs) p ((p:Int)+hs.length) (j:Int) row:=by
  rcases Ny hu with h|⟨_,_,row,ha⟩
  ·lia
  ·exact⟨row,by rw[show (p:Int)+j-p=j by lia]at ha;exact ha⟩
 exact (f3 h2 hl row ha.n ((hS _).mp (f1 row ha))).2
theorem K8 {hs h2:List Hus}{p:Nat}(hh:1<=hs.length)(hl:h2.length=hs.length)(hS:SmL hs h2 p){j:Nat}(hj:j<hs.length)(hu:Usd hs p j){w:α2}(hw:∀x∈w,Gy hs p x)(hA:A80 hs j w):A80 h2 j w:=by
 obtain⟨f,f1,f2,f3⟩:=Qi hu
 obtain⟨row,r1,r2,r3⟩:=IH hw
 have ha:N80.Acc (A80 hs) p ((p:Int)+hs.length) (j:Int) row:=⟨r1,r2,by rw[r3];exact hA⟩
 have:=(f3 h2 hl row r1 ((hS _).mp (f1 row ha))).1.a
 rw[r3]at this
 exact this
theorem SmL.symm   (hl:h2.length=hs.length)(h:SmL hs h2 p):SmL h2 hs p:=fun row=>by rw[hl];exact (h row).symm
theorem Ki {K:α3}  (s:SmT H H')   (h:Use3 K H t u):Use3 K H' t u:=by
 obtain⟨a,b,c,h1,h2,h3,h4⟩:=h
 exact⟨a,b,c,s.tsq h1,s.tsq h2,s.tsq h3,s.tsq h4⟩
theorem II {K:α3}  (s:SmT H H')     (h:CZ K H wa p xs hs):CZ K H' wa p xs hs:=by
 obtain⟨y,a1,a2,a3⟩:=h
 exact⟨y,s.tsq a1,s.tsq a2,a3.1,fun i r hi=>by
  obtain⟨b,b1,b2⟩:=a3.2 i r hi
  exact⟨b,b1,Bc.monoQ b2 (fun _ _=>s.tsq)⟩⟩
noncomputable def ND (K:α3):Sp:=fun vs H Q _=>∃(wa l ut:Addr) (p c h:Nat) (xs ys:List V) (hs:List Hus) (rs:List (Option (α2))) (u:α2×α2×α2) (r:Hus) (t:α2),vs=[.ref wa,.ref l,.int c,.ref ut,.int h]/\CZ K H wa p xs hs/\WfW (p+hs.length) hs/\hs.length<=3/\1<=p/\p<=6/\(∀r∈hs,r.2.1.length<=4)/\H l=some (.lst ys)/\RO H ys rs/\rs.length=hs.length/\Sd (A80 hs) p (p+hs.length+1) hs.length rs/\hs[c]?=some r/\rs[h]?=some (some t)/\Use3 K H ut u/\u.1.length<=900/\u.2.2.length<=900/\Lm80 K H/\LmA K H/\tabP K "least_row_taken" ≠ tabP K "around" /\
 ∀(o:Option (α2×α2)) v H',SmT H H'->Lm80 K H'->LmA K H'->((o=none/\v=.non) \/ ∃a b q,o=some (a,b)/\v=.ref q/\Use3 K H' q (Cn p c u++a,t,b++Bz ((p:Int)+hs.length) c u))->(∀a b,o=some (a,b)->a.length<=240/\b.length<=240/\∃s,Gs (A80 hs) p ((p:Int)+hs.length) r.2.2 0 s a/\∃s',Gs (A80 hs) p ((p:Int)+hs.length) r.2.2 (An r.2.2 s ((p:Int)+h)) s' b/\mk80 r.2.1 s'≠0)->(∀u v:α2,(∀y∈u,Gy hs p y)->(∀y∈v,Gy hs p y)->mk80 r.2.1 ((u++((p:Int)+h)::v).foldl (An r.2.2) 0)≠0->o.isSome=true)->Q v H'
theorem NF   (F:Fun K "use_by" "use_by" Gk f fd)(T:Txt mg)
  (Z:Exs K mg C_j2 C_j1 C_j4)
   (q_j7:Cal P w K mg base CX0 2 "rows_by_letter" Bg ["plain","rows"] (Iv K) Cc BW)
   (q_j3:Cal P w K mg base CX0 10 "around" Dp ["house","by_letter","letter"] (Nw K) Gm S2)
   (q_ju:Cal P w K mg base CX0 1 "ahead_of" C9 ["plain","j","use"] (IF K) Fy EA)
   (q_jo:Cal P w K mg base CX0 2 "behind_of" CF ["plain","helpers","j","use"] (GZ K) EB D4)
  : FnOk P w K mg base CX0 11 f fd ["works","rows","caller","use","helper"] (ND K):=by
 refine F.ok DV (fun vs H Q E h=>?_) (fun cdv A outer s H vs Q E hr h=>?_)
 ·obtain⟨wa,l,ut,p,c,h,xs,ys,hs,rs,u,r,t,rfl,_⟩:=h;rfl
 ·obtain⟨wa,l,ut,p,c,h,xs,ys,hs,rs,u,r,t,rfl,hw,hwf,hh3,hp1,hp6,h4,hl',hro,hrl,hS,hrc,hrh,hu,hu1,hu2,hL,hLA,hne,k⟩:=h
  have hl:=Au
  refine⟨_,(Ac (Aj (i:=5) DV.nd (Ah (ixTD Am) (pvD 0) Ae))
   (Ac (Aj (i:=6) DV.nd (Ak q_j3 hr.d AF (Aa (Ah (ixTD Am) (Ah (ixTD Am) (pvD 0) Ae) (pvD 2)) (Aa (Ak q_j7 hr.d AF (Aa (pvD 5) (Aa (pvD 1) Ad))) (Aa (Av (opD0 AN) (pvD 5) (pvD 4)) Ad)))))
   (Ac (AR (ptT (Ap Ej (pvD 6) Ba (Ar _)))
   (Af (Aw Ba))
   Ax)
   (Ac (Aj (i:=7) DV.nd (Av BK (Ak q_ju hr.d AF (Aa (pvD 5) (Aa (pvD 2) (Aa (pvD 3) Ad)))) (Ah (ixTD Am) (pvD 6) Ae)))
   (Ac (Aj (i:=8) DV.nd (Av BK (Ah (ixTD Am) (pvD 6) Ae) (Ak q_jo hr.d AF (Aa (pvD 5) (Aa (Aq (lenD Ai) (by rfl) T.len jD_ (Aa (pvD 1) Ad)) (Aa (pvD 2) (Aa (pvD 3) Ad)))))))
   (Af (Aw (AL (Aa (pvD 7) (Aa (Ah (ixLD AS) (pvD 1) (pvD 4)) (Aa (pvD 8) Ad))))))))))),?_⟩
  obtain⟨y,q1,q2,q3⟩:=id hw
  have hxl:=q3.1
  walk_at "rd"
  have hcl:c<hs.length:=(jc_.mp hrc).1
  have hhl:h<hs.length:=by rw[<-hrl];exact (jc_.mp hrh).1
  obtain⟨ac,hx1,hhc⟩:=q3.2 c _ hrc
  have hrm:=jl_ hrc
  have hwc:=hwf _ hrm
  have hyl:=hro.1
  have h78:md80 hs.length<=78:=by
   have:hs.length=1\/hs.length=2\/hs.length=3:=by lia
   rcases this with e|e|e<;>rw[e]<;>decide
  have hwf':=hwc.2
  rw[hwc.1]at hhc
  rw[<-jQ_]at hhc hwf'
  have hSs:=hS.s
  refine⟨_,q1,_,rfl,_,q1,_,rfl,y,rfl,_,q2,_,AE hx1,p,l,ys,rs,rfl,SqL.of hl',hro,by lia,hp6,fun r' hr'=>?_,fun lb zs H1 s1 hlb hrob=>⟨p,rfl,?_⟩⟩
  ·obtain⟨j,hj,e⟩:=jT_.mp hr'
   have:=hS.m j r' (by rw[ja_ hj,e])
   lia
  refine⟨ac,lb,p+hs.length,r.2.1.length,80,p+hs.length+1,p,p+h,r.2.1,r.2.2,zs,rs,A80 hs,by rw[jQ_],hhc.mono s1,hwf',rfl,h4 r hrm,by lia,SqL.of hlb,hrob,by rw[Kb];lia,by lia,by lia,fun v hv=>?_,hSs,hL.mono s1,hLA.mono s1,hne,fun o v H2 m2 hL2 hLA2 hv hso hco=>?_⟩
  ·obtain⟨j,hj,e⟩:=jT_.mp hv
   rcases D3 (show (blR p rs)[j]?=some (some v) by rw[ja_ hj,e]) with ⟨hx,rfl⟩|⟨i',r',rfl,hi',hr',rfl⟩
   ·refine⟨by simp,fun z hz=>?_⟩
    rw[jb_.mp hz];lia
   ·have:=hS.m i' r' hr'
    refine⟨by simp;lia,?_⟩
    exact (N80.nst_ca s!"" s!"" (hS.s i' r' hr').n).dg s!"" s!"" s!""
  have m02:=(SmT.of s1).trans m2
  have hso':∀a b,o=some (a,b)->a.length<=240/\b.length<=240/\∃s,Gs (A80 hs) p ((p:Int)+hs.length) r.2.2 0 s a/\∃s',Gs (A80 hs) p ((p:Int)+hs.length) r.2.2 (An r.2.2 s ((p:Int)+h)) s' b/\mk80 r.2.1 s'≠0:=fun a b e=>by
   obtain⟨g1,g2,s,g3,s',g4,g5⟩:=hso a b e
   rw[hrl]at g3 g4
   rw[jQ_]at g4
   exact⟨by lia,by lia,s,g3,s',g4,g5⟩
  have hco':∀u v:α2,(∀y∈u,Gy hs p y)->(∀y∈v,Gy hs p y)->mk80 r.2.1 ((u++((p:Int)+h)::v).foldl (An r.2.2) 0)≠0->o.isSome=true:=fun u v hu hv hm=>hco u v (fun y hy=>(K6 hS hrl).mpr (hu y hy)) (fun y hy=>(K6 hS hrl).mpr (hv y hy)) (by rw[jQ_];exact hm)
  rcases hv with ⟨e1,rfl⟩|⟨a,b,ta,tb,e1,rfl,tc,z1,z2,z3⟩
  ·show (if (V.non:V)=V.non then _ else _)
   rw[if_pos rfl]
   exact k o .non H2 m02 hL2 hLA2 (.inl ⟨e1,rfl⟩) hso' hco'
  ·show (if V.ref ta=V.non then _ else _)
   rw[if_neg (by simp)]
   obtain⟨la,lb',_⟩:=hso' a b e1
   have hu0:=Ki m02 hu
   have hal:=Ee (p:Int) c u
   have hbl:=Dz ((p:Int)+hs.length) c u
   rcases hro.2 h _ hrh with ⟨z,_⟩|⟨t',tt,et,ex,eh⟩
   ·cases z
   cases et
   have hlH:=m02.lst hl'
   refine⟨p,c,ut,u,rfl,hu0,hu1,fun qa H3 s3 hqa=>⟨ta,rfl,_,s3.seqT z1,.ref tb,rfl,Cg.of hqa (s3.seqT z2) (by simp;lia) fun q4 H4 s4 hq4=>?_⟩⟩
   have s34:=s3.trans s4
   refine⟨ta,rfl,_,s34.seqT z1,.ref tc,rfl,ys,.inl (SqL.of (s34 _ _ hlH)),p,hs.length,c,ut,u,by rw[hyl,hrl],hu0.mono s34,hu2,fun qb H5 s5 hqb=>Cg.of ((s34.trans s5).seqT z3) hqb (by simp;lia) fun q6 H6 s6 hq6=>?_⟩
   have s36:=(s34.trans s5).trans s6
   refine⟨_,SqL.of (s36 _ _ hlH),_,AE ex,by lia,fun q7 hq7=>?_⟩
   have s7:=Same.new hq7 (o:=.tup [.ref q4,.ref tt,.ref q6])
   have s37:=s36.trans s7
   refine k o (.ref q7) _ (m02.same s37) (hL2.mono s37) (hLA2.mono s37) (.inr ⟨a,b,q7,e1,rfl,q4,tt,q6,SqT.of Ab,((s5.trans s6).trans s7).seqT (by rw[jI_];exact hq4),SqT.of (s37 _ _ (m02.tup eh)),s7.seqT (by rw[jI_];exact hq6)⟩) hso' hco'
noncomputable def UO (K:α3)(H:Hp)(xs:List V)(us:List (Option (α2×α2×α2))):Prop:=xs.length=us.length/\∀(i:Nat) o,us[i]?=some o->(o=none/\xs[i]?=some .non) \/ ∃u t,o=some u/\xs[i]?=some (.ref t)/\Use3 K H t u
theorem UO.mono {K:α3}    (h:UO K H xs us)(s:∀t u,Use3 K H t u->Use3 K H' t u):UO K H' xs us:=⟨h.1,fun i o ho=>by
 rcases h.2 i o ho with a|⟨u,t,a,b,c⟩
 ·exact .inl a
 ·exact .inr ⟨u,t,a,b,s _ _ c⟩⟩
theorem UO.set {K:α3}    (h:UO K H xs us)(j:Nat)   (hv:(o=none/\v=.non) \/ ∃u t,o=some u/\v=.ref t/\Use3 K H t u):UO K H (xs.set j v) (us.set j o):=by
 refine⟨by rw[j8_,j8_,h.1],fun i o' ho=>?_⟩
 by_cases e:j=i
 ·subst e
  have hl:=(jc_.mp ho).1
  rw[j8_]at hl
  rw[jM_ hl]at ho
  cases ho
  rw[jM_ (by rw[h.1];exact hl)]
  rcases hv with ⟨a,b⟩|⟨u,t,a,b,c⟩
  ·exact .inl ⟨a,by rw[b]⟩
  ·exact .inr ⟨u,t,a,by rw[b],c⟩
 ·rw[jY_ e]at ho ⊢
  exact h.2 i o' ho
structure Uf (hs:List Hus)(p:Nat)(us:List (Option (α2×α2×α2)))(cs:α2):Prop where
 ln:us.length=hs.length
 nd:cs.Nodup
 rg:∀x∈cs,0<=x/\x<(hs.length:Int)
 z:(0:Int)∈cs
 ky:∀j:Nat,j<hs.length->((j:Int)∈cs ↔ ∃u,us[j]?=some (some u))
 ok:∀(j:Nat) u,us[j]?=some (some u)->UOk hs p j u/\Usd hs p j
 l2:∀(j:Nat) u,us[j]?=some (some u)->u.2.1.length<=78
 le:∀(i j:Nat) u,cs[i]?=some (j:Int)->us[j]?=some (some u)->u.1.length<=241*i/\u.2.2.length<=241*i
theorem Uf.put {hs:List Hus}{p:Nat}{us:List (Option (α2×α2×α2))}{cs:α2}(h:Uf hs p us cs){j:Nat}(hj:j<hs.length)(hn:us[j]?=some none){u:α2×α2×α2}(hu:UOk hs p j u)(hd:Usd hs p j){w:Nat}(hw:w<cs.length)(hl:u.1.length<=241*(w+1)/\u.2.2.length<=241*(w+1))(hl2:u.2.1.length<=78):Uf hs p (us.set j (some u)) (cs++[(j:Int)]):=by
 have hjn:(j:Int)∉cs:=fun z=>by
  obtain⟨u',e⟩:=(h.ky j hj).mp z
  rw[hn]at e;cases e
 have hlj:j<us.length:=by rw[h.ln];exact hj
 refine⟨by rw[j8_,h.ln],qc_.mpr ⟨h.nd,by simp,fun a ha b hb=>?_⟩,fun x hx=>?_,jr_ _ h.z,fun i hi=>?_,fun i u' hu'=>?_,fun i u' hu'=>?_,fun i i' u' hc hu'=>?_⟩
 ·rw[jb_.mp hb]
  intro e
  exact hjn (e ▸ ha)
 ·rcases jj_.mp hx with hx|hx
  ·exact h.rg x hx
  ·rw[jb_.mp hx];lia
 ·rw[jj_,jb_]
  by_cases e:j=i
  ·subst e
   rw[jM_ hlj]
   exact⟨fun _=>⟨u,rfl⟩,fun _=>.inr rfl⟩
  ·rw[jY_ e,<-h.ky i hi]
   exact⟨fun z=>z.elim id (fun z=>absurd s!"" e),.inl⟩
 ·by_cases e:j=i
  ·subst e
   rw[jM_ hlj]at hu'
   cases hu'
   exact⟨hu,hd⟩
  ·rw[jY_ e]at hu'
   exact h.ok i u' hu'
 ·by_cases e:j=i
  ·subst e
   rw[jM_ hlj]at hu'
   cases hu'
   exact hl2
  ·rw[jY_ e]at hu'
   exact h.l2 i u' hu'
 ·by_cases hi:i<cs.length
  ·rw[jg_ hi]at hc
   have e:j≠i':=fun z=>by
    subst z
    exact hjn (jl_ hc)
   rw[jY_ e]at hu'
   exact h.le i i' u' hc hu'
  ·have hlt:=(jc_.mp hc).1
   rw[jf_,jq_]at hlt
   have e:i=cs.length:=by lia
   subst e
   rw[jp_ (jh_ _),j4_]at hc
   have e2:j=i':=by
    have:(j:Int)=i':=by simpa using hc
    lia
   subst e2
   rw[jM_ hlj]at hu'
   cases hu'
   have:=qK_ 241 (show w+1<=cs.length by lia)
   lia
noncomputable def NG (K:α3):Sp:=fun vs H Q _=>∃(wa:Addr) (p:Nat) (xs:List V) (hs:List Hus),vs=[.ref wa]/\CZ K H wa p xs hs/\WfW (p+hs.length) hs/\1<=hs.length/\hs.length<=3/\1<=p/\p<=6/\(∀r∈hs,r.2.1.length<=4)/\Lm80 K H/\LmA K H/\tabP K "least_row_taken" ≠ tabP K "around" /\ ∀l ys us H',SmT H H'->Lm80 K H'->LmA K H'->H' l=some (.lst ys)->UO K H' ys us->us.length=hs.length->(∀(j:Nat) u,us[j]?=some (some u)->UOk hs p j u/\u.1.length<=723/\u.2.1.length<=78/\u.2.2.length<=723)->(∀j:Nat,j<hs.length->((∃u,us[j]?=some (some u))↔Usd hs p j))->Q (.ref l) H'
theorem LH   (F:Fun K "uses_of" "uses_of" EV f fd)(T:Txt mg)
  (Z:Exs K mg C_j2 C_j1 C_j4)
   (q_jt:Cal P w K mg base CX0 7 "shortest" C8 ["works"] (Kc K) Fz EC)
   (q_j15:Cal P w K mg base CX0 11 "use_by" Gk ["works","rows","caller","use","helper"] (ND K) K9 Jx)
  : FnOk P w K mg base CX0 12 f fd ["works"] (NG K):=by
 refine F.ok Bw (fun vs H Q E h=>?_) (fun cdv A outer s H vs Q E hr h=>?_)
 ·obtain⟨wa,p,xs,hs,rfl,_⟩:=h;rfl
 ·obtain⟨wa,p,xs,hs,rfl,hw,hwf,hh1,hh3,hpp1,hp6,h4,hL,hLA,hne,k⟩:=h
  have hl:=Au
  refine⟨_,(Ac (Aj (i:=1) Bw.nd (Ak q_jt hr.d AF (Aa (pvD 0) Ad)))
   (Ac (Aj (i:=2) Bw.nd (Av Ja (A8 (Aa Ba Ad)) (Aq (lenD Ai) (by rfl) T.len jD_ (Aa (pvD 1) Ad))))
   (Ac (AR (ptT (Ap Ej (Ah (ixLD AS) (pvD 1) Ae) Ba (Ar _)))
   (Af (Aw (pvD 2)))
   Ax)
   (Ac (EH (AL (Aa (AL Ad) (Aa (Ah (ixLD AS) (pvD 1) Ae) (Aa (AL Ad) Ad)))) (Gp (pvD 2) Ae set_list))
   (Ac (Aj (i:=3) Bw.nd (A8 (Aa Ae Ad)))
   (Ac (Aj (i:=4) Bw.nd Ae)
   (Ac (Dj jC_ (ptT (Ap (opD0 HK) (pvD 4) (Aq (lenD Ai) (by rfl) T.len jD_ (Aa (pvD 3) Ad)) (Ar _)))
   (Ac (Aj (i:=5) Bw.nd (Ah (ixLD AS) (pvD 3) (pvD 4)))
   (Ac (A0 jC_ rfl (Ih rfl T.enumerate (pvD 1)) (FF rfl (AZ (As (i:=6) Bw.nd rfl (Or.inl rfl)) (AZ (As (i:=7) Bw.nd rfl (Or.inl rfl)) DL)))
   (Af (AR (PW.pt (Ho (ptT (Ap Dm (pvD 7) Ba (Ar _))) (Fm (ptT (Ap Ej (Ah (ixLD AS) (pvD 2) (pvD 6)) Ba (Ar _))))))
   (Ac (EH (Ak q_j15 hr.d AF (Aa (pvD 0) (Aa (pvD 1) (Aa (pvD 5) (Aa (Ah (ixLD AS) (pvD 2) (pvD 5)) (Aa (pvD 6) Ad)))))) (Gp (pvD 2) (pvD 6) set_list))
   (Af (AR (ptT (Ap Dm (Ah (ixLD AS) (pvD 2) (pvD 6)) Ba (Ar _)))
   (Af (AM (B2 jt_ jz_ jA_ AA (pvD 3) (Aa (pvD 6) Ad))))
   Ax)))
   Ax)))
   (Af (OS (i:=4) Bw.nd rfl (Or.inl rfl) Ae OT)))))
   (Af (Aw (pvD 2)))))))))),?_⟩
  obtain⟨y,q1,q2,q3⟩:=id hw
  have hxl:=q3.1
  walk_at "rd"
  have h78:md80 hs.length<=78:=by
   have:hs.length=1\/hs.length=2\/hs.length=3:=by lia
   rcases this with e|e|e<;>rw[e]<;>decide
  refine⟨wa,p,xs,hs,rfl,hw,hwf,hh1,hh3,hpp1,hp6,h4,hL,fun l ys rs H1 s1 hL1 hl1 hro hrl hS=>?_⟩
  obtain⟨ps0,hps0⟩:=hL.is
  have m1:SmT H H1:=SmT.ofT s1 hps0
  have hLA1:LmA K H1:=hLA.monoT s1 hps0 hne.symm
  have hw1:=II m1 hw
  clear hw q1 q2 q3 s1 hps0
  have hyl:=hro.1
  refine⟨by lia,fun p0 hp0=>⟨l,rfl,ys,.inl ((Same.new hp0).seq (SqL.of hl1)),_,Ab,by lia,by lia,by simp;lia,fun p1 hp1=>?_⟩⟩
  have e1:(List.replicate ((ys.length:Int)).toNat [V.non]).flatten=List.replicate hs.length V.non:=by
   rw[ju_,hyl,hrl];simp
  rw[e1]
  have s2:=(Same.new hp0 (o:=.lst [V.non])).newT hp1 (o:=.lst (List.replicate hs.length V.non))
  have hp1H:H1 p1=none:=(Al hp1).1
  have hp1':upd (upd H1 p0 (.lst [V.non])) p1 (.lst (List.replicate hs.length V.non)) p1=some (.lst (List.replicate hs.length V.non)):=Ab
  generalize upd (upd H1 p0 (.lst [V.non])) p1 (.lst (List.replicate hs.length V.non))=H2 at s2 hp1' ⊢
  have hl2:=s2 _ _ hl1
  have hUO0:UO K H2 (List.replicate hs.length V.non) (List.replicate hs.length none):=⟨by simp,fun i o ho=>by
   have hm:=jl_ ho
   have hi:=(jc_.mp ho).1
   rw[qA_]at hi
   exact .inl ⟨(xj_.mp hm).2,by rw[xc_,if_pos hi]⟩⟩
  have hnone:∀(j:Nat) u,(List.replicate hs.length (none:Option (α2×α2×α2)))[j]? ≠ some (some u):=fun j u z=>by
   have:=jl_ z
   rw[xj_]at this
   cases this.2
  have h0l:0<rs.length:=by lia
  refine⟨l,rfl,_,SqL.of hl2,?_⟩
  rcases hro.2 0 rs[0] (ja_ h0l) with ⟨z,ex⟩|⟨t,tt,er,ex,eh⟩
  ·refine⟨_,(AE ex:atI ys ((0:Nat):Int)=_),?_⟩
   rw[if_pos rfl]
   refine k p1 _ (List.replicate hs.length none) H2 (m1.same s2) (hL1.mono s2) (hLA1.mono s2) hp1' hUO0 (by simp) (fun j u hu=>absurd hu (hnone j u)) (fun j hj=>⟨fun ⟨u,hu⟩=>absurd hu (hnone j u),fun hu=>?_⟩)
   exfalso
   rcases Qg hu with h|⟨_,_,row,ha⟩
   ·lia
   ·rw[show (p:Int)-p=((0:Nat):Int) by lia]at ha
    obtain⟨t,ht,_⟩:=hS.all hrl s!"" ha
    rw[ja_ h0l,z]at ht
    cases ht
  have hr0:rs[0]?=some (some t):=by rw[ja_ h0l,er]
  have hA0:=hS.s 0 t hr0
  rw[hrl]at hA0
  refine⟨_,(AE ex:atI ys ((0:Nat):Int)=_),?_⟩
  rw[if_neg (by simp)]
  refine⟨by lia,fun p2 hp2=>⟨l,rfl,_,SqL.of (Same.new hp2 _ _ hl2),_,(AE ex:atI ys ((0:Nat):Int)=_),by lia,fun p3 hp3=>⟨by lia,fun p4 hp4=>?_⟩⟩⟩
  have s3:=((Same.new hp2 (o:=.tup [])).newT hp3 (o:=.tup [])).newT hp4 (o:=.tup [V.ref p2,V.ref tt,V.ref p3])
  have h34:upd (upd (upd H2 p2 (.tup [])) p3 (.tup [])) p4 (.tup [V.ref p2,V.ref tt,V.ref p3]) p4=some (.tup [V.ref p2,V.ref tt,V.ref p3]):=Ab
  have h32:upd (upd (upd H2 p2 (.tup [])) p3 (.tup [])) p4 (.tup [V.ref p2,V.ref tt,V.ref p3]) p2=some (.tup []):=(Same.new hp4) _ _ ((Same.new hp3) _ _ Ab)
  have h33:upd (upd (upd H2 p2 (.tup [])) p3 (.tup [])) p4 (.tup [V.ref p2,V.ref tt,V.ref p3]) p3=some (.tup []):=(Same.new hp4) _ _ Ab
  generalize upd (upd (upd H2 p2 (.tup [])) p3 (.tup [])) p4 (.tup [V.ref p2,V.ref tt,V.ref p3])=H3 at s3 h34 h32 h33 ⊢
  have s13:=s2.trans s3
  have hp13:=s3 _ _ hp1'
  refine⟨_,hp13,0,by rw[qA_];exact GG s!"" s!"",by lia,fun p5 hp5=>?_⟩
  have hU3:Use3 K H3 p4 ([],t,[]):=⟨p2,tt,p3,SqT.of h34,SqT.of h32,SqT.of (s13 _ _ eh),SqT.of h33⟩
  have hUO3:UO K H3 ((List.replicate hs.length V.non).set 0 (V.ref p4)) ((List.replicate hs.length none).set 0 (some ([],t,[]))):=(hUO0.mono (fun _ _ u=>u.mono s3)).set 0 (.inr ⟨_,p4,rfl,rfl,hU3⟩)
  generalize hus0:(List.replicate hs.length (none:Option (α2×α2×α2))).set 0 (some ([],t,[]))=us0 at hUO3
  generalize (List.replicate hs.length V.non).set 0 (V.ref p4)=uv0 at hUO3 hp5 ⊢
  have hgy:Gy hs p (p:Int):=.inr ⟨by lia,by lia,t,by rw[show (p:Int)-p=((0:Nat):Int) by lia];exact hA0⟩
  have hUf0:Uf hs p us0 [0]:=by
   have hat:∀j:Nat,(∃u,us0[j]?=some (some u))->j=0:=fun j ⟨u,hu⟩=>by
    rw[<-hus0]at hu
    refine qg_ fun z=>?_
    rw[jY_ (fun e=>z e.symm)]at hu
    exact hnone j u hu
   have h00:us0[0]?=some (some ([],t,[])):=by rw[<-hus0,jM_ (by rw[qA_];lia)]
   refine⟨by rw[<-hus0];simp,by simp,fun x hx=>by rw[jb_.mp hx];lia,by simp,fun j hj=>⟨fun hm=>?_,fun hm=>?_⟩,fun j u hu=>?_,fun j u hu=>?_,fun i j u hc hu=>?_⟩
   ·have:j=0:=by have:=jb_.mp hm;lia
    subst this;exact⟨_,h00⟩
   ·rw[hat j hm];simp
   ·have:=hat j ⟨u,hu⟩
    subst this
    rw[h00]at hu
    cases hu
    exact⟨⟨fun _=>⟨rfl,rfl⟩,hA0,(fun x hx=>by rw[if_pos rfl];exact hx),fun A x _ hA=>by rw[if_pos rfl]at hA;exact hA⟩,.zero hgy⟩
   ·have:=hat j ⟨u,hu⟩
    subst this
    rw[h00]at hu
    cases hu
    have:=hS.m 0 t hr0
    show t.length<=78
    lia
   ·have:=hat j ⟨u,hu⟩
    subst this
    rw[h00]at hu
    cases hu
    exact⟨j1_ _,j1_ _⟩
  have hp5H:H1 p5=none:=s13.none (Al hp5).1
  have hp51:p5≠p1:=(Al hp5).2
  have off1:∀{Hx:Hp} {zs ws:List V} {t:Addr} {u:α2×α2×α2} {q:Addr},Hx q=some (.lst zs)->Use3 K Hx t u->Use3 K (upd Hx q (.lst ws)) t u:=fun hq hu=>hu.off hq
  have m4:SmT H1 (upd (upd H3 p1 (.lst uv0)) p5 (.lst [V.int 0])):=((SmT.of s13).over hp1H).over hp5H
  have hUO4:UO K (upd (upd H3 p1 (.lst uv0)) p5 (.lst [V.int 0])) uv0 us0:=hUO3.mono (fun _ _ u=>(off1 hp13 u).mono (Same.new hp5))
  have hL4:Lm80 K (upd (upd H3 p1 (.lst uv0)) p5 (.lst [V.int 0])):=((hL1.mono s13).off hp13).mono (Same.new hp5)
  have hLA4:LmA K (upd (upd H3 p1 (.lst uv0)) p5 (.lst [V.int 0])):=((hLA1.mono s13).off hp13).mono (Same.new hp5)
  have h41:upd (upd H3 p1 (.lst uv0)) p5 (.lst [V.int 0]) p1=some (.lst uv0):=by rw[Ag hp51.symm];exact Ab
  have h45:upd (upd H3 p1 (.lst uv0)) p5 (.lst [V.int 0]) p5=some (.lst [V.int 0]):=Ab
  generalize upd (upd H3 p1 (.lst uv0)) p5 (.lst [V.int 0])=H4 at m4 hUO4 hL4 hLA4 h41 h45 ⊢
  obtain⟨Pw,hPw⟩:∃Pv:Nat->St->Hp->Prop,∀m σ' H',Pv m σ' H'↔(∃(us:List (Option (α2×α2×α2))) (uv:List V) (cs:α2) (wk:Nat) (o5 o6 o7:Option V),SmT H1 H'/\Lm80 K H'/\LmA K H'/\H' p1=some (.lst uv)/\UO K H' uv us/\H' p5=some (.lst (cs.map V.int))/\Uf hs p us cs/\wk<=cs.length/\(∀(i c h:Nat),i<wk->cs[i]?=some (c:Int)->Edg hs p c h->∃u,us[h]?=some (some u))/\m=hs.length-wk/\σ'=[some (.ref wa),some (.ref l),some (.ref p1),some (.ref p5),some (.int wk),o5,o6,o7]):=⟨_,fun _ _ _=>j2_⟩
  refine GD Pw ⟨_,(hPw _ _ _).mpr ⟨us0,uv0,[0],0,none,none,none,m4,hL4,hLA4,h41,hUO4,h45,hUf0,by simp,(fun i c h z=>absurd z (qp_ _)),rfl,rfl⟩⟩ fun m σ' H' h'=>?_
  obtain⟨us,uv,cs,wk,o5,o6,o7,m5,hL5,hLA5,h51,hUO5,h55,hUf,hwk,hpr,hm,rfl⟩:=(hPw _ _ _).mp h'
  have hcsl:cs.length<=hs.length:=AD hs.length hUf.nd hUf.rg
  walk_at "rd"
  refine⟨_,.inl (SqL.of h55),?_⟩
  rw[jd_]
  refine ite2 (fun hlt=>?_) (fun hge=>?_)
  rotate_left
  ·have hwc:wk=cs.length:=by lia
   refine k p1 uv us H' (m1.trans m5) hL5 hLA5 h51 hUO5 hUf.ln (fun j u hu=>?_) (fun j hj=>⟨fun ⟨u,hu⟩=>(hUf.ok j u hu).2,fun hu=>?_⟩)
   ·have hj:j<hs.length:=by rw[<-hUf.ln];exact (jc_.mp hu).1
    obtain⟨i,hi,e⟩:=jT_.mp ((hUf.ky j hj).mpr ⟨u,hu⟩)
    have hle:=hUf.le i j u (by rw[ja_ hi,e]) hu
    have hl2:=hUf.l2 j u hu
    exact⟨(hUf.ok j u hu).1,by lia,hl2,by lia⟩
   ·refine Qh (G:=fun j=>∃u,us[j]?=some (some u)) (fun _=>(hUf.ky 0 s!"").mp hUf.z) (fun c h hc hG he=>?_) hu
    obtain⟨i,hi,e⟩:=jT_.mp ((hUf.ky c hc).mpr hG)
    exact hpr i c h s!"" (by rw[ja_ hi,e]) he
  have hlt:wk<cs.length:=by lia
  have hcw:cs[wk]?=some cs[wk]:=ja_ hlt
  have hcm:cs[wk]∈cs:=jB_ hlt
  generalize cs[wk]=c0 at hcw hcm
  have hcr:=hUf.rg _ hcm
  obtain⟨c,rfl⟩:∃c:Nat,c0=(c:Int):=⟨c0.toNat,by lia⟩
  have hc:c<hs.length:=by lia
  have hhc:hs[c]?=some hs[c]:=ja_ hc
  refine⟨fun σ2 H2=>∃m',m'<m/\Pw m' σ2 H2,fun _ _ h=>h,_,SqL.of h55,_,AE (by rw[jw_,hcw];rfl),ys,SqL.of (m5.lst hl1),?_⟩
  obtain⟨Pe,hPe⟩:∃Pv:Nat->St->Hp->Prop,∀i σ' H',Pv i σ' H'↔(∃(us:List (Option (α2×α2×α2))) (uv:List V) (cs2 more:α2) (o6 o7:Option V),SmT H1 H'/\Lm80 K H'/\LmA K H'/\H' p1=some (.lst uv)/\UO K H' uv us/\H' p5=some (.lst (cs2.map V.int))/\Uf hs p us cs2/\cs2=cs++more/\(∀(i' c' h:Nat),i'<wk->cs[i']?=some (c':Int)->Edg hs p c' h->∃u,us[h]?=some (some u))/\(∀h,h<i->Edg hs p c h->∃u,us[h]?=some (some u))/\σ'=[some (.ref wa),some (.ref l),some (.ref p1),some (.ref p5),some (.int wk),some (.int c),o6,o7]):=⟨_,fun _ _ _=>j2_⟩
  refine forM (xs:=ys) Pe ((hPe _ _ _).mpr ⟨us,uv,cs,[],_,_,m5,hL5,hLA5,h51,hUO5,h55,hUf,by simp,hpr,(fun h z=>absurd z (qp_ _)),rfl⟩) (fun i σ' H' _ h'=>by obtain⟨_,_,_,_,_,_,m6,_⟩:=(hPe _ _ _).mp h';exact SqL.of (m6.lst hl1)) (fun i v σ6 H6 t hv h6 ht=>?_) (fun σ6 H6 h6=>?_)
  ·obtain⟨us,uv,cs2,more,o6,o7,m6,hL6,hLA6,h61,hUO6,h65,hUf6,ecs,hpr6,hpi6,rfl⟩:=(hPe _ _ _).mp h6
   have hil:i<rs.length:=by rw[<-hro.1];exact (jc_.mp hv).1
   have hih:i<hs.length:=by lia
   walk_at "rd"
   have sT:=Same.new ht (o:=.tup [V.int i,v])
   have m7:=m6.same sT
   have hL7:=hL6.mono sT
   have hLA7:=hLA6.mono sT
   have h71:=sT _ _ h61
   have h75:=sT _ _ h65
   have hUO7:=hUO6.mono (fun _ _ u=>u.mono sT)
   have htT:SqT K (upd H6 t (.tup [V.int i,v])) t [V.int i,v]:=SqT.of Ab
   generalize upd H6 t (.tup [V.int i,v])=H7 at sT m7 hL7 hLA7 h71 h75 hUO7 htT ⊢
   refine⟨_,htT,rfl,_,_,rfl,_,_,rfl,rfl,?_⟩
   have hlast:∀{us':List (Option (α2×α2×α2))},(∀(h:Nat),(∃u,us[h]?=some (some u))->∃u,us'[h]?=some (some u))->(Edg hs p c i->∃u,us'[i]?=some (some u))->(∀h,h<i+1->Edg hs p c h->∃u,us'[h]?=some (some u)):=fun {us'} hsub hi h hh he=>by
    by_cases e:h=i
    ·subst e;exact hi he
    ·exact hsub h (hpi6 h s!"" he)
   rcases hro.at hv with ⟨hv1,rfl⟩|⟨r,tr,hv1,rfl,htr⟩
   ·rw[if_neg (by decide)]
    refine (hPe _ _ _).mpr ⟨us,uv,cs2,more,_,_,m7,hL7,hLA7,h71,hUO7,h75,hUf6,ecs,hpr6,hlast (fun _ z=>z) (fun he=>?_),rfl⟩
    exfalso
    obtain⟨_,_,_,hg,_⟩:=he
    rcases hg with h|⟨_,_,row,ha⟩
    ·lia
    ·rw[show (p:Int)+i-p=(i:Int) by lia]at ha
     obtain⟨t,ht,_⟩:=hS.all hrl hih ha
     rw[hv1]at ht;cases ht
   ·rw[if_pos (by simp)]
    have hiu:i<us.length:=by rw[hUf6.ln];exact hih
    have hui:us[i]?=some us[i]:=ja_ hiu
    generalize us[i]=ou at hui
    rcases hUO7.2 i _ hui with ⟨z,exu⟩|⟨u,tu,eu,exu,hu3⟩
    rotate_left
    ·refine⟨_,i,rfl,SqL.of h71,_,AE exu,?_⟩
     rw[if_neg (by simp)]
     exact (hPe _ _ _).mpr ⟨us,uv,cs2,more,_,_,m7,hL7,hLA7,h71,hUO7,h75,hUf6,ecs,hpr6,hlast (fun _ z=>z) (fun _=>⟨u,by rw[hui,eu]⟩),rfl⟩
    subst z
    refine⟨_,i,rfl,SqL.of h71,_,AE exu,?_⟩
    rw[if_pos rfl]
    obtain⟨uc,huc⟩:=(hUf6.ky c hc).mp (by rw[ecs];exact jr_ _ hcm)
    rcases hUO7.2 c _ huc with ⟨z,_⟩|⟨uc',tc,ec,exc,hc3⟩
    ·cases z
    cases ec
    have hle:=hUf6.le wk c uc (by rw[ecs,jg_ hlt];exact hcw) huc
    have hi0:i≠0:=fun z=>by
     subst z
     obtain⟨u0,hu0⟩:=(hUf6.ky 0 s!"").mp hUf6.z
     rw[hui]at hu0;cases hu0
    have hAi:=hS.s i r hv1
    rw[hrl]at hAi
    have hri:=hS.m i r hv1
    have hiuv:i<uv.length:=by rw[hUO7.1];exact hiu
    refine⟨_,SqL.of h71,_,AE exc,wa,l,tc,p,c,i,xs,ys,hs,rs,uc,hs[c],r,rfl,II m7 hw1,hwf,hh3,by lia,hp6,h4,m7.lst hl1,hro.mono m7.tk,hrl,hS,hhc,hv1,hc3,by lia,by lia,hL7,hLA7,hne,fun o v' H8 m8 hL8 hLA8 hv' hso hco=>?_⟩
    have h81:=m8.lst h71
    have h85:upd H8 p1 (.lst (uv.set i v')) p5=some (.lst (cs2.map V.int)):=by rw[Ag hp51];exact m8.lst h75
    have m9:SmT H1 (upd H8 p1 (.lst (uv.set i v'))):=(m7.trans m8).over hp1H
    have hL9:Lm80 K (upd H8 p1 (.lst (uv.set i v'))):=hL8.off h81
    have hLA9:LmA K (upd H8 p1 (.lst (uv.set i v'))):=hLA8.off h81
    refine⟨_,i,rfl,h81,i,GG s!"" s!"",_,i,rfl,SqL.of Ab,v',AE (by rw[jM_ hiuv]),?_⟩
    rcases hv' with ⟨eo,rfl⟩|⟨a,b,q,eo,rfl,hq3⟩
    ·rw[if_neg (by decide)]
     have e0:us.set i none=us:=by
      refine xN_ fun j=>?_
      by_cases e:i=j
      ·subst e;rw[jM_ hiu,hui]
      ·rw[jY_ e]
     have hUO9:UO K (upd H8 p1 (.lst (uv.set i .non))) (uv.set i .non) us:=by
      have:=(hUO7.mono (fun _ _ u=>Ki m8 u)).set i (v:=.non) (o:=none) (.inl ⟨rfl,rfl⟩)
      rw[e0]at this
      exact this.mono (fun _ _ u=>u.off h81)
     refine (hPe _ _ _).mpr ⟨us,_,cs2,more,_,_,m9,hL9,hLA9,Ab,hUO9,h85,hUf6,ecs,hpr6,hlast (fun _ z=>z) (fun he=>?_),rfl⟩
     exfalso
     obtain⟨_,r',hr',_,u,v,hu,hv,hm'⟩:=he
     rw[hhc]at hr'
     cases hr'
     have:=hco u v hu hv hm'
     rw[eo]at this;cases this
    ·rw[if_pos (by simp)]
     obtain⟨la,lb,s,ga,s',gb,gm⟩:=hso a b eo
     have hal:=Ee (p:Int) c uc
     have hbl:=Dz ((p:Int)+hs.length) c uc
     have hUOk:=(hUf6.ok c uc huc).1.step hi0 hhc hih ga gb gm hAi
     have hUsd:Usd hs p i:=.step (hUf6.ok c uc huc).2 (S1 hhc hih ga gb gm hAi)
     have hUf9:=hUf6.put hih hui hUOk hUsd (w:=wk) (by rw[ecs,jf_];lia) ⟨by simp;lia,by simp;lia⟩ (show r.length<=78 by lia)
     have hUO9:=((hUO7.mono (fun _ _ u=>Ki m8 u)).set i (v:=.ref q) (.inr ⟨_,q,rfl,rfl,hq3⟩)).mono (fun _ _ u=>(u.off h81 (ys:=uv.set i (.ref q))))
     have hc2l:cs2.length<=hs.length:=AD hs.length hUf6.nd hUf6.rg
     have sub:∀h:Nat,(∃u,us[h]?=some (some u))->∃u,(us.set i (some (Cn (p:Int) c uc++a,r,b++Bz ((p:Int)+hs.length) c uc)))[h]?=some (some u):=fun h ⟨u,hu⟩=>by
      by_cases e:i=h
      ·subst e;exact⟨_,jM_ hiu⟩
      ·exact⟨u,by rw[jY_ e];exact hu⟩
     refine⟨.inl ⟨rfl,_,SqL.of h85⟩,_,h85,by rw[jd_];lia,(hPe _ _ _).mpr ⟨_,_,cs2++[(i:Int)],more++[(i:Int)],_,_,m9.over hp5H,hL9.off h85,hLA9.off h85,by rw[Ag hp51.symm];exact Ab,hUO9.mono (fun _ _ u=>u.off h85),by rw[Ab,jI_];rfl,hUf9,by rw[ecs,jX_],fun i' c' h hi hc' he=>sub h (hpr6 i' c' h hi hc' he),hlast sub (fun _=>⟨_,jM_ hiu⟩),rfl⟩⟩
  ·obtain⟨us,uv,cs2,more,o6,o7,m6,hL6,hLA6,h61,hUO6,h65,hUf6,ecs,hpr6,hpi6,rfl⟩:=(hPe _ _ _).mp h6
   rw[hyl,hrl]at hpi6
   walk_at "rd"
   refine⟨hs.length-(wk+1),by lia,(hPw _ _ _).mpr ⟨us,uv,cs2,wk+1,_,_,_,m6,hL6,hLA6,h61,hUO6,h65,hUf6,by rw[ecs,jf_];lia,fun i c' h hi hc' he=>?_,rfl,by rw[jQ_];rfl⟩⟩
   by_cases e:i=wk
   ·subst e
    rw[ecs,jg_ hlt,hcw]at hc'
    have:c'=c:=by
     have:(c:Int)=c':=by simpa using hc'
     lia
    subst this
    exact hpi6 h he.1 he
   ·rw[ecs,jg_ s!""]at hc'
    exact hpr6 i c' h s!"" hc' he
open Nest (spreadN dueN outW)
theorem FT {p e:Int}{rows:α1}{ws:α2}{i:Nat}{x:Int}(h:ws[i]?=some x):spreadN p e rows (ws.take (i+1))=spreadN p e rows (ws.take i)++(if p<=x then x::(rows.getD (x-p).toNat []++[e]) else [x]):=by
 unfold spreadN
 rw[jF_,h,List.flatMap_append];simp
theorem La {rows:α1}{n:Nat}(h:∀r∈rows,r.length<=n)(i:Nat):(rows.getD i []).length<=n:=by
 rw[js_]
 cases e:rows[i]? with
 |none=>simp
 |some r=>exact h r (jl_ e)
theorem DA {p e:Int}{rows:α1}(hr:∀r∈rows,r.length<=78):∀ws:α2,(spreadN p e rows ws).length<=80*ws.length
 |[]=>jh_ _
 |x::ws=>by
  have ih:=DA (p:=p) (e:=e) hr ws
  have e1:spreadN p e rows (x::ws)=(if p<=x then x::(rows.getD (x-p).toNat []++[e]) else [x])++spreadN p e rows ws:=by unfold spreadN;rw[zh_]
  have e2:(if p<=x then x::(rows.getD (x-p).toNat []++[e]) else [x]).length<=80:=by
   split
   ·have:=La hr (x-p).toNat
    rw[jR_,jf_,jq_];lia
   ·simp
  rw[e1,jf_,jR_];lia
noncomputable def Te (K:α3)(H:Hp)(p e:Int)(xs:List V)(rows:α1)(ws:α2):Prop:=∀x∈ws,0<=x/\x<e/\(p<=x->∃t,xs[(x-p).toNat]?=some (.ref t)/\SqT K H t ((rows.getD (x-p).toNat []).map V.int))
noncomputable def G4 (K:α3):Sp:=fun vs H Q _=>∃(p h:Int) (a l:Addr) (ws:α2) (xs:List V) (rows:α1),vs=[.int p,.int h,.ref a,.ref l]/\SqT K H a (ws.map V.int)/\SqL K H l xs/\Te K H p (p+h) xs rows ws/\(∀r∈rows,r.length<=78)/\ws.length<=63/\∀t H',Same H H'->SqT K H' t ((spreadN p (p+h) rows ws).map V.int)->Q (.ref t) H'
theorem NH   (F:Fun K "spread" "spread" Gj f fd)(T:Txt mg)
  (Z:Exs K mg C_j2 C_j1 C_j4)
   (q_ji:Cal P w K mg base CX0 1 "end_sign" CA ["plain","helpers"] (Dv) Ed Dx)
  : FnOk P w K mg base CX0 2 f fd ["plain","helpers","local","rows"] (G4 K):=by
 refine F.ok GO (fun vs H Q E h=>?_) (fun cdv A outer s H vs Q E hr h=>?_)
 ·obtain⟨p,h,a,l,ws,xs,rows,rfl,_⟩:=h;rfl
 ·obtain⟨p,h,a,l,ws,xs,rows,rfl,ha,hl,hC,hr8,hz,k⟩:=h
  have hln:=Au
  refine⟨_,(Ac (Aj (i:=4) GO.nd (A8 Ad))
   (Ac (A0 jC_ rfl (IP (pvD 2)) (As (i:=5) GO.nd rfl (Or.inl rfl))
   (Ac (AM (B2 jt_ jz_ jA_ AA (pvD 4) (Aa (pvD 5) Ad)))
   (Af (AR (ptT (Ap (opD0 LU) (pvD 5) (pvD 0) (Ar _)))
   (Ac (AM (B2 jt_ PySem.F.slot_list_extend PySem.F.type_list_extend Ls (pvD 4) (Aa (Ah (ixLD AS) (pvD 3) (Av (opD0 Gq) (pvD 5) (pvD 0))) Ad)))
   (Af (AM (B2 jt_ jz_ jA_ AA (pvD 4) (Aa (Ak q_ji hr.d AF (Aa (pvD 0) (Aa (pvD 1) Ad))) Ad)))))
   Ax))))
   (Af (Aw (AJ AG rfl T.tuple jO_ (Aa (pvD 4) Ad)))))),?_⟩
  walk_at "rd"
  refine⟨by lia,fun q hq=>?_⟩
  have s0:=Same.new hq (o:=.lst [])
  refine⟨⟨_,s0.seqT ha⟩,?_⟩
  obtain⟨Pv,hPv⟩:∃Pv:Nat->St->Hp->Prop,∀i σ' H',Pv i σ' H'↔(Same H H'/\H' q=some (.lst ((spreadN p (p+h) rows (ws.take i)).map V.int))/\∃o,σ'=[some (.int p),some (.int h),some (.ref a),some (.ref l),some (.ref q),o]):=⟨_,fun _ _ _=>j2_⟩
  refine forT (xs:=ws.map V.int) Pv ((hPv _ _ _).mpr ⟨s0,by rw[Ab];rfl,none,rfl⟩) (fun i σ2 H2 _ h2=>((hPv _ _ _).mp h2).1.seqT ha) (fun i x σ2 H2 hxi h2=>?_) (fun σ2 H2 h2=>?_)
  ·obtain⟨s2,hq2,o,rfl⟩:=(hPv _ _ _).mp h2
   obtain⟨n,hn,rfl⟩:=A1 hxi
   have hi:=(jc_.mp hn).1
   obtain⟨n0,n1,n2⟩:=hC n (jl_ hn)
   have hlen:=DA (p:=p) (e:=p+h) hr8 (ws.take i)
   rw[j5_]at hlen
   walk_at "rd"
   refine⟨.inl ⟨rfl,_,SqL.of hq2⟩,_,hq2,by rw[jd_];lia,?_⟩
   have s3:Same H (upd H2 q (.lst ((spreadN p (p+h) rows (ws.take i)).map V.int++[V.int n]))):=s2.over hq
   by_cases hp:p<=n
   ·rw[if_pos hp]
    obtain⟨t,ht1,ht2⟩:=n2 hp
    have hr8':=La hr8 (n-p).toNat
    refine⟨.inl ⟨rfl,_,SqL.of Ab⟩,_,s3.seq hl,_,Mu s!"" ht1,t,rfl,_,Ab,_,s3.seqT ht2,by rw[jf_,jd_,jd_,jq_];lia,.inl ⟨rfl,_,SqL.of Ab⟩,p,h,rfl,_,Ab,by rw[jf_,jf_,jd_,jd_,jq_];lia,(hPv _ _ _).mpr ⟨(s3.over hq).over hq,?_,_,rfl⟩⟩
    rw[Ab,FT hn,if_pos hp]
    simp
   ·rw[if_neg hp]
    refine (hPv _ _ _).mpr ⟨s3,?_,_,rfl⟩
    rw[Ab,FT hn,if_neg hp]
    simp
  ·obtain⟨s2,hq2,o,rfl⟩:=(hPv _ _ _).mp h2
   rw[jd_,jL_]at hq2
   walk_at "rd"
   exact⟨_,.inl ⟨SqL.of hq2,fun t ht=>k t _ (s2.newT ht) (SqT.of Ab)⟩⟩
noncomputable def E4 (K:α3):Sp:=fun vs H Q _=>∃(p h j:Int) (t a:Addr) (u:α2×α2×α2) (ws:α2),vs=[.int p,.int h,.int j,.ref t,.ref a]/\Use3 K H t u/\u.1.length<=723/\u.2.2.length<=723/\SqT K H a (ws.map V.int)/\ws.length<=6000/\∀q H',Same H H'->SqT K H' q ((Cn p j u++ws++Bz (p+h) j u).map V.int)->Q (.ref q) H'
theorem Kj   (F:Fun K "row_with" "row_with" Ec f fd)(T:Txt mg)
  (Z:Exs K mg C_j2 C_j1 C_j4)
   (q_ju:Cal P w K mg base CX0 1 "ahead_of" C9 ["plain","j","use"] (IF K) Fy EA)
   (q_jo:Cal P w K mg base CX0 2 "behind_of" CF ["plain","helpers","j","use"] (GZ K) EB D4)
  : FnOk P w K mg base CX0 3 f fd ["plain","helpers","j","use","stretch"] (E4 K):=by
 refine F.ok J6 (fun vs H Q E h=>?_) (fun cdv A outer s H vs Q E hr h=>?_)
 ·obtain⟨p,h,j,t,a,u,ws,rfl,_⟩:=h;rfl
 ·obtain⟨p,h,j,t,a,u,ws,rfl,hu,l1,l2,ha,hz,k⟩:=h
  have hln:=Au
  have la:=Ee p j u
  have lb:=Dz (p+h) j u
  refine⟨_,(Af (Aw (Av BK (Av BK (Ak q_ju hr.d AF (Aa (pvD 0) (Aa (pvD 2) (Aa (pvD 3) Ad)))) (pvD 4)) (Ak q_jo hr.d AF (Aa (pvD 0) (Aa (pvD 1) (Aa (pvD 2) (Aa (pvD 3) Ad)))))))),?_⟩
  walk_at "rd"
  refine⟨p,j,t,u,rfl,hu,by lia,fun q1 H1 s1 hq1=>?_⟩
  refine Cg.of hq1 (s1.seqT ha) (by simp;lia) fun q2 H2 s2 hq2=>?_
  refine⟨p,h,j,t,u,rfl,hu.mono (s1.trans s2),by lia,fun q3 H3 s3 hq3=>?_⟩
  refine Cg.of (s3.seqT hq2) hq3 (by simp;lia) fun q4 H4 s4 hq4=>k q4 H4 (((s1.trans s2).trans s3).trans s4) (by simpa using hq4)
noncomputable def F6 (us:List (Option (α2×α2×α2))):α1:=us.map fun o=>(o.map fun u=>u.2.1).getD []
noncomputable def NJ (K:α3):Sp:=fun vs H Q _=>∃(p h j:Nat) (l a:Addr) (xs:List V) (us:List (Option (α2×α2×α2))) (u:α2×α2×α2) (ws:α2),vs=[.int p,.int h,.int j,.ref l,.ref a]/\SqL K H l xs/\UO K H xs us/\us[j]?=some (some u)/\(∀(i:Nat) u,us[i]?=some (some u)->u.1.length<=723/\u.2.1.length<=78/\u.2.2.length<=723)/\us.length=h/\us.length<=3/\SqT K H a (ws.map V.int)/\ws.length<=63/\(∀x∈ws,0<=x/\x<(p:Int)+h/\((p:Int)<=x->∃v,us[(x-p).toNat]?=some (some v)))/\∀q H',Same H H'->SqT K H' q ((Cn p j u++Nest.spreadN p ((p:Int)+h) (F6 us) ws++Bz ((p:Int)+h) j u).map V.int)->Q (.ref q) H'
theorem LI   (F:Fun K "row_for" "row_for" EU f fd)(T:Txt mg)
  (Z:Exs K mg C_j2 C_j1 C_j4)
   (q_j14:Cal P w K mg base CX0 2 "spread" Gj ["plain","helpers","local","rows"] (G4 K) Lb Jy)
   (q_j10:Cal P w K mg base CX0 3 "row_with" Ec ["plain","helpers","j","use","stretch"] (E4 K) Hz G8)
  : FnOk P w K mg base CX0 4 f fd ["plain","helpers","j","uses","local"] (NJ K):=by
 refine F.ok Hw (fun vs H Q E h=>?_) (fun cdv A outer s H vs Q E hr h=>?_)
 ·obtain⟨p,h,j,l,a,xs,us,u,ws,rfl,_⟩:=h;rfl
 ·obtain⟨p,h,j,l,a,xs,us,u,ws,rfl,hl,hus,huj,h8,hh,hul,ha,hz,hx,k⟩:=h
  have hln:=Au
  refine⟨_,(Ac (Ey (i:=5) Hw.nd rfl rfl rfl (DR rfl) (cp:=GS) True.intro (BI (pvD 3)) (fun _ _ _ _=>(As (i:=0) Hh rfl (Or.inl rfl))) (fun _ _ _ _=>FH) (fun _ _ _ _=>(Ga (ptT (Ap Ej (pvD 0) Ba (Ar _))) Ba (Ah (ixTD (GF (K:=K) rfl)) (pvD 0) Ae))))
   (Af (Aw (Ak q_j10 hr.d AF (Aa (pvD 0) (Aa (pvD 1) (Aa (pvD 2) (Aa (Ah (ixLD AS) (pvD 3) (pvD 2)) (Aa (Ak q_j14 hr.d AF (Aa (pvD 0) (Aa (pvD 1) (Aa (pvD 4) (Aa (pvD 5) Ad))))) Ad))))))))),?_⟩
  walk_at "rd"
  refine⟨⟨_,hl⟩,?_⟩
  obtain⟨Pv,hPv⟩:∃Pv:Nat->List V->St->Hp->Prop,∀i ys σ2 H2,Pv i ys σ2 H2↔(H2=H/\ys.length=i/\(∀(m:Nat) (v:α2×α2×α2),m<i->us[m]?=some (some v)->∃b,ys[m]?=some (.ref b)/\SqT K H b (v.2.1.map V.int))/\∃o,σ2=[o]):=⟨_,fun _ _ _ _=>j2_⟩
  refine QF (xs:=xs) Pv ((hPv _ _ _ _).mpr ⟨rfl,rfl,fun m v hm=>absurd hm (qp_ _),none,rfl⟩) (by rw[hus.1];lia) (fun i ys σ2 H2 _ h2=>?_) (fun i x ys σ2 H2 hxi h2=>?_) (fun ys σ2 H2 h2 D hD=>?_)
  ·obtain⟨rfl,hyl,_⟩:=(hPv _ _ _ _).mp h2
   exact⟨hl,by lia⟩
  ·obtain⟨rfl,hyl,hall,o,rfl⟩:=(hPv _ _ _ _).mp h2
   have hi:i<us.length:=by rw[<-hus.1];exact (jc_.mp hxi).1
   have hui:us[i]?=some us[i]:=by simp[hi]
   walk_at "rd"
   have step:∀v:V,(∀w,us[i]=some w->∃b,v=.ref b/\SqT K H2 b (w.2.1.map V.int))->Pv (i+1) (ys++[v]) [some x] H2:=fun v hv=>by
    refine (hPv _ _ _ _).mpr ⟨rfl,by simp[hyl],fun m w hm hw=>?_,_,rfl⟩
    by_cases hmi:m<i
    ·obtain⟨b,b1,b2⟩:=hall m w hmi hw
     exact⟨b,by rw[jg_ s!""];exact b1,b2⟩
    ·have:m=i:=by lia
     subst this
     rw[hui]at hw
     obtain⟨b,b1,b2⟩:=hv w (jH_ hw)
     exact⟨b,by rw[<-hyl,b1];simp,b2⟩
   rcases hus.2 i _ hui with ⟨z,ex⟩|⟨u',t,eu,ex,e2⟩
   ·rw[hxi]at ex
    cases ex
    rw[if_pos rfl]
    exact step _ (fun w e=>by rw[z]at e;cases e)
   ·rw[hxi]at ex
    cases ex
    obtain⟨ta,tb,tc,q1,q2,q3,q4⟩:=e2
    rw[if_neg (by simp)]
    exact⟨t,rfl,_,q1,_,rfl,step _ (fun w e=>by rw[eu]at e;cases e;exact⟨tb,rfl,q3⟩)⟩
  ·obtain⟨rfl,hyl,hall,_⟩:=(hPv _ _ _ _).mp h2
   have sD:=Same.new hD (o:=.lst ys)
   rcases hus.2 j _ huj with ⟨z,_⟩|⟨u',t,eu,e1,e2⟩
   ·cases z
   cases eu
   have h8u:=h8 j u huj
   have hr8:∀r∈F6 us,r.length<=78:=fun r hr=>by
    obtain⟨v,hv,rfl⟩:=qh_.mp hr
    cases v with
    |none=>exact j1_ _
    |some v=>
     obtain⟨m,hm,e⟩:=jT_.mp hv
     exact (h8 m v (by rw[ja_ hm,e])).2.1
   have hsl:=DA (p:=(p:Int)) (e:=(p:Int)+h) hr8 ws
   walk_at "rd"
   refine⟨_,sD.seq hl,_,AE e1,p,h,a,D,ws,ys,F6 us,rfl,sD.seqT ha,SqL.of Ab,fun x hxw=>?_,hr8,hz,fun q1 H3 s3 hq1=>⟨p,h,j,t,q1,u,_,rfl,e2.mono (sD.trans s3),h8u.1,h8u.2.2,hq1,by lia,fun q2 H4 s4 hq2=>k q2 H4 ((sD.trans s3).trans s4) hq2⟩⟩
   obtain⟨x0,x1,x2⟩:=hx x hxw
   refine⟨x0,x1,fun hp=>?_⟩
   obtain⟨v,hv⟩:=x2 hp
   obtain⟨b,b1,b2⟩:=hall _ v (by rw[hus.1];exact (jc_.mp hv).1) hv
   refine⟨b,b1,?_⟩
   have:(F6 us).getD (x-p).toNat []=v.2.1:=by
    unfold F6
    rw[js_,jw_,hv];rfl
   rw[this]
   exact sD.seqT b2
structure WoC (bl:List (Option (α2)))(L n:Nat)(ways ways':α1):Prop where
 g:∀(s x:Int),0<=s->s<n->0<=x->x<L->Gx bl x->An ways' s x=An ways s x
 b:∀(s x:Int),0<=s->s<n->0<=x->x<L->¬ Gx bl x->An ways' s x=n
 z:∀(x:Int),0<=x->x<L->An ways' n x=n
theorem WoC.walk {bl:List (Option (α2))}{L:Nat}{marks:α2}{ways ways':α1}(h:WoC bl L marks.length ways ways')(wf:Wf L marks ways):∀(w:α2) (s:Int),(∀x∈w,0<=x/\x<(L:Int))->0<=s->s<marks.length->((∀x∈w,Gx bl x)/\w.foldl (An ways') s=w.foldl (An ways) s/\0<=w.foldl (An ways) s/\w.foldl (An ways) s<marks.length)\/(¬ (∀x∈w,Gx bl x)/\w.foldl (An ways') s=marks.length)
 |[],s,_,h0,h1=>.inl ⟨(fun _ z=>nomatch z),rfl,h0,h1⟩
 |x::w,s,hw,h0,h1=>by
  have hx:=hw x jv_
  have hw':∀y∈w,0<=y/\y<(L:Int):=fun y hy=>hw y (jx_ _ hy)
  have lost:∀v:α2,(∀y∈v,0<=y/\y<(L:Int))->v.foldl (An ways') (marks.length:Int)=marks.length:=by
   intro v
   induction v with
   |nil=>intro _;rfl
   |cons y v ih=>
    intro hv
    have hy:=hv y jv_
    rw[qo_,h.z y hy.1 hy.2]
    exact ih (fun z hz=>hv z (jx_ _ hz))
  by_cases hg:Gx bl x
  ·obtain⟨row,gg,r1,r2,r3,r4,r5⟩:=wf.step h0 h1 hx.1 hx.2
   rcases h.walk wf w (An ways s x) hw' s!"" s!"" with ⟨a,b,c⟩|⟨a,b⟩
   ·refine .inl ⟨fun y hy=>(jJ_.mp hy).elim (fun e=>e ▸ hg) (a y),?_,c⟩
    rw[qo_,h.g s x h0 h1 hx.1 hx.2 hg];exact b
   ·refine .inr ⟨fun z=>a (fun y hy=>z y (jx_ _ hy)),?_⟩
    rw[qo_,h.g s x h0 h1 hx.1 hx.2 hg];exact b
  ·refine .inr ⟨fun z=>hg (z x jv_),?_⟩
   rw[qo_,h.b s x h0 h1 hx.1 hx.2 hg]
   exact lost w hw'
theorem Ri  : mk80 (marks++[0]) (marks.length:Int)=0:=by
 unfold mk80
 rw[js_,ju_];simp
theorem S3   (h0:0<=s)(h1:s<marks.length):mk80 (marks++[0]) s=mk80 marks s:=by
 unfold mk80
 rw[js_,js_,jg_ s!""]
theorem WoC.takes {bl:List (Option (α2))}{L:Nat}{marks:α2}{ways ways':α1}(h:WoC bl L marks.length ways ways')(wf:Wf L marks ways){w:α2}(hw:∀x∈w,0<=x/\x<(L:Int)):mk80 (marks++[0]) (w.foldl (An ways') 0)≠0↔(∀x∈w,Gx bl x)/\mk80 marks (w.foldl (An ways) 0)≠0:=by
 have hn1:=wf.n1
 rcases h.walk wf w 0 hw s!"" s!"" with ⟨a,b,c,d⟩|⟨a,b⟩
 ·rw[b,S3 c d]
  exact⟨fun z=>⟨a,z⟩,fun z=>z.2⟩
 ·rw[b,Ri]
  exact⟨fun z=>absurd rfl z,fun z=>absurd z.1 a⟩
noncomputable def wcR (p n:Nat)(rs:List (Option (α2)))(row:α2):α2:=row.take p++List.zipWith (fun (g:Int) (o:Option (α2))=>if o.isNone then (n:Int) else g) (row.drop p) rs
theorem Rj    (h:row.length=p+rs.length):(wcR p n rs row).length=p+rs.length:=by
 unfold wcR
 rw[jf_,j5_,zb_,xe_];lia
theorem Qk {p n:Nat}{rs:List (Option (α2))}{row:α2}(h:row.length=p+rs.length){x:Nat}(hx:x<p+rs.length):(Gx (blR p rs) (x:Int)->(wcR p n rs row).getD x 0=row.getD x 0)/\(¬ Gx (blR p rs) (x:Int)->(wcR p n rs row).getD x 0=n):=by
 unfold wcR
 rw[js_,js_]
 by_cases hp:x<p
 ·rw[jg_ (by rw[j5_];lia),List.getElem?_take,if_pos hp]
  refine⟨fun _=>rfl,fun z=>absurd ⟨by lia,[(x:Int)],?_⟩ z⟩
  rw[ju_];exact K0 hp
 ·obtain⟨i,rfl⟩:∃i,x=p+i:=⟨x-p,by lia⟩
  have hi:i<rs.length:=by lia
  rw[jp_ (by rw[j5_];lia),j5_,show p+i-min p row.length=i by lia,List.getElem?_zipWith,List.getElem?_drop,ja_ (show p+i<row.length by lia),ja_ hi]
  have hb:(blR p rs)[p+i]?=some (EY p rs.length rs i):=K1 hi
  cases ho:rs[i] with
  |none=>
   refine⟨fun ⟨_,v,hv⟩=>?_,fun _=>rfl⟩
   rw[ju_,hb]at hv
   unfold EY at hv
   rw[ja_ hi,ho]at hv
   cases hv
  |some r=>
   refine⟨fun _=>rfl,fun z=>absurd ⟨by lia,((p:Int)+i)::(r++[(p:Int)+rs.length]),?_⟩ z⟩
   rw[ju_,hb]
   unfold EY
   rw[ja_ hi,ho];rfl
theorem S4 {p n:Nat}{rs:List (Option (α2))}{row:α2}(h:∀x∈row,0<=x/\x<(n:Int)):∀x∈wcR p n rs row,0<=x/\x<((n+1:Nat):Int):=fun x hx=>by
 unfold wcR at hx
 rcases jj_.mp hx with hx|hx
 ·have:=h x (xr_ hx);lia
 ·obtain⟨i,hi,e⟩:=jT_.mp hx
  rw[List.getElem_zipWith]at e
  rw[zb_]at hi
  have:=h _ (List.mem_of_mem_drop (jB_ (show i<(row.drop p).length by lia)))
  split at e<;>lia
theorem IJ    (h:ways[s.toNat]?=some row):An ways s x=row.getD x.toNat 0:=by
 have e:ways.getD s.toNat []=row:=by rw[js_,h];rfl
 unfold An
 rw[e]
theorem Rk (xs:List V)(m:Nat)(h:m<=xs.length):cutV xs none (some (m:Int))=xs.take m:=by
 unfold cutV
 rw[HT.sIx_nat,show min m xs.length=m by lia];simp[HT.sIx]
theorem Rl (xs:List V)(m:Nat)(h:m<=xs.length):cutV xs (some (m:Int)) none=xs.drop m:=by
 unfold cutV
 rw[HT.sIx_nat,show min m xs.length=m by lia]
 exact List.take_of_length_le (by rw[xe_];exact jh_ _)
noncomputable def NL (K:α3):Sp:=fun vs H Q _=>∃(h l:Addr) (p L:Nat) (marks:α2) (ways:α1) (ys:List V) (rs:List (Option (α2))),vs=[.int p,.ref h,.ref l]/\Bc K H h L marks ways/\Wf L marks ways/\marks.length<=4/\L=p+rs.length/\SqL K H l ys/\RO H ys rs/\∀h' ways' H',Same H H'->Bc K H' h' L (marks++[0]) ways'->Wf L (marks++[0]) ways'->WoC (blR p rs) L marks.length ways ways'->Q (.ref h') H'
theorem F7   (F:Fun K "without_calls" "without_calls" BM f fd)(T:Txt mg)
  (Z:Exs K mg C_j2 C_j1 C_j4)
  : FnOk P w K mg base CX0 1 f fd ["plain","house","rows"] (NL K):=by
 refine F.ok Bh (fun vs H Q E h=>?_) (fun cdv A outer s H vs Q E hr h=>?_)
 ·obtain⟨h,l,p,L,marks,ways,ys,rs,rfl,_⟩:=h;rfl
 ·obtain⟨h,l,p,L,marks,ways,ys,rs,rfl,hh,wf,hm4,hL,hl',hro,k⟩:=h
  have hln:=Au
  have hn1:=wf.n1
  have hl6:=wf.l6
  refine⟨_,(Ac (EI (i:=3) Bh.nd rfl (Or.inr rfl) (Aq (lenD Ai) (by rfl) T.len jD_ (Aa (Ah (ixTD Am) (pvD 1) Ae) Ad)))
   (Ac (Aj (i:=4) Bh.nd (A8 Ad))
   (Ac (A0 jC_ rfl (IP (Ah (ixTD Am) (pvD 1) Ae)) (As (i:=5) Bh.nd rfl (Or.inl rfl))
   (Ac (Aj (i:=6) Bh.nd (AJ CP rfl T.list qW_ (Aa (EJ M7 (pvD 5) JJ (Eu (pvD 0))) Ad)))
   (Ac (AM (B2 jt_ PySem.F.slot_list_extend PySem.F.type_list_extend Mc (pvD 6) (Aa (Ia rfl (DR rfl) (cp:=Dc) ⟨⟨rfl,rfl⟩,True.intro⟩ (M4 rfl T.zip (Aa (EJ M7 (pvD 5) (Eu (pvD 0)) JJ) (Aa (pvD 2) Ad))) (fun _ _ _ _=>(QU (K:=K) (n:=2) rfl rfl (AZ (As (i:=0) Cj rfl (Or.inl rfl)) (AZ (As (i:=1) Cj rfl (Or.inl rfl)) DL)))) (fun _ _ _ _=>FH) (fun _ _ _ _=>(Ga (ptT (Ap Ej (pvD 1) Ba (Ar _))) (pvD 2) (pvD 0)))) Ad)))
   (Af (AM (B2 jt_ jz_ jA_ AA (pvD 4) (Aa (AJ AG rfl T.tuple jO_ (Aa (pvD 6) Ad)) Ad)))))))
   (Af (Aw (AL (Aa (Ah (ixTD Am) (pvD 1) Ae) (Aa (Av BK (Ah (ixTD Am) (pvD 1) Ae) (AL (Aa Ae Ad))) (Aa (Av BK (AJ AG rfl T.tuple jO_ (Aa (pvD 4) Ad)) (AL (Aa (Av QJ (AL (Aa (pvD 3) Ad)) (Ah (ixTD Am) (pvD 1) Ae)) Ad))) Ad))))))))),?_⟩
  obtain⟨tm,tw,q1,q2,ts,q3,q4,q5⟩:=id hh
  walk_at "rd"
  have hwl:=wf.len
  refine⟨_,q1,_,rfl,tm,rfl,_,.inr q2,by lia,fun pw hpw=>?_⟩
  have s0:=Same.new hpw (o:=.lst [])
  refine⟨_,s0.seqT q1,_,rfl,tw,rfl,⟨_,s0.seqT q3⟩,?_⟩
  rw[jd_]
  obtain⟨Pv,hPv⟩:∃Pv:Nat->St->Hp->Prop,∀i σ' H',Pv i σ' H'↔(∃(o5 o6:Option V),Same H H'/\DH K H' pw ((ways.take i).map (wcR p marks.length rs))/\σ'=[some (.int p),some (.ref h),some (.ref l),some (.int marks.length),some (.ref pw),o5,o6]):=⟨_,fun _ _ _=>j2_⟩
  refine forT (xs:=ts.map V.ref) Pv ((hPv _ _ _).mpr ⟨none,none,s0,DH.nil Ab,rfl⟩) (fun i σ' H' _ h'=>by obtain⟨_,_,s',_⟩:=(hPv _ _ _).mp h';exact s'.seqT q3) (fun i x σ2 H2 hx h2=>?_) (fun σ2 H2 h2=>?_)
  ·obtain⟨o5,o6,s2,hT2,rfl⟩:=(hPv _ _ _).mp h2
   have hi:i<ts.length:=by have:=(jc_.mp hx).1;rw[jd_]at this;exact this
   have hiw:i<ways.length:=by lia
   have hx':x=.ref ts[i]:=by
    rw[jw_,ja_ hi]at hx
    exact (jH_ hx).symm
   subst hx'
   have hrow:=q5 i ts[i] ways[i] (ja_ hi) (ja_ hiw)
   have hwr:=wf.rows ways[i] (jB_ hiw)
   have et:ways.take (i+1)=ways.take i++[ways[i]]:=by rw[jF_,ja_ hiw];rfl
   generalize ways[i]=row at hrow hwr et
   generalize ts[i]=tr at hrow ⊢
   have hrl:row.length=p+rs.length:=by have:=hwr.1;lia
   walk_at "rd"
   refine⟨_,s2.seqT hrow,fun q1' H3 s3 hq1=>⟨_,.inr hq1,fun kl hkl=>⟨.inl ⟨rfl,_,SqL.of Ab⟩,?_⟩⟩⟩
   rw[Rk _ p (by rw[jd_];lia)]at hq1 ⊢
   have s4:=Same.new hkl (o:=.lst ((row.map V.int).take p))
   have hkl4:upd H3 kl (.lst ((row.map V.int).take p)) kl=some (.lst ((row.map V.int).take p)):=Ab
   have hklH:H kl=none:=(s2.trans s3).none hkl
   have hpw3:kl≠pw:=fun z=>by
    obtain⟨xs',hx',_⟩:=hT2.mono s3
    rw[z,hx']at hkl;cases hkl
   have s24:=s3.trans s4
   generalize upd H3 kl (.lst ((row.map V.int).take p))=H4 at s4 hkl4 s24 ⊢
   refine⟨_,(s2.trans s24).seqT hrow,fun q2' H5 s5 hq2=>?_⟩
   rw[Rl _ p (by rw[jd_];lia),<-List.map_drop]at hq2
   have s25:=s24.trans s5
   have s05:=s2.trans s25
   refine⟨_,ys,true,hq2,false,s05.seq hl',?_⟩
   have hyl:=hro.1
   obtain⟨Pc,hPc⟩:∃Pc:Nat->List V->St->Hp->Prop,∀j zs σ' H',Pc j zs σ' H'↔(Same H5 H'/\zs=((List.zipWith (fun (g:Int) (o:Option (α2))=>if o.isNone then (marks.length:Int) else g) (row.drop p) rs).take j).map V.int/\∃o1 o2,σ'=[o1,o2,some (.int marks.length)]):=⟨_,fun _ _ _ _=>j2_⟩
   refine Sx rs.length (by rw[jd_,xe_];lia) s!"" (.inr hyl) Pc ((hPc _ _ _ _).mpr ⟨Same.refl _,by simp,none,none,rfl⟩) s!"" (fun j zs σ' H' hj h'=>?_) (fun j u v zs σ' H' t hj hu hv h' ht=>?_) (fun zs σ' H' h' D hD=>?_)
   ·obtain⟨s6,rfl,_⟩:=(hPc _ _ _ _).mp h'
    exact⟨s6.seqT hq2,(s05.trans s6).seq hl',by rw[jd_,j5_];lia⟩
   ·obtain⟨s6,rfl,o1,o2,rfl⟩:=(hPc _ _ _ _).mp h'
    obtain⟨g,hg,rfl⟩:=A1 hu
    have st:=Same.new ht (o:=.tup [V.int g,v])
    have htT:SqT K (upd H' t (.tup [V.int g,v])) t [V.int g,v]:=SqT.of Ab
    generalize upd H' t (.tup [V.int g,v])=H7 at st htT ⊢
    have ez:∀o,rs[j]?=some o->((List.zipWith (fun (g:Int) (o:Option (α2))=>if o.isNone then (marks.length:Int) else g) (row.drop p) rs).take (j+1)).map V.int=((List.zipWith (fun (g:Int) (o:Option (α2))=>if o.isNone then (marks.length:Int) else g) (row.drop p) rs).take j).map V.int++[V.int (if o.isNone then (marks.length:Int) else g)]:=fun o ho=>by
     rw[jF_,List.getElem?_zipWith,hg,ho];simp
    walk_at "rd"
    refine⟨_,htT,rfl,_,_,rfl,_,_,rfl,rfl,?_⟩
    rcases hro.at hv with ⟨hv1,rfl⟩|⟨r,tr',hv1,rfl,htr⟩
    ·rw[if_pos rfl]
     exact (hPc _ _ _ _).mpr ⟨s6.trans st,(ez _ hv1).symm,_,_,rfl⟩
    ·rw[if_neg (by simp)]
     exact (hPc _ _ _ _).mpr ⟨s6.trans st,(ez _ hv1).symm,_,_,rfl⟩
   ·obtain⟨s6,rfl,o1,o2,rfl⟩:=(hPc _ _ _ _).mp h'
    have hzl:(List.zipWith (fun (g:Int) (o:Option (α2))=>if o.isNone then (marks.length:Int) else g) (row.drop p) rs).length=rs.length:=by rw[zb_,xe_];lia
    have e9:(List.zipWith (fun (g:Int) (o:Option (α2))=>if o.isNone then (marks.length:Int) else g) (row.drop p) rs).take rs.length=List.zipWith (fun (g:Int) (o:Option (α2))=>if o.isNone then (marks.length:Int) else g) (row.drop p) rs:=List.take_of_length_le s!""
    rw[e9]
    have sD:=Same.new hD (o:=.lst ((List.zipWith (fun (g:Int) (o:Option (α2))=>if o.isNone then (marks.length:Int) else g) (row.drop p) rs).map V.int))
    have hk6:=sD _ _ (s6 _ _ (s5 _ _ hkl4))
    refine⟨D,rfl,_,hk6,_,Ab,by simp;lia,?_⟩
    have er:(row.map V.int).take p++(List.zipWith (fun (g:Int) (o:Option (α2))=>if o.isNone then (marks.length:Int) else g) (row.drop p) rs).map V.int=(wcR p marks.length rs row).map V.int:=by
     unfold wcR
     rw[jI_,List.map_take]
    rw[er]
    have hT6:=(hT2.mono (s25.trans (s6.trans sD))).off hk6 (ys:=(wcR p marks.length rs row).map V.int) hpw3.symm
    have s7:=(s05.trans (s6.trans sD)).over hklH (o:=.lst ((wcR p marks.length rs row).map V.int))
    have hk7:upd (upd H' D (.lst ((List.zipWith (fun (g:Int) (o:Option (α2))=>if o.isNone then (marks.length:Int) else g) (row.drop p) rs).map V.int))) kl (.lst ((wcR p marks.length rs row).map V.int)) kl=some (.lst ((wcR p marks.length rs row).map V.int)):=Ab
    generalize upd (upd H' D (.lst ((List.zipWith (fun (g:Int) (o:Option (α2))=>if o.isNone then (marks.length:Int) else g) (row.drop p) rs).map V.int))) kl (.lst ((wcR p marks.length rs row).map V.int))=H7 at hT6 s7 hk7 ⊢
    obtain⟨xs0,hx0,_⟩:=id hT6
    refine⟨.inl ⟨rfl,_,SqL.of hx0⟩,_,.inl ⟨SqL.of hk7,fun tt htt=>?_⟩⟩
    have sT:=Same.new htt (o:=.tup ((wcR p marks.length rs row).map V.int))
    obtain⟨xs1,e1,e2,e3⟩:=(hT6.mono sT).push (w:=wcR p marks.length rs row) (t:=tt) (SqT.of Ab)
    refine⟨xs1,e1,?_,(hPv _ _ _).mpr ⟨_,_,(s7.trans sT).over hpw,?_,rfl⟩⟩
    ·rw[e2,jd_,j5_];lia
    ·rw[et,jI_];exact e3
  ·obtain⟨o5,o6,s2,hT2,rfl⟩:=(hPv _ _ _).mp h2
   rw[jd_,q4,jL_]at hT2
   walk_at "rd"
   obtain⟨xs0,hx0,hrw⟩:=hT2.rows
   refine⟨_,s2.seqT q1,_,rfl,_,s2.seqT q1,_,rfl,by lia,fun u1 hu1=>Cg.of ((s2.newT hu1).seqT q2) (SqT.of Ab) (by simp;lia) fun u2 H3 s3 hu2=>?_⟩
   have s03:=(s2.newT hu1 (o:=.tup [V.int 0])).trans s3
   have s23:=(Same.new hu1 (o:=.tup [V.int 0])).trans s3
   obtain⟨xs1,hx1,hrw1⟩:=(hT2.mono s23).rows
   refine⟨_,.inl ⟨SqL.of hx1,fun u3 hu3=>⟨by lia,fun u4 hu4=>?_⟩⟩⟩
   have hR3:=hrw1 u3 hu3
   have s5:=(Same.new hu3 (o:=.tup xs1)).newT hu4 (o:=.tup [V.int marks.length])
   have hR5:=hR3.mono (Same.new hu4 (o:=.tup [V.int marks.length]))
   have h4:upd (upd H3 u3 (.tup xs1)) u4 (.tup [V.int marks.length]) u4=some (.tup [V.int marks.length]):=Ab
   generalize upd (upd H3 u3 (.tup xs1)) u4 (.tup [V.int marks.length])=H5 at s5 hR5 h4 ⊢
   have s05:=s03.trans s5
   refine⟨_,s05.seqT q1,_,rfl,Om.of (SqT.of h4) (by simp) s!"" s!"" (by simp;lia) fun u6 H6 s6 hu6=>⟨by lia,fun u7 hu7=>?_⟩⟩
   have s67:=s6.trans (Same.new hu7 (o:=.tup [V.ref u6]))
   obtain⟨ts5,r1,r2,r3⟩:=hR5.mono s67
   refine Cg.of r1 (SqT.of Ab) ?_ fun u8 H8 s8 hu8=>⟨by lia,fun u9 hu9=>?_⟩
   ·rw[jd_,r2,jd_];simp;lia
   have s9:=Same.new hu9 (o:=.tup [V.int L,V.ref u2,V.ref u8])
   have s89:=s8.trans s9
   have hun:(List.replicate (L:Int).toNat [V.int marks.length]).flatten=(List.replicate L (marks.length:Int)).map V.int:=by
    rw[ju_,ID]
   rw[hun]at hu6
   have hHouse:Bc K (upd H8 u9 (.tup [V.int L,V.ref u2,V.ref u8])) u9 L (marks++[0]) (ways.map (wcR p marks.length rs)++[List.replicate L (marks.length:Int)]):=by
    refine⟨u2,u8,SqT.of Ab,(((s5.trans s67).trans s89)).seqT (by rw[jI_];exact hu2),ts5++[u6],by rw[jI_];exact s9.seqT hu8,by simp[r2],fun i t row ht hr'=>?_⟩
    by_cases hi:i<ts5.length
    ·rw[jg_ hi]at ht
     rw[jg_ s!""]at hr'
     exact s89.seqT (r3 i t row ht hr')
    ·have hi2:=(jc_.mp ht).1
     rw[jf_,jq_]at hi2
     have e:i=ts5.length:=by lia
     subst e
     rw[jp_ (jh_ _),j4_]at ht
     rw[r2,jp_ (jh_ _),j4_]at hr'
     cases ht
     cases hr'
     exact ((Same.new hu7).trans s89).seqT hu6
   have hat:∀s:Int,0<=s->s<marks.length->∃row,ways[s.toNat]?=some row/\row.length=p+rs.length/\(ways.map (wcR p marks.length rs)++[List.replicate L (marks.length:Int)])[s.toNat]?=some (wcR p marks.length rs row):=fun s h0 h1=>by
    have hlt:s.toNat<ways.length:=by lia
    refine⟨ways[s.toNat],ja_ hlt,?_,?_⟩
    ·have:=(wf.rows _ (jB_ hlt)).1;lia
    ·rw[jg_ (by rw[jd_];exact hlt),jw_,ja_ hlt];rfl
   refine k u9 _ _ ((((s05.trans s67)).trans s89)) hHouse ?_ ⟨fun s x h0 h1 x0 x1 hg=>?_,fun s x h0 h1 x0 x1 hg=>?_,fun x x0 x1=>?_⟩
   ·have:=wf.l1
    refine⟨by lia,by lia,by simp,by simp;lia,by simp[hwl],fun row hr'=>?_,fun m hm=>?_⟩
    ·rcases jj_.mp hr' with hr' | hr'
     ·obtain⟨row',hm',rfl⟩:=qh_.mp hr'
      have hw':=wf.rows row' hm'
      refine⟨by rw[Rj (by have:=hw'.1;lia)];lia,fun x hx=>?_⟩
      have:=S4 (p:=p) (rs:=rs) (n:=marks.length) (fun y hy=>by have:=hw'.2 y hy;lia) x hx
      simp;lia
     ·rw[jb_.mp hr']
      refine⟨by simp,fun x hx=>?_⟩
      rw[(xj_.mp hx).2];simp;lia
    ·rcases jj_.mp hm with hm|hm
     ·exact wf.mks m hm
     ·rw[jb_.mp hm];lia
   ·obtain⟨row,a1,a2,a3⟩:=hat s h0 h1
    rw[IJ a3,IJ a1]
    exact (Qk a2 (x:=x.toNat) s!"").1 (by rw[show ((x.toNat:Nat):Int)=x by lia];exact hg)
   ·obtain⟨row,a1,a2,a3⟩:=hat s h0 h1
    rw[IJ a3]
    exact (Qk a2 (x:=x.toNat) s!"").2 (by rw[show ((x.toNat:Nat):Int)=x by lia];exact hg)
   ·have:(ways.map (wcR p marks.length rs)++[List.replicate L (marks.length:Int)])[((marks.length:Nat):Int).toNat]?=some (List.replicate L (marks.length:Int)):=by
     rw[ju_,jp_ (by rw[jd_];lia),jd_,show marks.length-ways.length=0 by lia];rfl
    rw[IJ this,js_,xc_,if_pos s!""];rfl
noncomputable def NM (K:α3):Sp:=fun vs H Q _=>∃(h h2:Addr) (L:Int) (marks marks2:α2) (ways ways2:α1),vs=[.ref h,.ref h2]/\Bc K H h L marks ways/\Wf L marks ways/\Bc K H h2 L marks2 ways2/\Wf L marks2 ways2/\marks.length<=5/\marks2.length<=4 /\
 (∀H',Same H H'->(∀ws:α2,isW L ws=true->mk80 marks (ws.foldl (An ways) 0)≠0->mk80 marks2 (ws.foldl (An ways2) 0)≠0)->Q .non H') /\
 ∀t (w:α2) H',Same H H'->H' t=some (.tup (w.map V.int))->isW L w=true->w.length<=20->mk80 marks (w.foldl (An ways) 0)≠0->mk80 marks2 (w.foldl (An ways2) 0)=0->Q (.ref t) H'
theorem Ei   (F:Fun K "word_taken_by_one" "word_taken_by_one" Be f fd)(T:Txt mg)
  (Z:Exs K mg C_j2 C_j1 C_j4)
   (q_jv:Cal P w K mg base CX0 1 "steps_from" CU ["house","other","start"] (KZ K) FU E5)
   (q_j11:Cal P w K mg base CX0 1 "word_to" ET ["steps","pair"] (Jr K) Jz HD)
  : FnOk P w K mg base CX0 2 f fd ["house","other"] (NM K):=by
 refine F.ok By (fun vs H Q E h=>?_) (fun cdv A outer s H vs Q E hr h=>?_)
 ·obtain⟨h,h2,L,marks,marks2,ways,ways2,rfl,_⟩:=h;rfl
 ·obtain⟨h,h2,L,marks,marks2,ways,ways2,rfl,hh,wf,hh2,wf2,hm5,hm4,kN,kSx⟩:=h
  have hl:=Au
  have hn1:=wf.n1
  have hn2:=wf2.n1
  refine⟨_,(Ac (Aj (i:=2) By.nd (Ak q_jv hr.d AF (Aa (pvD 0) (Aa (pvD 1) (Aa (AL (Aa Ae (Aa Ae Ad))) Ad)))))
   (Ac (A0 jC_ rfl (Oq (pvD 2)) (As (i:=3) By.nd rfl (Or.inl rfl))
   (Af (AR (PW.pt (Ho (ptT (Ap (opN Gr) (Ah (ixTD Am) (Ah (ixTD Am) (pvD 0) Ae) (Ah (ixTD Am) (pvD 3) Ae)) Ae (Ar _))) (Fm (ptT (Ap (opE C3) (Ah (ixTD Am) (Ah (ixTD Am) (pvD 1) Ae) (Ah (ixTD Am) (pvD 3) Ae)) Ae (Ar _))))))
   (Af (Aw (Ak q_j11 hr.d AF (Aa (pvD 2) (Aa (pvD 3) Ad)))))
   Ax)))
   (Af (Aw Ba)))),?_⟩
  walk_at "rd"
  refine⟨by lia,fun p0 hp0=>?_⟩
  have s0:=Same.new hp0 (o:=.tup [V.int 0,V.int 0])
  refine⟨h,h2,p0,L,marks,marks2,ways,ways2,0,0,rfl,hh.mono s0,wf,hh2.mono s0,wf2,Ab,⟨⟨by lia,by lia⟩,⟨by lia,by lia⟩⟩,fun d top kvs H1 s1 hdn hd stp bf=>?_⟩
  have hdH:H d=none:=s0.none hdn
  generalize EX ways ways2 L marks.length marks2.length 0 0=ents at stp bf
  refine⟨d,rfl,kvs,hd,fun o=>?_⟩
  have sF:Same H (upd H1 d (.frz o (.dT kvs))):=(s0.trans s1).over hdH
  have stF:=stp.mono (TK.dT (o:=.frz o (.dT kvs)) hd)
  have dF:upd H1 d (.frz o (.dT kvs)) d=some (.frz o (.dT kvs)):=Ab
  generalize upd H1 d (.frz o (.dT kvs))=HF at sF stF dF ⊢
  have hmk:∀e∈ents,DI ways 0 e.2=e.1.1/\DI ways2 0 e.2=e.1.2:=fun e he=>by
   have:=(bf.wd e he).2
   rw[QR]at this
   exact⟨qR_ Prod.fst this,qR_ Prod.snd this⟩
  obtain⟨Pv,hPv⟩:∃Pv:Nat->St->Hp->Prop,∀i σ' H',Pv i σ' H'↔(H'=HF/\(∀j,j<i->∀e,ents[j]?=some e->mk80 marks e.1.1≠0->mk80 marks2 e.1.2≠0)/\∃o4,σ'=[some (.ref h),some (.ref h2),some (.ref d),o4]):=⟨_,fun _ _ _=>j2_⟩
  refine forD Pv ((hPv _ _ _).mpr ⟨rfl,fun j hj=>absurd hj (qp_ _),none,rfl⟩) (fun i σ2 H2 _ hQ=>by rw[((hPv _ _ _).mp hQ).1];exact dF) (fun i kk v bp σ2 H2 hkv hQ hbp=>?_) (fun σ2 H2 hQ=>?_)
  ·obtain⟨rfl,hsame,o4,rfl⟩:=(hPv _ _ _).mp hQ
   have hi:i<ents.length:=by rw[<-stF.1];exact (jc_.mp hkv).1
   have hei:ents[i]?=some ents[i]:=by simp[hi]
   have hem:=jl_ hei
   obtain⟨v',hv',_⟩:=stF.2 i _ hei
   rw[hkv]at hv'
   cases hv'
   have hbp':H2 bp=some (.tup [.int ents[i].1.1,.int ents[i].1.2]):=hbp
   obtain⟨⟨a0,a1⟩,b0,b1⟩:=bf.rng _ hem
   obtain⟨mm,wv,q1,q2,q3⟩:=hh.mono sF
   obtain⟨mm',wv',q1',q2',q3'⟩:=hh2.mono sF
   have hnext:(mk80 marks ents[i].1.1≠0->mk80 marks2 ents[i].1.2≠0)->Pv (i+1) [some (.ref h),some (.ref h2),some (.ref d),some (.ref bp)] H2:=fun hn=>(hPv _ _ _).mpr ⟨rfl,fun j hj e he=>by
    by_cases hji:j<i
    ·exact hsame j hji e he
    ·have:j=i:=by lia
     subst this
     rw[hei]at he
     cases he
     exact hn,_,rfl⟩
   walk_at "rd"
   refine⟨_,q1,_,rfl,_,SqT.of hbp',_,rfl,mm,rfl,_,_,rfl,q2,_,PH a0 a1,rfl,?_⟩
   by_cases hA:mk80 marks ents[i].1.1=0
   ·rw[if_neg (by rw[show mkW marks ents[i].1.1=0 from hA];simp)]
    exact hnext (fun z=>absurd hA z)
   ·rw[if_pos (by
     have:¬ (V.int (mkW marks ents[i].1.1)=V.int 0):=fun z=>hA (V.int.inj z)
     simp[this])]
    refine⟨_,q1',_,rfl,_,SqT.of hbp',_,rfl,mm',rfl,_,_,rfl,q2',_,PH b0 b1,rfl,?_⟩
    by_cases hB:mk80 marks2 ents[i].1.2=0
    ·rw[if_pos (show V.int (mkW marks2 ents[i].1.2)=V.int 0 from qR_ V.int hB)]
     have hbl:=bf.lenP
     have hnm:marks.length*marks2.length<=5*4:=zd_ hm5 hm4
     have hsh:=bf.sh i _ hei
     refine⟨d,bp,ents,kvs,ents[i],rfl,.inr ⟨o,dF⟩,stF,bf.nod,hem,hbp',by lia,fun t H3 s3 ht=>?_⟩
     refine kSx t _ H3 (sF.trans s3) ht (bf.wd _ hem).1 s!"" ?_ ?_
     ·show mk80 marks (DI ways 0 ents[i].2)≠0
      rw[(hmk _ hem).1];exact hA
     ·show mk80 marks2 (DI ways2 0 ents[i].2)=0
      rw[(hmk _ hem).2];exact hB
    ·rw[if_neg (show ¬ V.int (mkW marks2 ents[i].1.2)=V.int 0 from fun z=>hB (V.int.inj z))]
     exact hnext (fun _=>hB)
  ·obtain⟨rfl,hsame,o4,rfl⟩:=(hPv _ _ _).mp hQ
   walk_at "rd"
   refine kN _ sF fun ws hw ht=>?_
   obtain⟨w',hm,_⟩:=bf.leastW hw
   obtain⟨j,hj,ej⟩:=qm_ hm
   have:=hsame j (by rw[stF.1];exact hj) _ (by rw[ja_ hj,ej])
   rw[QR]at this
   exact this ht
structure WkOk (K:α3)(H:Hp)(wa:Addr)(p:Nat)(xs:List V)(hs:List Hus):Prop where
 w:CZ K H wa p xs hs
 f:WfW (p+hs.length) hs
 h1:1<=hs.length
 h3:hs.length<=3
 p1:1<=p
 p6:p<=6
 m:∀r∈hs,r.2.1.length<=4
theorem WkOk.sm {K:α3}      (h:WkOk K H wa p xs hs)(s:SmT H H'):WkOk K H' wa p xs hs:=⟨II s h.w,h.f,h.h1,h.h3,h.p1,h.p6,h.m⟩
theorem WkOk.mono {K:α3}      (h:WkOk K H wa p xs hs)(s:Same H H'):WkOk K H' wa p xs hs:=h.sm (SmT.of s)
noncomputable def NN (K:α3):Sp:=fun vs H Q _=>∃(wa wb:Addr) (p:Nat) (xs xs2:List V) (hs h2:List Hus),vs=[.ref wa,.ref wb]/\WkOk K H wa p xs hs/\WkOk K H wb p xs2 h2/\h2.length=hs.length/\Lm80 K H/\LmA K H/\tabP K "least_row_taken" ≠ tabP K "around" /\
 (∀H',SmT H H'->Lm80 K H'->LmA K H'->Le82 hs h2 p->Q .non H') /\
 ∀t (row:α2) H',SmT H H'->Lm80 K H'->LmA K H'->SqT K H' t (row.map V.int)->row.length<=4000->N80.Acc (A80 hs) p ((p:Int)+hs.length) 0 row->¬ N80.Acc (A80 h2) p ((p:Int)+hs.length) 0 row->Q (.ref t) H'
theorem ED   (F:Fun K "row_taken_by_one" "row_taken_by_one" Bl f fd)(T:Txt mg)
  (Z:Exs K mg C_j2 C_j1 C_j4)
   (q_jt:Cal P w K mg base CX0 7 "shortest" C8 ["works"] (Kc K) Fz EC)
   (q_j12:Cal P w K mg base CX0 4 "row_for" EU ["plain","helpers","j","uses","local"] (NJ K) JA HE)
   (q_j13:Cal P w K mg base CX0 12 "uses_of" EV ["works"] (NG K) JC HH)
   (q_jl:Cal P w K mg base CX0 1 "without_calls" BM ["plain","house","rows"] (NL K) D5 DE)
   (q_jf:Cal P w K mg base CX0 2 "word_taken_by_one" Be ["house","other"] (NM K) CK Co)
  : FnOk P w K mg base CX0 13 f fd ["works","other"] (NN K):=by
 refine F.ok AB (fun vs H Q E h=>?_) (fun cdv A outer s H vs Q E hr h=>?_)
 ·obtain⟨wa,wb,p,xs,xs2,hs,h2,rfl,_⟩:=h;rfl
 ·obtain⟨wa,wb,p,xs,xs2,hs,h2,rfl,hW,hW2,hl2,hL,hLA,hne,kN,kSx⟩:=h
  have hl:=Au
  refine⟨_,(Ac (Aj (i:=2) AB.nd (Ah (ixTD Am) (pvD 0) Ae))
   (Ac (Aj (i:=3) AB.nd (Ak q_jt hr.d AF (Aa (pvD 0) Ad)))
   (Ac (Aj (i:=4) AB.nd (Ak q_j13 hr.d AF (Aa (pvD 0) Ad)))
   (Ac (A0 jC_ rfl (Ih rfl T.enumerate (pvD 4)) (FF rfl (AZ (As (i:=5) AB.nd rfl (Or.inl rfl)) (AZ (As (i:=6) AB.nd rfl (Or.inl rfl)) DL)))
   (Af (AR (ptT (Ap Dm (pvD 6) Ba (Ar _)))
   (Ac (Aj (i:=7) AB.nd (Ak q_jl hr.d AF (Aa (pvD 2) (Aa (Ah (ixTD Am) (Ah (ixTD Am) (pvD 0) Ae) (pvD 5)) (Aa (pvD 3) Ad)))))
   (Ac (Aj (i:=8) AB.nd (Ak q_jf hr.d AF (Aa (pvD 7) (Aa (Ah (ixTD Am) (Ah (ixTD Am) (pvD 1) Ae) (pvD 5)) Ad))))
   (Af (AR (ptT (Ap Dm (pvD 8) Ba (Ar _)))
   (Af (Aw (Ak q_j12 hr.d AF (Aa (pvD 2) (Aa (Aq (lenD Ai) (by rfl) T.len jD_ (Aa (pvD 4) Ad)) (Aa (pvD 5) (Aa (pvD 4) (Aa (pvD 8) Ad))))))))
   Ax))))
   Ax)))
   (Af (Aw Ba)))))),?_⟩
  obtain⟨y,q1,q2,q3⟩:=hW.w
  walk_at "rd"
  refine⟨_,q1,_,rfl,wa,p,xs,hs,rfl,hW.w,hW.f,hW.h1,hW.h3,hW.p1,hW.p6,hW.m,hL,fun l ys rs H1 s1 hL1 hl1 hro hrl hS=>?_⟩
  obtain⟨ps0,hps0⟩:=hL.is
  have m1:SmT H H1:=SmT.ofT s1 hps0
  have hLA1:LmA K H1:=hLA.monoT s1 hps0 hne.symm
  have hWa:=hW.sm m1
  refine⟨wa,p,xs,hs,rfl,hWa.w,hW.f,hW.h1,hW.h3,hW.p1,hW.p6,hW.m,hL1,hLA1,hne,fun lu uv us H2 m2 hL2' hLA2 hlu hUO hul hok husd=>?_⟩
  have m02:=m1.trans m2
  have hlH2:=m2.lst hl1
  have hro2:=hro.mono m2.tk
  refine⟨lu,rfl,uv,SqL.of hlu,?_⟩
  obtain⟨y2,q1b,q2b,q3b⟩:=hW2.w
  have hh1:=hW.h1
  have hh3:=hW.h3
  have hp0:(0:Int)<=(p:Int):=by lia
  have hpe:(p:Int)<=(p:Int)+hs.length:=by lia
  obtain⟨Pe,hPe⟩:∃Pv:Nat->St->Hp->Prop,∀i σ' H',Pv i σ' H'↔(∃(o5 o6 o7 o8:Option V),Same H2 H'/\(∀(j:Nat) (w:α2),j<i->Usd hs p j->j<hs.length->(∀x∈w,Gy hs p x)->A80 hs j w->A80 h2 j w)/\σ'=[some (.ref wa),some (.ref wb),some (.int p),some (.ref l),some (.ref lu),o5,o6,o7,o8]):=⟨_,fun _ _ _=>j2_⟩
  refine forM (xs:=uv) Pe ((hPe _ _ _).mpr ⟨none,none,none,none,Same.refl _,(fun j w z=>absurd z (qp_ _)),rfl⟩) (fun i σ' H' _ h'=>by obtain⟨_,_,_,_,s',_⟩:=(hPe _ _ _).mp h';exact SqL.of (s' _ _ hlu)) (fun i v σ6 H6 t hv h6 ht=>?_) (fun σ6 H6 h6=>?_)
  rotate_left
  ·obtain⟨o5,o6,o7,o8,s6,hall,rfl⟩:=(hPe _ _ _).mp h6
   rw[hUO.1,hul]at hall
   walk_at "rd"
   exact kN _ (m02.same s6) (hL2'.mono s6) (hLA2.mono s6) (fun j w hu hj hg hA=>hall j w hj hu hj hg hA)
  obtain⟨o5,o6,o7,o8,s6,hall,rfl⟩:=(hPe _ _ _).mp h6
  have hil:i<us.length:=by rw[<-hUO.1];exact (jc_.mp hv).1
  have hih:i<hs.length:=by lia
  walk_at "rd"
  have sT:=Same.new ht (o:=.tup [V.int i,v])
  have s7:=s6.trans sT
  have htT:SqT K (upd H6 t (.tup [V.int i,v])) t [V.int i,v]:=SqT.of Ab
  generalize upd H6 t (.tup [V.int i,v])=H7 at sT s7 htT ⊢
  refine⟨_,htT,rfl,_,_,rfl,_,_,rfl,rfl,?_⟩
  have hnext:∀{H':Hp} {o7 o8:Option V},Same H2 H'->(∀w:α2,Usd hs p i->(∀x∈w,Gy hs p x)->A80 hs i w->A80 h2 i w)->Pe (i+1) [some (.ref wa),some (.ref wb),some (.int p),some (.ref l),some (.ref lu),some (.int i),some v,o7,o8] H':=fun {H' o7 o8} s' hw=>(hPe _ _ _).mpr ⟨_,_,_,_,s',fun j w hj hu hjl hg hA=>by
   by_cases e:j=i
   ·subst e;exact hw w hu hg hA
   ·exact hall j w s!"" hu hjl hg hA,rfl⟩
  rcases hUO.2 i us[i] (ja_ hil) with ⟨z,ex⟩|⟨u,tu,eu,ex,hu3⟩
  ·rw[hv]at ex
   cases ex
   rw[if_neg (by decide)]
   refine hnext s7 (fun w hu=>?_)
   obtain⟨u,hu'⟩:=(husd i hih).mpr hu
   rw[ja_ hil,z]at hu'
   cases hu'
  rw[hv]at ex
  cases ex
  rw[if_pos (by simp)]
  have hui:us[i]?=some (some u):=by rw[ja_ hil,eu]
  have hUi:Usd hs p i:=(husd i hih).mp ⟨u,hui⟩
  have hri:hs[i]?=some hs[i]:=ja_ hih
  have hih2:i<h2.length:=by lia
  have hri2:h2[i]?=some h2[i]:=ja_ hih2
  obtain⟨ac,hx1,hhc⟩:=q3.2 i _ hri
  obtain⟨ac2,hx2,hhc2⟩:=q3b.2 i _ hri2
  have hwc:=hW.f _ (jB_ hih)
  have hwc2:=hW2.f _ (jB_ hih2)
  have h4:=hW.m _ (jB_ hih)
  have h42:=hW2.m _ (jB_ hih2)
  have hA1:=El (hs:=hs) hri
  have hA2:=El (hs:=h2) hri2
  generalize hs[i]=r at hri hhc hwc h4 hA1
  generalize h2[i]=r2 at hri2 hhc2 hwc2 h42 hA2
  have hwf1:=hwc.2
  have hwf2:=hwc2.2
  rw[hwc.1,<-jQ_]at hhc
  rw[<-jQ_]at hwf1
  rw[hwc2.1,hl2,<-jQ_]at hhc2
  rw[hl2,<-jQ_]at hwf2
  have m07:=m02.same s7
  refine⟨_,m07.tsq q1,_,rfl,y,rfl,_,i,rfl,m07.tsq q2,_,AE hx1,ac,l,p,p+hs.length,r.2.1,r.2.2,ys,rs,rfl,Bc.monoQ hhc (fun _ _=>m07.tsq),hwf1,h4,by lia,SqL.of (s7 _ _ hlH2),hro2.mono (fun b' xs' e=>s7 _ _ e),fun hc ways' H8 s8 hH8 wf8 hwo=>?_⟩
  have m08:=m07.same s8
  have s28:=s7.trans s8
  have hmk:∀w:α2,(∀x∈w,Gy hs p x)->isW ((p+hs.length:Nat):Int) w=true:=fun w hw=>B8.mpr fun x hx=>by
   rcases hw x hx with h|⟨a,b,_⟩<;>lia
  refine⟨_,m08.tsq q1b,_,rfl,y2,rfl,_,i,rfl,m08.tsq q2b,_,AE hx2,hc,ac2,((p+hs.length:Nat):Int),r.2.1++[0],r2.2.1,ways',r2.2.2,rfl,hH8,wf8,Bc.monoQ hhc2 (fun _ _=>m08.tsq),hwf2,by simp;lia,h42,fun H9 s9 hno=>?_,fun tw w H9 s9 htw hww hwl hk1 hk2=>?_⟩
  ·walk_at "rd"
   refine hnext (s28.trans s9) (fun w _ hg hA=>(hA2 w).mpr ?_)
   refine hno w (hmk w hg) ((hwo.takes hwf1 (B8.mp (hmk w hg))).mpr ⟨fun x hx=>(K6 hS hrl).mpr (hg x hx),(hA1 w).mp hA⟩)
  ·have hwi:=B8.mp hww
   obtain⟨hgx,hkm⟩:=(hwo.takes hwf1 hwi).mp hk1
   have hgy:∀x∈w,Gy hs p x:=fun x hx=>(K6 hS hrl).mp (hgx x hx)
   have hAw:A80 hs i w:=(hA1 w).mpr hkm
   have hcall:∀x∈w,(p:Int)<=x->∃v,us[(x-p).toNat]?=some (some v):=fun x hx hp=>by
    obtain⟨a,b,e⟩:=List.append_of_mem hx
    have hxr:=hwi x hx
    obtain⟨kk,hkk⟩:∃kk:Nat,x=(p:Int)+kk:=⟨(x-p).toNat,by lia⟩
    subst hkk
    have hed:Edg hs p i kk:=⟨by lia,r,hri,hgy _ hx,a,b,fun z hz=>hgy z (by rw[e];exact jr_ _ hz),fun z hz=>hgy z (by rw[e];exact jk_ _ (jx_ _ hz)),by rw[<-e];exact hkm⟩
    obtain⟨v,hv'⟩:=(husd kk s!"").mpr (.step hUi hed)
    exact⟨v,by rw[show ((p:Int)+kk-p).toNat=kk by lia];exact hv'⟩
   have hrows:∀x∈w,(0<=x/\x<(p:Int))\/((p:Int)<=x/\x<(p:Int)+hs.length/\N80.Acc (A80 hs) p ((p:Int)+hs.length) (x-p) ((F6 us).getD (x-p).toNat [])):=fun x hx=>by
    have hxr:=hwi x hx
    by_cases hp:(p:Int)<=x
    ·obtain⟨v,hv'⟩:=hcall x hx hp
     have e:(F6 us).getD (x-p).toNat []=v.2.1:=by
      unfold F6
      rw[js_,jw_,hv'];rfl
     have:=(hok _ v hv').1.a
     rw[show (((x-p).toNat:Nat):Int)=x-p by lia]at this
     exact .inr ⟨hp,by lia,by rw[e];exact this⟩
    ·exact .inl ⟨hxr.1,by lia⟩
   have hsp:=IG (p:=p) (n:=hs.length) (rows:=F6 us) w (fun x hx=>(hrows x hx).elim .inl (fun ⟨a,b,c⟩=>.inr ⟨a,b,c.n⟩))
   have hso:=Kh (A:=A80 hs) (n:=hs.length) (rows:=F6 us) w hrows
   obtain⟨hUk,hu1,hu2,hu3'⟩:=hok i u hui
   have s29:=s28.trans s9
   walk_at "rd"
   refine⟨_,.inl (SqL.of (s29 _ _ hlu)),?_⟩
   refine⟨p,hs.length,i,lu,tw,uv,us,u,w,by rw[hUO.1,hul],SqL.of (s29 _ _ hlu),hUO.mono (fun _ _ z=>z.mono s29),hui,fun j u' hu'=>(hok j u' hu').2,hul,by lia,SqT.of htw,by lia,fun x hx=>⟨(hwi x hx).1,by have:=(hwi x hx).2;lia,hcall x hx⟩,fun q H10 s10 hq=>?_⟩
   have hal:=Ee (p:Int) i u
   have hbl:=Dz ((p:Int)+hs.length) i u
   have hr8:∀r∈F6 us,r.length<=78:=fun r hr=>by
    obtain⟨v,hv',rfl⟩:=qh_.mp hr
    cases v with
    |none=>exact j1_ _
    |some v=>
     obtain⟨m,hm,e⟩:=jT_.mp hv'
     exact (hok m v (by rw[ja_ hm,e])).2.2.1
   have hsl:=DA (p:=(p:Int)) (e:=(p:Int)+hs.length) hr8 w
   generalize hX:Nest.spreadN (p:Int) ((p:Int)+hs.length) (F6 us) w=X at hsp hso hsl hq
   have hAX:N80.Acc (A80 hs) p ((p:Int)+hs.length) (i:Int) X:=⟨hsp.1,hso,by rw[hsp.2];exact hAw⟩
   have e0:Cn (p:Int) i u++X++Bz ((p:Int)+hs.length) i u=(if i=0 then X else u.1++(((p:Int)+i)::X++[(p:Int)+hs.length])++u.2.2):=by
    unfold Cn Bz
    by_cases hc':i=0
    ·rw[if_pos s!"",if_pos s!"",if_pos hc',qw_,q5_]
    ·rw[if_neg s!"",if_neg s!"",if_neg hc'];simp
   have s210:=s29.trans s10
   refine kSx q _ H10 (m02.same s210) (hL2'.mono s210) (hLA2.mono s210) hq (by rw[jf_,jf_];lia) (by rw[e0];exact hUk.c X hAX) (fun hA'=>?_)
   rw[e0]at hA'
   have:=(hUk.i (A80 h2) X hsp.1 hA').a
   rw[hsp.2]at this
   exact (hA2 w).mp this hk2
noncomputable def Kk (K:α3)(BH:Addr):Sp:=fun vs H Q E=>∃(wa wb ya yb:Addr) (p p2:Nat) (xs xs2:List V),vs=[.ref wa,.ref wb]/\SqT K H wa [.int p,.ref ya]/\SqT K H ya xs/\SqT K H wb [.int p2,.ref yb]/\SqT K H yb xs2 /\
  ((¬ (p=p2/\xs.length=xs2.length)/\∀H',Same H H'->E (.ref BH) none H') \/
   (∃hs h2,p=p2/\h2.length=hs.length/\xs.length=hs.length/\xs2.length=h2.length/\WkOk K H wa p xs hs/\WkOk K H wb p xs2 h2/\Lm80 K H/\LmA K H/\tabP K "least_row_taken" ≠ tabP K "around" /\
    (∀H',SmT H H'->Lm80 K H'->LmA K H'->SmL hs h2 p->Q .non H') /\
    ∀t (row:α2) H',SmT H H'->Lm80 K H'->LmA K H'->SqT K H' t (row.map V.int)->row.length<=4000->N80.Nst (p:Int) ((p:Int)+hs.length) row->¬ (N80.Acc (A80 hs) p ((p:Int)+hs.length) 0 row↔N80.Acc (A80 h2) p ((p:Int)+hs.length) 0 row)->Q (.ref t) H'))
theorem EE   (F:Fun K "works_difference" "works_difference" A3 f fd)(T:Txt mg)
  (Z:Exs K mg C_j2 C_j1 C_j4)
   (q_ja:Cal P w K mg base CX0 13 "row_taken_by_one" Bl ["works","other"] (NN K) C0 CL)
  : FnOk P w K mg base (CXe P w) 14 f fd ["works","other"] (Kk K C_j1):=by
 refine F.okE BC (fun vs H Q E h=>?_) (fun cdv A outer s H vs Q E hr h=>?_)
 ·obtain⟨wa,wb,ya,yb,p,p2,xs,xs2,rfl,_⟩:=h;rfl
 ·obtain⟨wa,wb,ya,yb,p,p2,xs,xs2,rfl,a1,a2,b1,b2,hc⟩:=h
  have hl:=Au
  refine⟨_,(Ac (AR (PW.pt (Ld (ptT (Ap (opN Gr) (Ah (ixTD Am) (pvD 0) Ae) (Ah (ixTD Am) (pvD 1) Ae) (Ar _))) (Hn (ptT (Ap (opN Gr) (Aq (lenD Ai) (by rfl) T.len jD_ (Aa (Ah (ixTD Am) (pvD 0) Ae) Ad)) (Aq (lenD Ai) (by rfl) T.len jD_ (Aa (Ah (ixTD Am) (pvD 1) Ae) Ad)) (Ar _))))))
   (Af (Oj Z.m_j1 Z.x_j1 rfl rfl (Aa Rv Ad)))
   Ax)
   (Ac (Aj (i:=2) BC.nd (Ak q_ja hr.d AF (Aa (pvD 0) (Aa (pvD 1) Ad))))
   (DS (AR (ptT (Ap Ej (pvD 2) Ba (Ar _)))
   (Af (Aj (i:=2) BC.nd (Ak q_ja hr.d AF (Aa (pvD 1) (Aa (pvD 0) Ad)))))
   Ax)
   (Af (Aw (pvD 2)))))),?_⟩
  walk_at "rd"
  refine⟨_,a1,_,rfl,_,b1,_,rfl,rfl,?_⟩
  rcases hc with ⟨hbad,kE⟩|⟨hs,h2,rfl,hl2,hx1,hx2,hW,hW2,hL,hLA,hne,kN,kSx⟩
  ·by_cases hp:p=p2
   ·subst hp
    rw[if_neg (by simp)]
    refine⟨_,a1,_,rfl,ya,rfl,_,.inr a2,_,b1,_,rfl,yb,rfl,_,.inr b2,?_⟩
    rw[if_pos (by simp;lia)]
    exact⟨by lia,kE _ (Same.refl _)⟩
   ·rw[if_pos (by simp;lia)]
    exact⟨by lia,kE _ (Same.refl _)⟩
  ·rw[if_neg (by simp)]
   refine⟨_,a1,_,rfl,ya,rfl,_,.inr a2,_,b1,_,rfl,yb,rfl,_,.inr b2,?_⟩
   rw[if_neg (by simp;lia)]
   have hlr:hs.length=h2.length:=hl2.symm
   obtain⟨R,hR⟩:∃R:St->Hp->Prop,∀σ' H',R σ' H'↔(SmT H H'/\Lm80 K H'/\LmA K H'/\((SmL hs h2 p/\σ'=[some (.ref wa),some (.ref wb),some .non]) \/ ∃(t:Addr) (row:α2),SqT K H' t (row.map V.int)/\row.length<=4000/\N80.Nst (p:Int) ((p:Int)+hs.length) row/\¬ (N80.Acc (A80 hs) p ((p:Int)+hs.length) 0 row↔N80.Acc (A80 h2) p ((p:Int)+hs.length) 0 row)/\σ'=[some (.ref wa),some (.ref wb),some (.ref t)])):=⟨_,fun _ _=>j2_⟩
   have hfin:∀σ' H',R σ' H'->tRet (QW 2) {nx:=fun x H'=>Q V.non H',rt:=Q} σ' H':=fun σ' H' h'=>by
    obtain⟨m,hL',hLA',hcs⟩:=(hR _ _).mp h'
    rcases hcs with ⟨hS,rfl⟩|⟨t,row,c1,c2,c3,c4,rfl⟩
    ·walk_at "rd"
     exact kN _ m hL' hLA' hS
    ·walk_at "rd"
     exact kSx t row _ m hL' hLA' c1 c2 c3 c4
   refine⟨wa,wb,p,xs,xs2,hs,h2,rfl,hW,hW2,hl2,hL,hLA,hne,fun H1 m1 hL1 hLA1 hle1=>⟨R,?_,hfin⟩,fun t row H1 m1 hL1 hLA1 ht hrl hA hnA=>⟨R,?_,hfin⟩⟩
   ·walk_at "rd"
    refine⟨wb,wa,p,xs2,xs,h2,hs,rfl,hW2.sm m1,hW.sm m1,hlr,hL1,hLA1,hne,fun H2 m2 hL2 hLA2 hle2=>?_,fun t row H2 m2 hL2 hLA2 ht hrl hA hnA=>?_⟩
    ·exact (hR _ _).mpr ⟨m1.trans m2,hL2,hLA2,.inl ⟨Qj hW.h1 hl2 hle1 hle2,rfl⟩⟩
    ·rw[hl2]at hA hnA
     exact (hR _ _).mpr ⟨m1.trans m2,hL2,hLA2,.inr ⟨t,row,ht,hrl,hA.n,fun z=>hnA (z.mpr hA),rfl⟩⟩
   ·walk_at "rd"
    exact (hR _ _).mpr ⟨m1,hL1,hLA1,.inr ⟨t,row,ht,hrl,hA.n,fun z=>hnA (z.mp hA),rfl⟩⟩
structure Fr (marks:α2)(ways:α1)(gs R:α2):Prop where
 nd:R.Nodup
 rg:∀s∈R,0<=s/\s<(marks.length:Int)
 mm:∀s:Int,0<=s->s<marks.length->mk80 marks s≠0->s∈R
 so:∀s∈R,∃v:α2,(∀x∈v,x∈gs)/\mk80 marks (v.foldl (An ways) s)≠0
noncomputable def Cl (marks:α2)(ways:α1)(gs R:α2):Prop:=∀(s x:Int),0<=s->s<marks.length->x∈gs->An ways s x∈R->s∈R
theorem Fr.put {marks:α2}{ways:α1}{gs R:α2}(h:Fr marks ways gs R){s x:Int}(h0:0<=s)(h1:s<marks.length)(hx:x∈gs)(hin:An ways s x∈R)(hn:s∉R):Fr marks ways gs (R++[s]):=by
 refine⟨qc_.mpr ⟨h.nd,by simp,fun a ha b hb=>?_⟩,fun z hz=>?_,fun z a b c=>jr_ _ (h.mm z a b c),fun z hz=>?_⟩
 ·rw[jb_.mp hb]
  intro e
  exact hn (e ▸ ha)
 ·rcases jj_.mp hz with hz|hz
  ·exact h.rg z hz
  ·rw[jb_.mp hz];exact⟨h0,h1⟩
 ·rcases jj_.mp hz with hz|hz
  ·exact h.so z hz
  ·rw[jb_.mp hz]
   obtain⟨v,a,b⟩:=h.so _ hin
   exact⟨x::v,fun y hy=>(jJ_.mp hy).elim (fun e=>e ▸ hx) (a y),b⟩
theorem Fr.all {L:Int}{marks:α2}{ways:α1}{gs R:α2}(h:Fr marks ways gs R)(hc:Cl marks ways gs R)(wf:Wf L marks ways)(hgs:∀x∈gs,0<=x/\x<L):∀(v:α2) (s:Int),0<=s->s<marks.length->(∀x∈v,x∈gs)->mk80 marks (v.foldl (An ways) s)≠0->s∈R
 |[],s,h0,h1,_,hm=>h.mm s h0 h1 hm
 |x::v,s,h0,h1,hv,hm=>by
  have hx:=hv x jv_
  obtain⟨row,g,r1,r2,r3,r4,r5⟩:=wf.step h0 h1 (hgs x hx).1 (hgs x hx).2
  exact hc s x h0 h1 hx (h.all hc wf hgs v _ s!"" s!"" (fun y hy=>hv y (jx_ _ hy)) hm)
noncomputable def NO (K:α3):Sp:=fun vs H Q _=>∃(h b:Addr) (L:Nat) (marks:α2) (ways:α1) (gs:α2),vs=[.ref h,.ref b]/\Bc K H h L marks ways/\Wf L marks ways/\SqL K H b (gs.map V.int)/\(∀x∈gs,0<=x/\x<(L:Int))/\∀l (R:α2) H',Same H H'->H l=none->H' l=some (.lst (R.map V.int))->(∀s∈R,0<=s/\s<marks.length)->(∀s:Int,0<=s->s<marks.length->∀v:α2,(∀x∈v,x∈gs)->mk80 marks (v.foldl (An ways) s)≠0->s∈R)->(∀s∈R,∃v:α2,(∀x∈v,x∈gs)/\mk80 marks (v.foldl (An ways) s)≠0)->Q (.ref l) H'
theorem E6   (F:Fun K "_law_rooms_from" "_law_rooms_from" Bx f fd)(T:Txt mg)
  (Z:Exs K mg C_j2 C_j1 C_j4)
  : FnOk P w K mg base CX0 1 f fd ["house","letters"] (NO K):=by
 refine F.ok A5 (fun vs H Q E h=>?_) (fun cdv A outer s H vs Q E hr h=>?_)
 ·obtain⟨h,b,L,marks,ways,gs,rfl,_⟩:=h;rfl
 ·obtain⟨h,b,L,marks,ways,gs,rfl,hh,wf,hb,hgs,k⟩:=h
  have hl:=Au
  have hn1:=wf.n1
  have hn40:=wf.n40
  refine⟨_,(Ac (Ey (i:=2) A5.nd rfl rfl rfl (DR rfl) (cp:=CH) ⟨⟨rfl,rfl⟩,True.intro⟩ (Bn rfl T.range (Aa (Aq (lenD Ai) (by rfl) T.len jD_ (Aa (Ah (ixTD Am) (pvD 0) Ae) Ad)) Ad)) (fun _ _ _ _=>(As (i:=0) DK rfl (Or.inl rfl))) (fun _ _ _ _=>(Mo (ptT (Ap (opN Gr) (Ah (ixTD (GF (K:=K) rfl)) (Ah (ixTD (GF (K:=K) rfl)) (pvD 1) Ae) (pvD 0)) Ae (Ar _))))) (fun _ _ _ _=>(pvD 0)))
   (Ac (A0 jC_ rfl (Bn rfl T.range (Aa (Aq (lenD Ai) (by rfl) T.len jD_ (Aa (Ah (ixTD Am) (pvD 0) Ae) Ad)) Ad)) (As (i:=3) A5.nd rfl (Or.inl rfl))
   (Af (A0 jC_ rfl (Bn rfl T.range (Aa (Aq (lenD Ai) (by rfl) T.len jD_ (Aa (Ah (ixTD Am) (pvD 0) Ae) Ad)) Ad)) (As (i:=4) A5.nd rfl (Or.inl rfl))
   (Af (A0 jC_ rfl (BI (pvD 1)) (As (i:=5) A5.nd rfl (Or.inl rfl))
   (Af (AR (PW.pt (Ho (ptT (Ap Gv (Ah (ixTD Am) (Ah (ixTD Am) (Ah (ixTD Am) (pvD 0) Ae) (pvD 4)) (pvD 5)) (pvD 2) rfl)) (Fm (ptT (Ap B1 (pvD 4) (pvD 2) rfl)))))
   (Af (AM (B2 jt_ jz_ jA_ AA (pvD 2) (Aa (pvD 4) Ad))))
   Ax)))))))
   (Af (Aw (pvD 2))))),?_⟩
  obtain⟨tm,tw,q1,q2,q3⟩:=id hh
  walk_at "rd"
  refine⟨_,q1,_,rfl,tm,rfl,_,.inr q2,by lia,by rw[jd_];lia,?_⟩
  rw[ju_,jd_]
  have hmk:∀s:Int,0<=s->s<marks.length->atI (marks.map V.int) s=some (.int (mk80 marks s)):=fun s h0 h1=>Js h0 (by
   unfold mk80
   have:s.toNat<marks.length:=by lia
   rw[jw_,ja_ this,js_,ja_ this];rfl)
  obtain⟨Pc,hPc⟩:∃Pc:Nat->List V->St->Hp->Prop,∀i us σ' H',Pc i us σ' H'↔(H'=H/\(∃R:α2,us=R.map V.int/\R.Nodup/\R.length<=i/\∀s:Int,s∈R↔0<=s/\s<(i:Int)/\mk80 marks s≠0)/\∃o,σ'=[o,some (.ref h)]):=⟨_,fun _ _ _ _=>j2_⟩
  refine Og Pc ((hPc _ _ _ _).mpr ⟨rfl,⟨[],rfl,xP_,jh_ _,fun s=>⟨(fun z=>nomatch z),fun z=>by lia⟩⟩,none,rfl⟩) s!"" (fun i us σ' H' hi h'=>?_) (fun i us σ' H' hi h'=>?_) (fun us σ' H1 h' D hD=>?_)
  ·obtain⟨_,⟨R,rfl,_,hl',_⟩,_⟩:=(hPc _ _ _ _).mp h'
   rw[jd_];exact hl'
  ·obtain⟨rfl,⟨R,rfl,hnd,hl',hR⟩,o,rfl⟩:=(hPc _ _ _ _).mp h'
   rw[xa_]
   walk_at "rd"
   refine⟨_,q1,_,rfl,tm,rfl,_,q2,_,hmk i s!"" s!"",rfl,?_⟩
   by_cases h0:mk80 marks (i:Int)=0
   ·rw[if_neg (by simp[h0])]
    refine (hPc _ _ _ _).mpr ⟨rfl,⟨R,rfl,hnd,by lia,fun s=>(hR s).trans ⟨fun ⟨a,b,c⟩=>⟨a,by lia,c⟩,fun ⟨a,b,c⟩=>⟨a,?_,c⟩⟩⟩,_,rfl⟩
    refine qg_ fun z=>c ?_
    rw[show s=(i:Int) by lia];exact h0
   ·rw[if_pos (by simp[h0])]
    refine (hPc _ _ _ _).mpr ⟨rfl,⟨R++[(i:Int)],by rw[jI_];rfl,qc_.mpr ⟨hnd,by simp,fun a ha b hb=>?_⟩,by simp;lia,fun s=>?_⟩,_,rfl⟩
    ·rw[jb_.mp hb]
     intro e
     have:=(hR a).mp ha
     lia
    ·rw[jj_,jb_,hR]
     constructor
     ·rintro (⟨a,b,c⟩|rfl)
      ·exact⟨a,by lia,c⟩
      ·exact⟨by lia,by lia,h0⟩
     ·rintro⟨a,b,c⟩
      by_cases e:s=(i:Int)
      ·exact .inr e
      ·exact .inl ⟨a,by lia,c⟩
  obtain⟨rfl,⟨R0,rfl,hnd0,hl0,hR0⟩,o,rfl⟩:=(hPc _ _ _ _).mp h'
  have sD:=Same.new hD (o:=.lst (R0.map V.int))
  have hFr0:Fr marks ways gs R0:=⟨hnd0,fun s hs=>by have:=(hR0 s).mp hs;lia,fun s a b c=>(hR0 s).mpr ⟨a,b,c⟩,fun s hs=>⟨[],(fun _ z=>nomatch z),((hR0 s).mp hs).2.2⟩⟩
  refine⟨_,sD.seqT q1,_,rfl,tm,rfl,_,.inr (sD.seqT q2),by lia,by rw[jd_];lia,?_⟩
  rw[ju_,jd_]
  obtain⟨Pv,hPv⟩:∃Pv:Nat->St->Hp->Prop,∀d σ' H',Pv d σ' H'↔(∃(R:α2) (o3 o4 o5:Option V),Same H1 H'/\H' D=some (.lst (R.map V.int))/\Fr marks ways gs R/\(Cl marks ways gs R\/d<R.length)/\σ'=[some (.ref h),some (.ref b),some (.ref D),o3,o4,o5]):=⟨_,fun _ _ _=>j2_⟩
  refine forR Pv ((hPv _ _ _).mpr ⟨R0,none,none,none,sD,Ab,hFr0,?_,rfl⟩) (fun d σ2 H2 hd h2=>?_) (fun σ2 H2 h2=>?_)
  ·by_cases e:R0.length=0
   ·have:R0=[]:=xH_.mp e
    subst this
    exact .inl fun s x _ _ _ z=>nomatch z
   ·exact .inr s!""
  ·obtain⟨R,o3,o4,o5,s2,hD2,hF2,hc2,rfl⟩:=(hPv _ _ _).mp h2
   rw[xa_]
   walk_at "rd"
   refine⟨_,s2.seqT q1,_,rfl,tm,rfl,_,.inr (s2.seqT q2),by lia,by rw[jd_];lia,?_⟩
   rw[ju_,jd_]
   obtain⟨Pr,hPr⟩:∃Pv:Nat->St->Hp->Prop,∀i σ' H',Pv i σ' H'↔(∃(R2:α2) (o4 o5:Option V),Same H1 H'/\H' D=some (.lst (R2.map V.int))/\Fr marks ways gs R2/\((R2=R/\∀(s x:Int),0<=s->s<(i:Int)->x∈gs->An ways s x∈R->s∈R)\/(R.length<R2.length/\¬ Cl marks ways gs R))/\σ'=[some (.ref h),some (.ref b),some (.ref D),some (.int d),o4,o5]):=⟨_,fun _ _ _=>j2_⟩
   refine forR Pr ((hPr _ _ _).mpr ⟨R,_,_,s2,hD2,hF2,.inl ⟨rfl,fun s x a b=>by lia⟩,rfl⟩) (fun i σ3 H3 hi h3=>?_) (fun σ3 H3 h3=>?_)
   ·obtain⟨R2,o4,o5,s3,hD3,hF3,hc3,rfl⟩:=(hPr _ _ _).mp h3
    rw[xa_]
    walk_at "rd"
    refine⟨⟨_,s3.seq hb⟩,?_⟩
    obtain⟨Pz,hPz⟩:∃Pv:Nat->St->Hp->Prop,∀j σ' H',Pv j σ' H'↔(∃(R2:α2) (o5:Option V),Same H1 H'/\H' D=some (.lst (R2.map V.int))/\Fr marks ways gs R2/\((R2=R/\(∀(s x:Int),0<=s->s<(i:Int)->x∈gs->An ways s x∈R->s∈R)/\∀x∈gs.take j,An ways (i:Int) x∈R->(i:Int)∈R)\/(R.length<R2.length/\¬ Cl marks ways gs R))/\σ'=[some (.ref h),some (.ref b),some (.ref D),some (.int d),some (.int i),o5]):=⟨_,fun _ _ _=>j2_⟩
    refine forL (xs:=gs.map V.int) Pz ((hPz _ _ _).mpr ⟨R2,_,s3,hD3,hF3,?_,rfl⟩) (fun j σ' H' _ h'=>by obtain⟨_,_,s',_⟩:=(hPz _ _ _).mp h';exact s'.seq hb) (fun j x σ4 H4 hx h4=>?_) (fun σ4 H4 h4=>?_)
    ·rcases hc3 with ⟨e,z⟩|z
     ·exact .inl ⟨e,z,fun x hx=>by simp at hx⟩
     ·exact .inr z
    ·obtain⟨R2,o5,s4,hD4,hF4,hc4,rfl⟩:=(hPz _ _ _).mp h4
     obtain⟨g,hg,rfl⟩:=A1 hx
     have hgm:=jl_ hg
     have hgr:=hgs g hgm
     have et:gs.take (j+1)=gs.take j++[g]:=by rw[jF_,hg];rfl
     obtain⟨row,gg,r1,r2,r3,r4,r5⟩:=wf.step (show (0:Int)<=(i:Int) by lia) s!"" hgr.1 hgr.2
     obtain⟨xs,tr,z1,z2,z3⟩:=q3.atZ (show (0:Int)<=(i:Int) by lia) r1
     have hR2l:R2.length<=marks.length:=AD marks.length hF4.nd hF4.rg
     have next:¬ (An ways (i:Int) g∈R2/\(i:Int)∉R2)->Pz (j+1) [some (.ref h),some (.ref b),some (.ref D),some (.int d),some (.int i),some (.int g)] H4:=fun hno=>by
      refine (hPz _ _ _).mpr ⟨R2,_,s4,hD4,hF4,?_,rfl⟩
      rcases hc4 with ⟨e,z,z'⟩|z
      ·refine .inl ⟨e,z,fun x hx hin=>?_⟩
       rw[et]at hx
       rcases jj_.mp hx with hx|hx
       ·exact z' x hx hin
       ·rw[jb_.mp hx]at hin
        subst e
        exact qg_ fun q=>hno ⟨hin,q⟩
      ·exact .inr z
     walk_at "rd"
     refine⟨_,s4.seqT q1,_,rfl,tw,rfl,_,s4.seqT z1,_,z2,tr,rfl,_,s4.seqT z3,_,B9 hgr.1 r2,_,.inl (SqL.of hD4),rfl,by simp[B7],?_⟩
     rw[CS,<-r3]
     by_cases hin:An ways (i:Int) g∈R2
     ·rw[if_pos (by simp[hin])]
      refine⟨_,.inl (SqL.of hD4),rfl,by simp[B7],?_⟩
      rw[CS]
      by_cases hs:(i:Int)∈R2
      ·rw[if_neg (by simp[hs])]
       exact next (fun z=>z.2 hs)
      ·rw[if_pos (by simp[hs])]
       refine⟨.inl ⟨rfl,_,SqL.of hD4⟩,_,hD4,by rw[jd_];lia,(hPz _ _ _).mpr ⟨R2++[(i:Int)],_,s4.over hD,by rw[Ab,jI_];rfl,hF4.put s!"" s!"" hgm hin hs,.inr ?_,rfl⟩⟩
       rcases hc4 with ⟨e,_⟩|⟨z,z'⟩
       ·subst e
        exact⟨by simp,fun hcl=>hs (hcl (i:Int) g s!"" s!"" hgm hin)⟩
       ·exact⟨by simp;lia,z'⟩
     ·rw[if_neg (by simp[hin])]
      exact next (fun z=>hin z.1)
    ·obtain⟨R2,o5,s4,hD4,hF4,hc4,rfl⟩:=(hPz _ _ _).mp h4
     rw[jd_,jL_]at hc4
     refine (hPr _ _ _).mpr ⟨R2,_,_,s4,hD4,hF4,?_,rfl⟩
     rcases hc4 with ⟨e,z,z'⟩|z
     ·refine .inl ⟨e,fun s x a b c e'=>?_⟩
      by_cases q:s=(i:Int)
      ·subst q;exact z' x c e'
      ·exact z s x a s!"" c e'
     ·exact .inr z
   ·obtain⟨R2,o4,o5,s3,hD3,hF3,hc3,rfl⟩:=(hPr _ _ _).mp h3
    refine (hPv _ _ _).mpr ⟨R2,_,_,_,s3,hD3,hF3,?_,rfl⟩
    rcases hc3 with ⟨e,z⟩|⟨z,z'⟩
    ·subst e
     exact .inl fun s x a b c e'=>z s x a b c e'
    ·exact .inr (by rcases hc2 with q|q<;>first|exact absurd q z' | lia)
  ·obtain⟨R,o3,o4,o5,s2,hD2,hF2,hc2,rfl⟩:=(hPv _ _ _).mp h2
   walk_at "rd"
   have hRl:R.length<=marks.length:=AD marks.length hF2.nd hF2.rg
   have hcl:Cl marks ways gs R:=by
    rcases hc2 with q|q
    ·exact q
    ·lia
   exact k D R H2 s2 hD hD2 hF2.rg (fun s a b' v hv hm=>hF2.all hcl wf hgs v s a b' hv hm) hF2.so
theorem Hk  {p B:Nat}  (g:Gd (A80 hs) p hs.length B hs.length good)  : x∈good↔Gy hs p x:=by
 constructor
 ·intro hx
  have hr:=g.rg x hx
  by_cases h:x<p
  ·exact .inl ⟨hr.1,h⟩
  ·exact .inr ⟨by lia,hr.2,g.s x hx s!""⟩
 ·rintro (⟨h0,h1⟩|⟨h0,h1,row,ha⟩)
  ·exact g.pl x h0 h1
  ·obtain⟨k,hk⟩:∃k:Nat,x-p=(k:Int):=⟨(x-p).toNat,by lia⟩
   rw[hk]at ha
   have:=g.all s!"" ha
   rw[show x=(p:Int)+k by lia];exact this
structure Fd (hs:List Hus)(p:Nat)(fs:α2):Prop where
 nd:fs.Nodup
 rg:∀x∈fs,0<=x/\x<(hs.length:Int)
 z:(0:Int)∈fs
 so:∀j:Nat,(j:Int)∈fs->Usd hs p j
theorem Fd.put    (h:Fd hs p fs)  (hj:j<hs.length)(hn:(j:Int)∉fs)(hu:Usd hs p j):Fd hs p (fs++[(j:Int)]):=by
 refine⟨qc_.mpr ⟨h.nd,by simp,fun a ha b hb=>?_⟩,fun z hz=>?_,jr_ _ h.z,fun i hi=>?_⟩
 ·rw[jb_.mp hb]
  intro e
  exact hn (e ▸ ha)
 ·rcases jj_.mp hz with hz|hz
  ·exact h.rg z hz
  ·rw[jb_.mp hz];lia
 ·rcases jj_.mp hi with hi|hi
  ·exact h.so i hi
  ·have:i=j:=by have:=jb_.mp hi;lia
   rw[this];exact hu
noncomputable def NQ (K:α3):Sp:=fun vs H Q _=>∃(wa g:Addr) (p:Nat) (xs:List V) (hs:List Hus) (good:α2),vs=[.ref wa,.ref g]/\H g=some (.lst (good.map V.int))/\Gd (A80 hs) p hs.length (p+hs.length+1) hs.length good/\CZ K H wa p xs hs/\WfW (p+hs.length) hs/\1<=hs.length/\hs.length<=3/\1<=p/\p<=6/\∀l (us:α2) H',Same H H'->H' l=some (.lst (us.map V.int))->us.Nodup->us.Pairwise (· <= ·)->(∀x∈us,0<=x/\x<(hs.length:Int))->(∀j:Nat,j<hs.length->((j:Int)∈us↔Usd hs p j))->Q (.ref l) H'
theorem Hl   (F:Fun K "_law_of_use" "_law_of_use" Cw f fd)(T:Txt mg)
  (Z:Exs K mg C_j2 C_j1 C_j4)
   (q_je:Cal P w K mg base CX0 1 "_law_rooms_to" Br ["house","letters"] (Ke K) CI Cd)
   (q_jh:Cal P w K mg base CX0 1 "_law_rooms_from" Bx ["house","letters"] (NO K) Df C1)
  : FnOk P w K mg base CX0 2 f fd ["works","good"] (NQ K):=by
 refine F.ok AQ (fun vs H Q E h=>?_) (fun cdv A outer s H vs Q E hr h=>?_)
 ·obtain⟨wa,g,p,xs,hs,good,rfl,_⟩:=h;rfl
 ·obtain⟨wa,g,p,xs,hs,good,rfl,hg,hG,hw,hwf,hh1,hh3,hp1,hp6,k⟩:=h
  have hl:=Au
  refine⟨_,(Ac (Aj (i:=2) AQ.nd (Ah (ixTD Am) (pvD 0) Ae))
   (Ac (AR (ptT (Ap B1 (pvD 2) (pvD 1) rfl))
   (Af (Aw (A8 Ad)))
   Ax)
   (Ac (Aj (i:=3) AQ.nd (A8 (Aa Ae Ad)))
   (Ac (Aj (i:=4) AQ.nd Ae)
   (Ac (Dj jC_ (ptT (Ap (opD0 HK) (pvD 4) (Aq (lenD Ai) (by rfl) T.len jD_ (Aa (pvD 3) Ad)) (Ar _)))
   (Ac (Aj (i:=5) AQ.nd (Ah (ixTD Am) (Ah (ixTD Am) (pvD 0) Ae) (Ah (ixLD AS) (pvD 3) (pvD 4))))
   (Ac (Aj (i:=6) AQ.nd (Ak q_jh hr.d AF (Aa (pvD 5) (Aa (pvD 1) Ad))))
   (Ac (A0 jC_ rfl (BI (Ak q_je hr.d AF (Aa (pvD 5) (Aa (pvD 1) Ad)))) (As (i:=7) AQ.nd rfl (Or.inl rfl))
   (Af (A0 jC_ rfl (BI (pvD 1)) (As (i:=8) AQ.nd rfl (Or.inl rfl))
   (Af (AR (PW.pt (Ho (ptT (Ap (opD0 LU) (pvD 8) (pvD 2) (Ar _))) (Fm (ptT (Ap Gv (Ah (ixTD Am) (Ah (ixTD Am) (Ah (ixTD Am) (pvD 5) Ae) (pvD 7)) (pvD 8)) (pvD 6) rfl)))))
   (Af (AR (ptT (Ap B1 (Av (opD0 Gq) (pvD 8) (pvD 2)) (pvD 3) rfl))
   (Af (AM (B2 jt_ jz_ jA_ AA (pvD 3) (Aa (Av (opD0 Gq) (pvD 8) (pvD 2)) Ad))))
   Ax))
   Ax)))))
   (Af (Aj (i:=4) AQ.nd (Av (opD0 AN) (pvD 4) Ae)))))))
   (Af (Aw (Aq JS rfl T.sorted PyProof.Rows.boot_sorted (Aa (pvD 3) Ad))))))))),?_⟩
  obtain⟨y,q1,q2,q3⟩:=id hw
  have hxl:=q3.1
  walk_at "rd"
  have s1:=Same.refl H
  refine⟨_,q1,_,rfl,_,.inl (SqL.of hg),rfl,by simp[B7],?_⟩
  rw[CS]
  have hgr:∀x∈good,0<=x/\x<((p+hs.length:Nat):Int):=fun x hx=>by have:=hG.rg x hx;lia
  by_cases hpg:(p:Int)∈good
  rotate_left
  ·rw[if_pos (by simp[hpg])]
   refine⟨by lia,fun q hq=>k q [] _ (s1.newT hq) Ab xP_ List.Pairwise.nil (fun _ z=>nomatch z) fun j hj=>⟨(fun z=>nomatch z),fun hu=>?_⟩⟩
   exact absurd ((Hk hG).mpr (Qg hu)) hpg
  rw[if_neg (by simp[hpg])]
  refine⟨by lia,fun fp hfp=>?_⟩
  have hfH:H fp=none:=s1.none hfp
  have s2:=s1.newT hfp (o:=.lst [V.int 0])
  have hg2:=Same.new hfp (o:=.lst [V.int 0]) _ _ hg
  have hf2:upd H fp (.lst [V.int 0]) fp=some (.lst ([(0:Int)].map V.int)):=Ab
  have hgf:g≠fp:=fun z=>by rw[z,hfp]at hg;cases hg
  generalize upd H fp (.lst [V.int 0])=H2 at s2 hg2 hf2 ⊢
  have hFd0:Fd hs p [0]:=⟨by simp,fun x hx=>by rw[jb_.mp hx];lia,by simp,fun j hj=>by
   have:j=0:=by have:=jb_.mp hj;lia
   rw[this];exact .zero ((Hk hG).mp hpg)⟩
  obtain⟨Pw,hPw⟩:∃Pv:Nat->St->Hp->Prop,∀m σ' H',Pv m σ' H'↔(∃(fs:α2) (wk:Nat) (o5 o6 o7 o8:Option V),Same H H'/\H' g=some (.lst (good.map V.int))/\H' fp=some (.lst (fs.map V.int))/\Fd hs p fs/\wk<=fs.length/\(∀(i c h:Nat),i<wk->fs[i]?=some (c:Int)->Edg hs p c h->(h:Int)∈fs)/\m=hs.length-wk/\σ'=[some (.ref wa),some (.ref g),some (.int p),some (.ref fp),some (.int wk),o5,o6,o7,o8]):=⟨_,fun _ _ _=>j2_⟩
  refine GD Pw ⟨_,(hPw _ _ _).mpr ⟨[0],0,none,none,none,none,s2,hg2,hf2,hFd0,by simp,(fun i c h z=>absurd z (qp_ _)),rfl,rfl⟩⟩ fun m σ' H' h'=>?_
  obtain⟨fs,wk,o5,o6,o7,o8,s3,hg3,hf3,hFd,hwk,hpr,hm,rfl⟩:=(hPw _ _ _).mp h'
  have hfsl:fs.length<=hs.length:=AD hs.length hFd.nd hFd.rg
  walk_at "rd"
  refine⟨_,.inl (SqL.of hf3),?_⟩
  rw[jd_]
  refine ite2 (fun hlt=>?_) (fun hge=>?_)
  rotate_left
  ·refine⟨fs,SqL.of hf3,by lia,fun ls ns' hls hperm hsort=>?_⟩
   refine k ls ns' _ (s3.newT hls) Ab (hperm.nodup_iff.mpr hFd.nd) hsort (fun x hx=>hFd.rg x (hperm.mem_iff.mp hx)) (fun j hj=>⟨fun hm=>hFd.so j (hperm.mem_iff.mp hm),fun hu=>hperm.mem_iff.mpr ?_⟩)
   refine Qh (G:=fun j=>(j:Int)∈fs) (fun _=>hFd.z) (fun c h hc hG' he=>?_) hu
   obtain⟨i,hi,e⟩:=jT_.mp hG'
   exact hpr i c h s!"" (by rw[ja_ hi,e]) he
  have hlt:wk<fs.length:=by lia
  have hcw:fs[wk]?=some fs[wk]:=ja_ hlt
  have hcm:fs[wk]∈fs:=jB_ hlt
  generalize fs[wk]=c0 at hcw hcm
  have hcr:=hFd.rg _ hcm
  obtain⟨c,rfl⟩:∃c:Nat,c0=(c:Int):=⟨c0.toNat,by lia⟩
  have hc:c<hs.length:=by lia
  have hhc:hs[c]?=some hs[c]:=ja_ hc
  obtain⟨ac,hx1,hhh⟩:=q3.2 c _ hhc
  have hwc:=hwf _ (jB_ hc)
  generalize hs[c]=r at hhc hhh hwc
  have hwf':=hwc.2
  rw[hwc.1]at hhh
  rw[<-jQ_]at hhh hwf'
  obtain⟨tm,tw,r1,r2,r3⟩:=id hhh
  refine⟨fun σ2 H2=>∃m',m'<m/\Pw m' σ2 H2,fun _ _ h=>h,_,s3.seqT q1,_,rfl,_,SqL.of hf3,_,AE (by rw[jw_,hcw];rfl),y,rfl,xs,c,rfl,s3.seqT q2,_,AE hx1,ac,g,p+hs.length,r.2.1,r.2.2,good,rfl,hhh.mono s3,hwf',SqL.of hg3,hgr,fun le Re H4 s4 hle4 he4 her hec hes=>?_⟩
  have hf4:=s4 _ _ hf3
  have hg4:=s4 _ _ hg3
  have s34:=s3.trans s4
  refine⟨ac,g,p+hs.length,r.2.1,r.2.2,good,rfl,hhh.mono s34,hwf',SqL.of hg4,hgr,fun lt Rt H5 s5 hlt5 ht5 htn htr ht0 htc htG=>?_⟩
  have s35:=s34.trans s5
  have hf5:=s5 _ _ hf4
  have hg5:=s5 _ _ hg4
  have he5:=s5 _ _ he4
  have hef:le≠fp:=fun z=>by rw[z,hf3]at hle4;cases hle4
  have htf:lt≠fp:=fun z=>by rw[z,hf4]at hlt5;cases hlt5
  have hRt:∀s∈Rt,∃u:α2,(∀x∈u,x∈good)/\u.foldl (An r.2.2) 0=s:=htG (fun s=>∃u:α2,(∀x∈u,x∈good)/\u.foldl (An r.2.2) 0=s) ⟨[],(fun _ z=>nomatch z),rfl⟩ (fun s ⟨u,h1,h2⟩ x hx=>⟨u++[x],fun z hz=>(jj_.mp hz).elim (h1 z) (fun e=>by rw[jb_.mp e];exact hx),by rw[jK_,h2];rfl⟩)
  refine⟨lt,rfl,⟨_,SqL.of ht5⟩,?_⟩
  obtain⟨Pt,hPt⟩:∃Pv:Nat->St->Hp->Prop,∀i σ' H',Pv i σ' H'↔(∃(fs2 more:α2) (o7 o8:Option V),Same H H'/\H' g=some (.lst (good.map V.int))/\H' le=some (.lst (Re.map V.int))/\H' lt=some (.lst (Rt.map V.int))/\H' fp=some (.lst (fs2.map V.int))/\fs2=fs++more/\Fd hs p fs2/\(∀s∈Rt.take i,∀h:Nat,(p:Int)+h∈good->An r.2.2 s ((p:Int)+h)∈Re->(h:Int)∈fs2)/\σ'=[some (.ref wa),some (.ref g),some (.int p),some (.ref fp),some (.int wk),some (.ref ac),some (.ref le),o7,o8]):=⟨_,fun _ _ _=>j2_⟩
  refine forL (xs:=Rt.map V.int) Pt ((hPt _ _ _).mpr ⟨fs,[],_,_,s35,hg5,he5,ht5,hf5,by simp,hFd,(fun s hs'=>by simp at hs'),rfl⟩) (fun i σ' H' _ h'=>by obtain⟨_,_,_,_,_,_,_,h4,_⟩:=(hPt _ _ _).mp h';exact SqL.of h4) (fun i x σ6 H6 hx h6=>?_) (fun σ6 H6 h6=>?_)
  ·obtain⟨fs2,more,p7,p8,s6,hg6,he6,ht6,hf6,efs,hFd6,hc6,rfl⟩:=(hPt _ _ _).mp h6
   obtain⟨s,hs',rfl⟩:=A1 hx
   have hsm:=jl_ hs'
   have hsr:=htr s hsm
   have et:Rt.take (i+1)=Rt.take i++[s]:=by rw[jF_,hs'];rfl
   walk_at "rd"
   refine⟨⟨_,SqL.of hg6⟩,?_⟩
   obtain⟨Pg,hPg⟩:∃Pv:Nat->St->Hp->Prop,∀j σ' H',Pv j σ' H'↔(∃(fs2 more:α2) (o8:Option V),Same H H'/\H' g=some (.lst (good.map V.int))/\H' le=some (.lst (Re.map V.int))/\H' lt=some (.lst (Rt.map V.int))/\H' fp=some (.lst (fs2.map V.int))/\fs2=fs++more/\Fd hs p fs2/\(∀s∈Rt.take i,∀h:Nat,(p:Int)+h∈good->An r.2.2 s ((p:Int)+h)∈Re->(h:Int)∈fs2)/\(∀h:Nat,(p:Int)+h∈good.take j->An r.2.2 s ((p:Int)+h)∈Re->(h:Int)∈fs2)/\σ'=[some (.ref wa),some (.ref g),some (.int p),some (.ref fp),some (.int wk),some (.ref ac),some (.ref le),some (.int s),o8]):=⟨_,fun _ _ _=>j2_⟩
   refine forL (xs:=good.map V.int) Pg ((hPg _ _ _).mpr ⟨fs2,more,_,s6,hg6,he6,ht6,hf6,efs,hFd6,hc6,(fun h hh=>by simp at hh),rfl⟩) (fun j σ' H' _ h'=>by obtain⟨_,_,_,_,h4,_⟩:=(hPg _ _ _).mp h';exact SqL.of h4) (fun j x σ7 H7 hx h7=>?_) (fun σ7 H7 h7=>?_)
   ·clear hg6 he6 ht6 hf6 hc6
    obtain⟨fs2,more,p8,s7,hg7,he7,ht7,hf7,efs7,hFd7,hc7,hd7,rfl⟩:=(hPg _ _ _).mp h7
    obtain⟨gx,hgx,rfl⟩:=A1 hx
    have hgm:=jl_ hgx
    have hgxr:=hgr gx hgm
    have et2:good.take (j+1)=good.take j++[gx]:=by rw[jF_,hgx];rfl
    obtain⟨row,gg,w1,w2,w3,w4,w5⟩:=hwf'.step hsr.1 hsr.2 hgxr.1 hgxr.2
    obtain⟨xs',tr,z1,z2,z3⟩:=r3.atZ hsr.1 w1
    have hfl2:fs2.length<=hs.length:=AD hs.length hFd7.nd hFd7.rg
    have next:(∀h:Nat,gx=(p:Int)+h->An r.2.2 s gx∈Re->(h:Int)∈fs2)->Pg (j+1) [some (.ref wa),some (.ref g),some (.int p),some (.ref fp),some (.int wk),some (.ref ac),some (.ref le),some (.int s),some (.int gx)] H7:=fun hn=>by
     refine (hPg _ _ _).mpr ⟨fs2,more,_,s7,hg7,he7,ht7,hf7,efs7,hFd7,hc7,fun h hh hin=>?_,rfl⟩
     rw[et2]at hh
     rcases jj_.mp hh with hh|hh
     ·exact hd7 h hh hin
     ·have e:=jb_.mp hh
      rw[e]at hin
      exact hn h e.symm hin
    walk_at "rd"
    refine ite2 (fun hge=>?_) (fun hlt'=>next (fun h e=>by lia))
    obtain⟨h,rfl⟩:∃h:Nat,gx=(p:Int)+h:=⟨(gx-p).toNat,by lia⟩
    have hhl:h<hs.length:=by lia
    refine⟨_,s7.seqT r1,_,rfl,tw,rfl,_,s7.seqT z1,_,z2,tr,rfl,_,s7.seqT z3,_,B9 hgxr.1 w2,_,.inl (SqL.of he7),rfl,by simp[B7],?_⟩
    rw[CS,<-w3]
    by_cases hin:An r.2.2 s ((p:Int)+h)∈Re
    ·rw[if_pos (by simp[hin])]
     refine⟨_,.inl (SqL.of hf7),rfl,by simp[B7],?_⟩
     rw[CS,show (p:Int)+h-p=(h:Int) by lia]
     by_cases hm':(h:Int)∈fs2
     ·rw[if_neg (by simp[hm'])]
      exact next (fun h' e _=>by rw[show h'=h by lia];exact hm')
     ·rw[if_pos (by simp[hm'])]
      obtain⟨u,hu1,hu2⟩:=hRt s hsm
      obtain⟨v,hv1,hv2⟩:=hes _ hin
      have hed:Edg hs p c h:=⟨hhl,r,hhc,(Hk hG).mp hgm,u,v,fun x hx=>(Hk hG).mp (hu1 x hx),fun x hx=>(Hk hG).mp (hv1 x hx),by rw[jK_,qo_,hu2];exact hv2⟩
      have hFd8:=hFd7.put hhl hm' (.step (hFd7.so c (by rw[efs7];exact jr_ _ hcm)) hed)
      refine⟨.inl ⟨rfl,_,SqL.of hf7⟩,_,hf7,by rw[jd_];lia,(hPg _ _ _).mpr ⟨fs2++[(h:Int)],more++[(h:Int)],_,s7.over hfH,by rw[Ag hgf];exact hg7,by rw[Ag hef];exact he7,by rw[Ag htf];exact ht7,by rw[Ab,jI_];rfl,by rw[efs7,jX_],hFd8,fun s' a b c' e=>jr_ _ (hc7 s' a b c' e),fun h' hh hin'=>?_,rfl⟩⟩
      rw[et2]at hh
      rcases jj_.mp hh with hh|hh
      ·exact jr_ _ (hd7 h' hh hin')
      ·have:=jb_.mp hh
       rw[show h'=h by lia];exact jk_ _ (jb_.mpr rfl)
    ·rw[if_neg (by simp[hin])]
     exact next (fun h' _ z=>absurd z hin)
   ·obtain⟨fs2,more,p8,s7,hg7,he7,ht7,hf7,efs7,hFd7,hc7,hd7,rfl⟩:=(hPg _ _ _).mp h7
    rw[jd_,jL_]at hd7
    refine (hPt _ _ _).mpr ⟨fs2,more,_,_,s7,hg7,he7,ht7,hf7,efs7,hFd7,fun s' hs'' h a b=>?_,rfl⟩
    rw[et]at hs''
    rcases jj_.mp hs'' with q|q
    ·exact hc7 s' q h a b
    ·rw[jb_.mp q]at b
     exact hd7 h a b
  ·obtain⟨fs2,more,p7,p8,s6,hg6,he6,ht6,hf6,efs,hFd6,hc6,rfl⟩:=(hPt _ _ _).mp h6
   rw[jd_,jL_]at hc6
   walk_at "rd"
   refine⟨hs.length-(wk+1),by lia,(hPw _ _ _).mpr ⟨fs2,wk+1,_,_,_,_,s6,hg6,hf6,hFd6,by rw[efs,jf_];lia,fun i c' h hi hc' he=>?_,rfl,by rw[jQ_];rfl⟩⟩
   by_cases e:i=wk
   ·subst e
    rw[efs,jg_ hlt,hcw]at hc'
    have:c'=c:=by
     have:(c:Int)=c':=by simpa using hc'
     lia
    subst this
    obtain⟨_,r',hr',hgy,u,v,hu,hv,hm'⟩:=he
    rw[hhc]at hr'
    cases hr'
    rw[jK_,qo_]at hm'
    have key:∀(w:α2) (s:Int),s∈Rt->(∀x∈w,x∈good)->w.foldl (An r.2.2) s∈Rt:=by
     intro w
     induction w with
     |nil=>intro s hs _;exact hs
     |cons x w ih=>intro s hs hw;exact ih _ (htc s hs x (hw x jv_)) (fun y hy=>hw y (jx_ _ hy))
    have hus:=key u 0 ht0 (fun x hx=>(Hk hG).mpr (hu x hx))
    have hpg':=(Hk hG).mpr hgy
    have hur:=htr _ hus
    obtain⟨row,gg,w1,w2,w3,w4,w5⟩:=hwf'.step hur.1 hur.2 (hgr _ hpg').1 (hgr _ hpg').2
    exact hc6 _ hus h hpg' (hec _ s!"" s!"" v (fun x hx=>(Hk hG).mpr (hv x hx)) hm')
   ·rw[efs,jg_ s!""]at hc'
    rw[efs]
    exact jr_ _ (hpr i c' h s!"" hc' he)
noncomputable def FV (K:α3):Sp:=fun vs H Q _=>∃(a b ya yb:Addr) (p p2:Nat) (xs xs2:List V),vs=[.ref a,.ref b]/\SqT K H a [.int p,.ref ya]/\SqT K H ya xs/\SqT K H b [.int p2,.ref yb]/\SqT K H yb xs2/\¬ (p=p2/\xs.length=xs2.length)/\∀H',Same H H'->Q (.bl true) H'
theorem G9   (F:Fun K "_law_refused" "_law_refused" B0 f fd)(T:Txt mg)
  (Z:Exs K mg C_j2 C_j1 C_j4)
   (q_j5:Cal P w K mg base (CXe P w) 14 "works_difference" A3 ["works","other"] (Kk K C_j1) BS BD)
  : FnOk P w K mg base CX0 15 f fd ["works","other"] (FV K):=by
 refine F.ok BP (fun vs H Q E h=>?_) (fun cdv A outer s H vs Q E hr h=>?_)
 ·obtain⟨a,b,ya,yb,p,p2,xs,xs2,rfl,_⟩:=h;rfl
 ·obtain⟨a,b,ya,yb,p,p2,xs,xs2,rfl,a1,a2,b1,b2,hne,k⟩:=h
  refine⟨_,(Ac (Aj (i:=2) BP.nd Di)
   (DS (Sk (i:=3) (E:=(fun σ cls _ H1=>σ=[some (.ref a),some (.ref b),some (.bl false),none]/\cls=.ref C_j1/\Same H H1)) BP.nd rfl rfl rfl Z.m_j2 rfl rfl rfl (fun xe pn hx=>(Af (AM (Ol q_j5.g (hr.mono (by decide)) rfl q_j5.m q_j5.F.kp q_j5.b .nil hx (Aa (pvD 0) (Aa (pvD 1) Ad))))))
   (fun ea pn=>(Af (Aj (i:=2) BP.nd (OQ (Aq (FJ (K:=K) rfl) rfl T.isinstance qD_ (Aa (pvD 3) (Aa (LM (v:=.ref C_j1) rfl Z.m_j1 rfl) Ad))) (OP (OR (Aq (FJ (K:=K) rfl) rfl T.isinstance qD_ (Aa (pvD 3) (Aa (LM (v:=.ref C_j4) rfl Z.m_j4 rfl) Ad))))))))))
   (Af (Aw (pvD 2))))),?_⟩
  walk_at "rd"
  obtain⟨R,hR⟩:∃R:St->Hp->Prop,∀σ' H',R σ' H'↔(Same H H'/\σ'=[some (.ref a),some (.ref b),some (.bl true),none]):=⟨_,fun _ _=>j2_⟩
  refine⟨R,?_,fun σ' H' h'=>?_⟩
  ·walk_at "rd"
   refine⟨⟨a,b,ya,yb,p,p2,xs,xs2,rfl,a1,a2,b1,b2,.inl ⟨hne,fun H1 s1=>⟨rfl,s1⟩⟩⟩,fun σ1 cls H1 h1=>?_⟩
   obtain⟨rfl,rfl,s1⟩:=h1
   refine⟨C_j1,rfl,Z.e_j1,fun ea hea=>?_⟩
   walk_at "rd"
   refine⟨_,_,.exc Ab Z.c_j1,Mw,_,Z.k_j1_j1,?_⟩
   rw[if_pos rfl]
   exact⟨_,_,.exc Ab Z.c_j1,Mw,_,Z.k_j1_j4,(hR _ _).mpr ⟨s1.newT hea,rfl⟩⟩
  ·obtain⟨s',rfl⟩:=(hR _ _).mp h'
   walk_at "rd"
   exact k _ s'
noncomputable def JD (K:α3):Sp:=fun vs H Q _=>∃(p h:Nat),vs=[.int p,.int h]/\1<=p/\p<=6/\1<=h/\h<=6/\∀w y xs H',Same H H'->SqT K H' w [.int p,.ref y]->SqT K H' y xs->xs.length=h->Q (.ref w) H'
theorem JE   (F:Fun K "_law_bare" "_law_bare" Ds f fd)(T:Txt mg)
  (Z:Exs K mg C_j2 C_j1 C_j4)
  : FnOk P w K mg base CX0 1 f fd ["plain","helpers"] (JD K):=by
 refine F.ok DX (fun vs H Q E h=>?_) (fun cdv A outer s H vs Q E hr h=>?_)
 ·obtain⟨p,h,rfl,_⟩:=h;rfl
 ·obtain⟨p,h,rfl,hp1,hp6,hh1,hh6,k⟩:=h
  have hl:=Au
  refine⟨_,(Ac (Aj (i:=2) DX.nd (Av (opD0 AN) (pvD 0) (pvD 1)))
   (Ac (Aj (i:=3) DX.nd (AL (Aa (pvD 2) (Aa (AL (Aa Ae Ad)) (Aa (AL (Aa (AJ AG rfl T.tuple jO_ (Aa (Av Ja (A8 (Aa Ae Ad)) (pvD 2)) Ad)) Ad)) Ad)))))
   (Af (Aw (AL (Aa (pvD 0) (Aa (AJ AG rfl T.tuple jO_ (Aa (Av Ja (A8 (Aa (pvD 3) Ad)) (pvD 1)) Ad)) Ad))))))),?_⟩
  walk_at "rd"
  refine⟨by lia,fun p1 hp1=>⟨by lia,fun p2 hp2=>⟨_,Ab,by lia,by lia,by simp;lia,fun p3 hp3=>⟨_,.inl ⟨SqL.of Ab,fun l hl4=>⟨by lia,fun p4 hp4=>⟨by lia,fun p5 hp5=>⟨by lia,fun p6 hp6=>⟨_,Ab,by lia,by lia,by simp;lia,fun p7 hp7=>⟨_,.inl ⟨SqL.of Ab,fun l8 hl8=>⟨by lia,fun p9 hp9=>?_⟩⟩⟩⟩⟩⟩⟩⟩⟩⟩⟩⟩
  have s9:=(((((((((Same.new hp1 (o:=.tup [V.int 1])).newT hp2 (o:=.lst [V.int 0])).newT hp3 (o:=.lst (List.replicate (((p:Int)+h)).toNat [V.int 0]).flatten)).newT hl4 (o:=.tup (List.replicate (((p:Int)+h)).toNat [V.int 0]).flatten)).newT hp4 (o:=.tup [V.ref l])).newT hp5 (o:=.tup [V.int ((p:Int)+h),V.ref p1,V.ref p4])).newT hp6 (o:=.lst [V.ref p5])).newT hp7 (o:=.lst (List.replicate (h:Int).toNat [V.ref p5]).flatten)).newT hl8 (o:=.tup (List.replicate (h:Int).toNat [V.ref p5]).flatten)).newT hp9 (o:=.tup [V.int p,V.ref l8])
  exact k p9 l8 _ _ s9 (SqT.of Ab) ((Same.new hp9).seqT (SqT.of Ab)) (by simp)
noncomputable def NR (K:α3):Sp:=fun vs H Q _=>∃(wa a:Addr) (p:Nat) (xs:List V) (hs:List Hus) (ws:α2),vs=[.ref wa,.ref a]/\CZ K H wa p xs hs/\SqT K H a (ws.map V.int)/\ws.length<=4000/\∀H',Same H H'->Q (.bl (AI (p:Int) ((p:Int)+hs.length) ws 0)) H'
theorem F8   (F:Fun K "_law_row_good" "_law_row_good" BQ f fd)(T:Txt mg)
  (Z:Exs K mg C_j2 C_j1 C_j4)
   (q_jw:Cal P w K mg base CX0 1 "_law_whole" CV ["found"] (KY) FW E7)
   (q_jp:Cal P w K mg base CX0 1 "_law_nested" Cu ["plain","helpers","signs"] (FN K) E8 Eo)
  : FnOk P w K mg base CX0 2 f fd ["works","found"] (NR K):=by
 refine F.ok DD (fun vs H Q E h=>?_) (fun cdv A outer s H vs Q E hr h=>?_)
 ·obtain⟨wa,a,p,xs,hs,ws,rfl,_⟩:=h;rfl
 ·obtain⟨wa,a,p,xs,hs,ws,rfl,hw,ha,hz,k⟩:=h
  have hl:=Au
  refine⟨_,(Ac (AR (PW.pt (Ld (IL (ptB (FE (Aq CQ rfl T.isinstance qD_ (Aa (pvD 1) (Aa (JI (v:=.ty "tuple") rfl T.tuple jO_ rfl) Ad)))))) (Hn (ptT (Ap (opD0 RF) (Aq (lenD Ai) (by rfl) T.len jD_ (Aa (pvD 1) Ad)) Ae (Ar _))))))
   (Af (Aw Di))
   Ax)
   (Ac (A0 jC_ rfl (IP (pvD 1)) (As (i:=2) DD.nd rfl (Or.inl rfl))
   (Af (AR (IL (ptB (FE (Ak q_jw hr.d AF (Aa (pvD 2) Ad)))))
   (Af (Aw Di))
   Ax)))
   (Af (Aw (Ak q_jp hr.d AF (Aa (Ah (ixTD Am) (pvD 0) Ae) (Aa (Aq (lenD Ai) (by rfl) T.len jD_ (Aa (Ah (ixTD Am) (pvD 0) Ae) Ad)) (Aa (pvD 1) Ad)))))))),?_⟩
  obtain⟨y,q1,q2,q3⟩:=hw
  walk_at "rd"
  refine⟨_,_,.tup ha,Mv,_,Kr,?_⟩
  rw[if_neg (by decide)]
  refine⟨_,.inr ha,?_⟩
  rw[jd_,if_neg s!""]
  refine⟨⟨_,ha⟩,?_⟩
  obtain⟨Pw,hPw⟩:∃Pv:Nat->St->Hp->Prop,∀i σ' H',Pv i σ' H'↔(∃o2:Option V,H'=H/\σ'=[some (.ref wa),some (.ref a),o2]):=⟨_,fun _ _ _=>j2_⟩
  refine forT (xs:=ws.map V.int) Pw ((hPw _ _ _).mpr ⟨_,rfl,rfl⟩) (fun i σ' H' _ h'=>by obtain⟨_,rfl,_⟩:=(hPw _ _ _).mp h';exact ha) (fun i x σ6 H6 hx h6'=>?_) (fun σ6 H6 h6'=>?_)
  ·obtain⟨o2,rfl,rfl⟩:=(hPw _ _ _).mp h6'
   obtain⟨y',hy,rfl⟩:=A1 hx
   walk_at "rd"
   refine⟨y',rfl,_,rfl,?_⟩
   rw[if_neg (by decide)]
   exact (hPw _ _ _).mpr ⟨_,rfl,rfl⟩
  ·obtain⟨o2,rfl,rfl⟩:=(hPw _ _ _).mp h6'
   walk_at "rd"
   exact⟨_,q1,_,rfl,_,q1,_,rfl,y,rfl,_,.inr q2,true,p,hs.length,a,ws,by rw[q3.1],ha,hz,k⟩
structure Cp (w1 w2:α1)(n m:Nat)(gs:α2)(cs:α1):Prop where
 sh:∀c∈cs,∃a b:Int,c=[a,b]/\0<=a/\a<n/\0<=b/\b<m/\∃w:α2,(∀x∈w,x∈gs)/\w.foldl (An w1) 0=a/\w.foldl (An w2) 0=b
 nd:cs.Nodup
 z:[(0:Int),0]∈cs
theorem Cp.len     (h:Cp w1 w2 n m gs cs)(hm:1<=m):cs.length<=n*m:=by
 have h1:(cs.map fun c:α2=>c.getD 0 0*(m:Int)+c.getD 1 0).Nodup:=by
  refine zg_ _ (fun a b hab=>hab) ?_
  refine List.Pairwise.imp_of_mem (fun {a b} ha hb hne e=>hne ?_) h.nd
  obtain⟨a1,a2,rfl,p1,p2,p3,p4,_⟩:=h.sh a ha
  obtain⟨b1,b2,rfl,r1,r2,r3,r4,_⟩:=h.sh b hb
  have e:a1*m+a2=b1*m+b2:=e
  have e1:(a1*m+a2) / m=a1:=by rw[Int.add_comm,xg_ _ _ s!"",xh_ p3 p4];lia
  have e2:(b1*m+b2) / m=b1:=by rw[Int.add_comm,xg_ _ _ s!"",xh_ r3 r4];lia
  have e3:a1=b1:=by rw[<-e1,e,e2]
  subst e3
  rw[show a2=b2 by lia]
 have h2:=AD (n*m) h1 (fun x hx=>by
  obtain⟨c,hc,rfl⟩:=qh_.mp hx
  obtain⟨a,b,rfl,p1,p2,p3,p4,_⟩:=h.sh c hc
  show 0<=a*m+b/\a*m+b<((n*m:Nat):Int)
  have k1:0<=a*(m:Int):=Int.mul_nonneg p1 s!""
  have k2:(a+1)*(m:Int)<=(n:Int)*m:=qP_ s!"" s!""
  rw[Int.add_mul,Int.one_mul]at k2
  rw[Int.natCast_mul]
  lia)
 rw[jd_]at h2
 exact h2
noncomputable def NS (K:α3):Sp:=fun vs H Q _=>∃(h h2 g:Addr) (L:Int) (marks marks2:α2) (ways ways2:α1) (gs:α2),vs=[.ref h,.ref h2,.ref g]/\Bc K H h L marks ways/\Wf L marks ways/\Bc K H h2 L marks2 ways2/\Wf L marks2 ways2/\H g=some (.lst (gs.map V.int))/\(∀x∈gs,0<=x/\x<L) /\
 (∀H',Same H H'->(∀w:α2,(∀x∈w,x∈gs)->(mk80 marks (w.foldl (An ways) 0)≠0↔mk80 marks2 (w.foldl (An ways2) 0)≠0))->Q (.bl false) H') /\
 ∀(w:α2) H',Same H H'->(∀x∈w,x∈gs)->¬ (mk80 marks (w.foldl (An ways) 0)≠0↔mk80 marks2 (w.foldl (An ways2) 0)≠0)->Q (.bl true) H'
theorem D6   (F:Fun K "_law_houses_unlike" "_law_houses_unlike" A9 f fd)(T:Txt mg)
  (Z:Exs K mg C_j2 C_j1 C_j4)
  : FnOk P w K mg base CX0 1 f fd ["house","other","letters"] (NS K):=by
 refine F.ok Ay (fun vs H Q E h=>?_) (fun cdv A outer s H vs Q E hr h=>?_)
 ·obtain⟨h,h2,g,L,marks,marks2,ways,ways2,gs,rfl,_⟩:=h;rfl
 ·obtain⟨h,h2,g,L,marks,marks2,ways,ways2,gs,rfl,hh,wf,hh2,wf2,hg,hgs,kF,kT⟩:=h
  have hl:=Au
  have hn1:=wf.n1
  have hn2:=wf2.n1
  have hn40:=wf.n40
  have hm40:=wf2.n40
  refine⟨_,(Ac (Aj (i:=3) Ay.nd (A8 (Aa (AL (Aa Ae (Aa Ae Ad))) Ad)))
   (Ac (Aj (i:=4) Ay.nd Ae)
   (Ac (Dj jC_ (ptT (Ap (opD0 HK) (pvD 4) (Aq (lenD Ai) (by rfl) T.len jD_ (Aa (pvD 3) Ad)) (Ar _)))
   (Ac (EH (Ah (ixLD AS) (pvD 3) (pvD 4)) (FF rfl (AZ (As (i:=5) Ay.nd rfl (Or.inl rfl)) (AZ (As (i:=6) Ay.nd rfl (Or.inl rfl)) DL))))
   (Ac (AR (ptT (Ap (opN Gr) (CB (opE C3) (Ah (ixTD Am) (Ah (ixTD Am) (pvD 0) Ae) (pvD 5)) Ae (Ar _)) (CB (opE C3) (Ah (ixTD Am) (Ah (ixTD Am) (pvD 1) Ae) (pvD 6)) Ae (Ar _)) (Ar _)))
   (Af (Aw Di))
   Ax)
   (Ac (A0 jC_ rfl (BI (pvD 2)) (As (i:=7) Ay.nd rfl (Or.inl rfl))
   (Ac (Aj (i:=8) Ay.nd (AL (Aa (Ah (ixTD Am) (Ah (ixTD Am) (Ah (ixTD Am) (pvD 0) Ae) (pvD 5)) (pvD 7)) (Aa (Ah (ixTD Am) (Ah (ixTD Am) (Ah (ixTD Am) (pvD 1) Ae) (pvD 6)) (pvD 7)) Ad))))
   (Af (AR (ptT (Ap (MX (hu9 hr)) (pvD 8) (pvD 3) rfl))
   (Af (AM (B2 jt_ jz_ jA_ AA (pvD 3) (Aa (pvD 8) Ad))))
   Ax))))
   (Af (Aj (i:=4) Ay.nd (Av (opD0 AN) (pvD 4) Ae)))))))
   (Af (Aw Di))))),?_⟩
  obtain⟨tm,tw,q1,q2,q3⟩:=id hh
  obtain⟨tm2,tw2,q1b,q2b,q3b⟩:=id hh2
  have hnm:marks.length*marks2.length<=40*40:=zd_ hn40 hm40
  have hmk:∀(ms:α2) (s:Int),0<=s->s<ms.length->atI (ms.map V.int) s=some (.int (mk80 ms s)):=fun ms s h0 h1=>Js h0 (by
   unfold mk80
   have:s.toNat<ms.length:=by lia
   rw[jw_,ja_ this,js_,ja_ this];rfl)
  walk_at "rd"
  refine⟨by lia,fun p0 hp0=>⟨by lia,fun lc hlc=>?_⟩⟩
  have s0:=(Same.new hp0 (o:=.tup [V.int 0,V.int 0])).newT hlc (o:=.lst [V.ref p0])
  have hW0:CT K (upd (upd H p0 (.tup [V.int 0,V.int 0])) lc (.lst [V.ref p0])) [V.ref p0] [[0,0]]:=⟨rfl,fun i w hw=>by
   match i,hw with
   |0,hw=>cases hw;exact⟨p0,rfl,(Same.new hlc) _ _ Ab⟩
   |i+1,hw=>cases hw⟩
  have hlc0:upd (upd H p0 (.tup [V.int 0,V.int 0])) lc (.lst [V.ref p0]) lc=some (.lst [V.ref p0]):=Ab
  have hlcH:H lc=none:=(Al hlc).1
  have hglc:g≠lc:=fun z=>by rw[z,hlcH]at hg;cases hg
  generalize upd (upd H p0 (.tup [V.int 0,V.int 0])) lc (.lst [V.ref p0])=H1 at s0 hW0 hlc0 ⊢
  have hCp0:Cp ways ways2 marks.length marks2.length gs [[0,0]]:=⟨fun c hc=>⟨0,0,jb_.mp hc,by lia,by lia,by lia,by lia,[],(fun _ z=>nomatch z),rfl,rfl⟩,by simp,by simp⟩
  obtain⟨Pw,hPw⟩:∃Pv:Nat->St->Hp->Prop,∀m σ' H',Pv m σ' H'↔(∃(cs:α1) (cv:List V) (wk:Nat) (o5 o6 o7 o8:Option V),Same H H'/\H' lc=some (.lst cv)/\CT K H' cv cs/\Cp ways ways2 marks.length marks2.length gs cs/\wk<=cs.length/\(∀(i:Nat) (a b:Int),i<wk->cs[i]?=some [a,b]->(mk80 marks a≠0↔mk80 marks2 b≠0)/\∀x∈gs,[An ways a x,An ways2 b x]∈cs)/\m=marks.length*marks2.length-wk/\σ'=[some (.ref h),some (.ref h2),some (.ref g),some (.ref lc),some (.int wk),o5,o6,o7,o8]):=⟨_,fun _ _ _=>j2_⟩
  refine GD Pw ⟨_,(hPw _ _ _).mpr ⟨_,_,0,none,none,none,none,s0,hlc0,hW0,hCp0,by simp,(fun i a b z=>absurd z (qp_ _)),rfl,rfl⟩⟩ fun m σ' H' h'=>?_
  obtain⟨cs,cv,wk,o5,o6,o7,o8,s2,hlc2,hW2,hCp,hwk,hpr,hm,rfl⟩:=(hPw _ _ _).mp h'
  have hcl:=hCp.len s!""
  walk_at "rd"
  refine⟨_,.inl (SqL.of hlc2),?_⟩
  rw[hW2.1]
  refine ite2 (fun hlt=>?_) (fun hge=>?_)
  rotate_left
  ·refine kF H' s2 (fun w hw=>?_)
   have key:∀(w:α2) (a b:Int),[a,b]∈cs->(∀x∈w,x∈gs)->[w.foldl (An ways) a,w.foldl (An ways2) b]∈cs:=by
    intro w
    induction w with
    |nil=>intro a b hc _;exact hc
    |cons x w ih=>
     intro a b hc hw
     obtain⟨i,hi,e⟩:=jT_.mp hc
     exact ih _ _ ((hpr i a b s!"" (by rw[ja_ hi,e])).2 x (hw x jv_)) (fun y hy=>hw y (jx_ _ hy))
   obtain⟨i,hi,e⟩:=jT_.mp (key w 0 0 hCp.z hw)
   exact (hpr i _ _ s!"" (by rw[ja_ hi,e])).1
  have hlt:wk<cs.length:=by lia
  have hcw:cs[wk]?=some cs[wk]:=ja_ hlt
  have hcm:cs[wk]∈cs:=jB_ hlt
  generalize cs[wk]=c at hcw hcm
  obtain⟨a,b,rfl,a0,a1,b0,b1,wd,hwd,hwa,hwb⟩:=hCp.sh c hcm
  obtain⟨tc,hct1,hct2⟩:=hW2.2 wk _ hcw
  refine⟨fun σ2 H2=>∃m',m'<m/\Pw m' σ2 H2,fun _ _ h=>h,_,SqL.of hlc2,_,AE hct1,?_⟩
  refine⟨tc,rfl,_,SqT.of hct2,rfl,_,_,rfl,_,_,rfl,rfl,_,s2.seqT q1,_,rfl,tm,rfl,_,a,rfl,s2.seqT q2,_,hmk marks a a0 a1,rfl,_,s2.seqT q1b,_,rfl,tm2,rfl,_,b,rfl,s2.seqT q2b,_,hmk marks2 b b0 b1,rfl,?_⟩
  by_cases hsame:mk80 marks a≠0↔mk80 marks2 b≠0
  rotate_left
  ·rw[if_pos ?_]
   ·refine kT wd H' s2 hwd ?_
    rw[hwa,hwb];exact hsame
   ·by_cases z1:mk80 marks a=0<;>by_cases z2:mk80 marks2 b=0<;>simp[z1,z2]at hsame ⊢
  rw[if_neg ?_]
  rotate_left
  ·by_cases z1:mk80 marks a=0<;>by_cases z2:mk80 marks2 b=0<;>simp[z1,z2]at hsame ⊢
  refine⟨⟨_,SqL.of (s2 _ _ hg)⟩,?_⟩
  obtain⟨Pz,hPz⟩:∃Pv:Nat->St->Hp->Prop,∀j σ' H',Pv j σ' H'↔(∃(cs2 more:α1) (cv:List V) (o7 o8:Option V),Same H H'/\H' lc=some (.lst cv)/\CT K H' cv cs2/\Cp ways ways2 marks.length marks2.length gs cs2/\cs2=cs++more/\(∀x∈gs.take j,[An ways a x,An ways2 b x]∈cs2)/\σ'=[some (.ref h),some (.ref h2),some (.ref g),some (.ref lc),some (.int wk),some (.int a),some (.int b),o7,o8]):=⟨_,fun _ _ _=>j2_⟩
  refine forL (xs:=gs.map V.int) Pz ((hPz _ _ _).mpr ⟨cs,[],cv,_,_,s2,hlc2,hW2,hCp,by simp,(fun x hx=>by simp at hx),rfl⟩) (fun j σ' H' _ h'=>by obtain⟨_,_,_,_,_,s',_⟩:=(hPz _ _ _).mp h';exact SqL.of (s' _ _ hg)) (fun j x σ3 H3 hx h3=>?_) (fun σ3 H3 h3=>?_)
  ·obtain⟨cs2,more,cv2,p7,p8,s3,hlc3,hW3,hCp3,ecs,hd3,rfl⟩:=(hPz _ _ _).mp h3
   obtain⟨gx,hgx,rfl⟩:=A1 hx
   have hgm:=jl_ hgx
   have hgr:=hgs gx hgm
   have et:gs.take (j+1)=gs.take j++[gx]:=by rw[jF_,hgx];rfl
   obtain⟨row,gg,r1,r2,r3,r4,r5⟩:=wf.step a0 a1 hgr.1 hgr.2
   obtain⟨xs',tr,z1,z2,z3⟩:=q3.atZ a0 r1
   obtain⟨row2,gg2,r1b,r2b,r3b,r4b,r5b⟩:=wf2.step b0 b1 hgr.1 hgr.2
   obtain⟨xs2',tr2,z1b,z2b,z3b⟩:=q3b.atZ b0 r1b
   have hcl3:=hCp3.len s!""
   have h3l:=hW3.1
   walk_at "rd"
   refine⟨_,s3.seqT q1,_,rfl,tw,rfl,_,s3.seqT z1,_,z2,tr,rfl,_,s3.seqT z3,_,B9 hgr.1 r2,_,s3.seqT q1b,_,rfl,tw2,rfl,_,s3.seqT z1b,_,z2b,tr2,rfl,_,s3.seqT z3b,_,B9 hgr.1 r2b,by lia,fun tp htp=>?_⟩
   rw[<-r3,<-r3b]
   have st:=Same.new htp (o:=.tup [V.int (An ways a gx),V.int (An ways2 b gx)])
   have htp2:upd H3 tp (.tup [V.int (An ways a gx),V.int (An ways2 b gx)]) tp=some (.tup ([An ways a gx,An ways2 b gx].map V.int)):=Ab
   have hlc4:=st _ _ hlc3
   have hW4:=hW3.mono (TK.of st)
   have s4:=s3.trans st
   generalize upd H3 tp (.tup [V.int (An ways a gx),V.int (An ways2 b gx)])=H4 at st htp2 hlc4 hW4 s4 ⊢
   have hmem:∀{cs3:α1},(∀c∈cs2,c∈cs3)->[An ways a gx,An ways2 b gx]∈cs3->∀x∈gs.take (j+1),[An ways a x,An ways2 b x]∈cs3:=fun {cs3} hsub hn x hx=>by
    rw[et]at hx
    rcases jj_.mp hx with hx|hx
    ·exact hsub _ (hd3 x hx)
    ·rw[jb_.mp hx];exact hn
   refine⟨cv2,SqL.of hlc4,[An ways a gx,An ways2 b gx],cs2,hW4,SqT.of htp2,?_⟩
   by_cases hin:[An ways a gx,An ways2 b gx]∈cs2
   ·rw[if_neg (by simp[hin])]
    exact (hPz _ _ _).mpr ⟨cs2,more,cv2,_,_,s4,hlc4,hW4,hCp3,ecs,hmem (fun _ z=>z) hin,rfl⟩
   ·rw[if_pos (by simp[hin])]
    have hcl4:cv2.length=cs2.length:=hW4.1
    refine⟨.inl ⟨rfl,_,SqL.of hlc4⟩,_,hlc4,by lia,(hPz _ _ _).mpr ⟨cs2++[[An ways a gx,An ways2 b gx]],more++[[An ways a gx,An ways2 b gx]],_,_,_,s4.over hlcH,Ab,?_,⟨fun c hc=>?_,?_,jr_ _ hCp3.z⟩,by rw[ecs,jX_],hmem (fun _ z=>jr_ _ z) (jk_ _ (jb_.mpr rfl)),rfl⟩⟩
    ·exact (hW4.mono (Np (fun b' ys' e=>e) hlc4)).snoc (by rw[Ag (fun z=>by rw[z,hlc4]at htp2;cases htp2)];exact htp2)
    ·rcases jj_.mp hc with hc|hc
     ·exact hCp3.sh c hc
     ·refine⟨_,_,jb_.mp hc,by lia,by lia,by lia,by lia,wd++[gx],fun x hx=>(jj_.mp hx).elim (hwd x) (fun e=>by rw[jb_.mp e];exact hgm),by rw[jK_,hwa];rfl,by rw[jK_,hwb];rfl⟩
    ·refine qc_.mpr ⟨hCp3.nd,by simp,fun a' ha b' hb=>?_⟩
     rw[jb_.mp hb]
     intro e
     exact hin (e ▸ ha)
  ·obtain⟨cs2,more,cv2,p7,p8,s3,hlc3,hW3,hCp3,ecs,hd3,rfl⟩:=(hPz _ _ _).mp h3
   rw[jd_,jL_]at hd3
   have hcl3:=hCp3.len s!""
   have hcl4:cs2.length=cs.length+more.length:=by rw[ecs,jf_]
   walk_at "rd"
   refine⟨marks.length*marks2.length-(wk+1),by lia,(hPw _ _ _).mpr ⟨cs2,cv2,wk+1,_,_,_,_,s3,hlc3,hW3,hCp3,by lia,fun i a' b' hi hc'=>?_,rfl,by rw[jQ_];rfl⟩⟩
   by_cases e:i=wk
   ·subst e
    rw[ecs,jg_ hlt,hcw]at hc'
    cases hc'
    exact⟨hsame,hd3⟩
   ·rw[ecs,jg_ s!""]at hc'
    obtain⟨k1,k2⟩:=hpr i a' b' s!"" hc'
    exact⟨k1,fun x hx=>by rw[ecs];exact jr_ _ (k2 x hx)⟩
theorem NT:∀{us vs:α2},us.Pairwise (· <= ·)->vs.Pairwise (· <= ·)->us.Nodup->vs.Nodup->(∀x,x∈us↔x∈vs)->us=vs
 |[],[],_,_,_,_,_=>rfl
 |[],y::vs,_,_,_,_,h=>absurd ((h y).mpr jv_) (fun z=>nomatch z)
 |x::us,[],_,_,_,_,h=>absurd ((h x).mp jv_) (fun z=>nomatch z)
 |x::us,y::vs,h1,h2,n1,n2,h=>by
  have a1:=List.pairwise_cons.mp h1
  have a2:=List.pairwise_cons.mp h2
  have m1:=q6_.mp n1
  have m2:=q6_.mp n2
  have e:x=y:=by
   rcases jJ_.mp ((h x).mp jv_) with e|e
   ·exact e
   ·rcases jJ_.mp ((h y).mpr jv_) with e' | e'
    ·exact e'.symm
    ·have:=a1.1 y e'
     have:=a2.1 x e
     lia
  subst e
  have:us=vs:=NT a1.2 a2.2 m1.2 m2.2 (fun z=>by
   constructor
   ·intro hz
    rcases jJ_.mp ((h z).mp (jx_ _ hz)) with e|e
    ·rw[e]at hz;exact absurd hz m1.1
    ·exact e
   ·intro hz
    rcases jJ_.mp ((h z).mpr (jx_ _ hz)) with e|e
    ·rw[e]at hz;exact absurd hz m2.1
    ·exact e)
  rw[this]
noncomputable def NU (K:α3):Sp:=fun vs H Q _=>∃(wa wb:Addr) (p:Nat) (xs xs2:List V) (hs h2:List Hus),vs=[.ref wa,.ref wb]/\WkOk K H wa p xs hs/\WkOk K H wb p xs2 h2/\h2.length=hs.length/\∀(b:Bool) H',Same H H'->(b=false↔SmL hs h2 p)->Q (.bl b) H'
theorem Hm   (F:Fun K "_law_unlike" "_law_unlike" Cy f fd)(T:Txt mg)
  (Z:Exs K mg C_j2 C_j1 C_j4)
   (q_j6:Cal P w K mg base CX0 2 "_law_letters_good" Bf ["works"] (Nu K) CM Cq)
   (q_jn:Cal P w K mg base CX0 2 "_law_of_use" Cw ["works","good"] (NQ K) E9 Ep)
   (q_j9:Cal P w K mg base CX0 1 "_law_houses_unlike" A9 ["house","other","letters"] (NS K) Cr B6)
  : FnOk P w K mg base CX0 3 f fd ["works","other"] (NU K):=by
 refine F.ok Bk (fun vs H Q E h=>?_) (fun cdv A outer s H vs Q E hr h=>?_)
 ·obtain⟨wa,wb,p,xs,xs2,hs,h2,rfl,_⟩:=h;rfl
 ·obtain⟨wa,wb,p,xs,xs2,hs,h2,rfl,hW,hW2,hl2,k⟩:=h
  have hl:=Au
  have hh1:=hW.h1
  have hh3:=hW.h3
  have hp6:=hW.p6
  refine⟨_,(Ac (Aj (i:=2) Bk.nd (Ak q_j6 hr.d AF (Aa (pvD 0) Ad)))
   (Ac (EI (i:=3) Bk.nd rfl (Or.inr rfl) (Ak q_j6 hr.d AF (Aa (pvD 1) Ad)))
   (Ac (Aj (i:=4) Bk.nd (Ak q_jn hr.d AF (Aa (pvD 0) (Aa (pvD 2) Ad))))
   (Ac (AR (ptT (Ap (Ss 8 (hu9 hr)) (pvD 4) (Ak q_jn hr.d AF (Aa (pvD 1) (Aa (pvD 3) Ad))) (Ar _)))
   (Af (Aw Di))
   Ax)
   (Ac (Ey (i:=5) Bk.nd rfl rfl rfl (DR rfl) (cp:=D0) ⟨⟨rfl,rfl⟩,True.intro⟩ (BI (pvD 2)) (fun _ _ _ _=>(As (i:=0) EW rfl (Or.inl rfl))) (fun _ _ _ _=>(Mo (ptT (Ap (Lx (K:=K) rfl) (pvD 0) (pvD 1) rfl)))) (fun _ _ _ _=>(pvD 0)))
   (Ac (A0 jC_ rfl (BI (pvD 4)) (As (i:=6) Bk.nd rfl (Or.inl rfl))
   (Af (AR (ptB (FE (Ak q_j9 hr.d AF (Aa (Ah (ixTD Am) (Ah (ixTD Am) (pvD 0) Ae) (pvD 6)) (Aa (Ah (ixTD Am) (Ah (ixTD Am) (pvD 1) Ae) (pvD 6)) (Aa (pvD 5) Ad))))))
   (Af (Aw Di))
   Ax)))
   (Af (Aw Di)))))))),?_⟩
  walk_at "rd"
  refine⟨wa,p,xs,hs,rfl,hW.w,hW.f,hW.h1,hW.h3,hW.p1,hW.p6,fun g good H1 s1 hg hG=>?_⟩
  refine⟨wb,p,xs2,h2,rfl,(hW2.mono s1).w,hW2.f,hW2.h1,hW2.h3,hW2.p1,hW2.p6,fun g2 good2 H2 s2 hg2 hG2=>?_⟩
  have s02:=s1.trans s2
  refine⟨wa,g,p,xs,hs,good,rfl,s2 _ _ hg,hG,(hW.mono s02).w,hW.f,hW.h1,hW.h3,hW.p1,hW.p6,fun lu us H3 s3 hlu und uso urg hus=>?_⟩
  have s03:=s02.trans s3
  refine⟨wb,g2,p,xs2,h2,good2,rfl,s3 _ _ hg2,hG2,(hW2.mono s03).w,hW2.f,hW2.h1,hW2.h3,hW2.p1,hW2.p6,fun lu2 us2 H4 s4 hlu2 und2 uso2 urg2 hus2=>?_⟩
  have s04:=s03.trans s4
  have hiff:SmL hs h2 p->∀j:Nat,j<hs.length->(Usd hs p j↔Usd h2 p j):=fun hS j hj=>⟨NC hh1 hl2 hS hj,NC s!"" hl2.symm (hS.symm hl2) s!""⟩
  have hueq:us=us2 ↔ ∀j:Nat,j<hs.length->(Usd hs p j↔Usd h2 p j):=by
   constructor
   ·intro e j hj
    rw[<-hus j hj,e,hus2 j s!""]
   ·intro he
    refine NT uso uso2 und und2 (fun x=>⟨fun hx=>?_,fun hx=>?_⟩)
    ·have hr:=urg x hx
     obtain⟨j,rfl⟩:∃j:Nat,x=(j:Int):=⟨x.toNat,by lia⟩
     exact (hus2 j s!"").mpr ((he j s!"").mp ((hus j s!"").mp hx))
    ·have hr:=urg2 x hx
     obtain⟨j,rfl⟩:∃j:Nat,x=(j:Int):=⟨x.toNat,by lia⟩
     exact (hus j s!"").mpr ((he j s!"").mpr ((hus2 j s!"").mp hx))
  refine⟨lu,rfl,lu2,rfl,decide (us=us2),EqD.ints (.inl ⟨SqL.of (s4 _ _ hlu),SqL.of hlu2⟩) 7,?_⟩
  by_cases hue:us=us2
  rotate_left
  ·rw[j3_ hue,if_pos (by decide)]
   exact k true H4 s04 ⟨(fun z=>nomatch z),fun hS=>absurd (hueq.mpr (hiff hS)) hue⟩
  rw[qv_ hue,if_neg (by decide)]
  have hU:=hueq.mp hue
  have hg4:=s4 _ _ (s3 _ _ (s2 _ _ hg))
  have hg24:=s4 _ _ (s3 _ _ hg2)
  refine⟨g,rfl,⟨_,SqL.of hg4⟩,?_⟩
  have hgl:good.length<=p+hs.length:=AD (p+hs.length) hG.nd (fun x hx=>by have:=hG.rg x hx;lia)
  obtain⟨Pc,hPc⟩:∃Pc:Nat->List V->St->Hp->Prop,∀i zs σ' H',Pc i zs σ' H'↔(H'=H4/\(∃L:α2,zs=L.map V.int/\L.length<=i/\∀x,x∈L↔x∈good.take i/\x∈good2)/\∃o,σ'=[o,some (.ref g2)]):=⟨_,fun _ _ _ _=>j2_⟩
  refine QF (xs:=good.map V.int) Pc ((hPc _ _ _ _).mpr ⟨rfl,⟨[],rfl,jh_ _,fun x=>by simp⟩,none,rfl⟩) (by rw[jd_];lia) (fun i zs σ' H' hi h'=>?_) (fun i x zs σ' H' hx h'=>?_) (fun zs σ' H' h' D hD=>?_)
  ·obtain⟨rfl,⟨L,rfl,hLl,_⟩,_⟩:=(hPc _ _ _ _).mp h'
   exact⟨SqL.of hg4,by rw[jd_];exact hLl⟩
  ·obtain⟨rfl,⟨L,rfl,hLl,hLm⟩,o,rfl⟩:=(hPc _ _ _ _).mp h'
   obtain⟨gx,hgx,rfl⟩:=A1 hx
   have et:good.take (i+1)=good.take i++[gx]:=by rw[jF_,hgx];rfl
   walk_at "rd"
   refine⟨_,.inl (SqL.of hg24),rfl,by simp[B7],?_⟩
   rw[CS]
   by_cases hin:gx∈good2
   ·rw[if_pos (by simp[hin])]
    refine (hPc _ _ _ _).mpr ⟨rfl,⟨L++[gx],by rw[jI_];rfl,by simp;lia,fun x=>?_⟩,_,rfl⟩
    rw[et,jj_,jj_,jb_,hLm]
    constructor
    ·rintro (⟨a,b⟩|rfl)
     ·exact⟨.inl a,b⟩
     ·exact⟨.inr rfl,hin⟩
    ·rintro⟨a|a,b⟩
     ·exact .inl ⟨a,b⟩
     ·exact .inr a
   ·rw[if_neg (by simp[hin])]
    refine (hPc _ _ _ _).mpr ⟨rfl,⟨L,rfl,by lia,fun x=>?_⟩,_,rfl⟩
    rw[et,jj_,jb_,hLm]
    constructor
    ·rintro⟨a,b⟩
     exact⟨.inl a,b⟩
    ·rintro⟨a|a,b⟩
     ·exact⟨a,b⟩
     ·rw[a]at b;exact absurd b hin
  obtain⟨rfl,⟨L,rfl,hLl,hLm⟩,o,rfl⟩:=(hPc _ _ _ _).mp h'
  rw[jd_,jL_]at hLm
  have sD:=Same.new hD (o:=.lst (L.map V.int))
  have s05:=s04.trans sD
  have hlu5:=sD _ _ (s4 _ _ hlu)
  have hLgy:∀x,x∈L↔Gy hs p x/\Gy h2 p x:=fun x=>by rw[hLm,Hk hG,Hk hG2]
  refine⟨lu,rfl,⟨_,SqL.of hlu5⟩,?_⟩
  obtain⟨ya,a1,a2,a3⟩:=(hW.mono s05).w
  obtain⟨yb,b1,b2,b3⟩:=(hW2.mono s05).w
  have hD5:upd H' D (.lst (L.map V.int)) D=some (.lst (L.map V.int)):=Ab
  generalize upd H' D (.lst (L.map V.int))=H5 at sD s05 hlu5 a1 a2 a3 b1 b2 b3 hD5 ⊢
  obtain⟨Pz,hPz⟩:∃Pv:Nat->St->Hp->Prop,∀j σ' H',Pv j σ' H'↔(Same H5 H'/\(∀j':Nat,(j':Int)∈us.take j->∀w:α2,(∀x∈w,Gy hs p x/\Gy h2 p x)->(A80 hs j' w↔A80 h2 j' w))/\∃o6,σ'=[some (.ref wa),some (.ref wb),some (.ref g),some (.ref g2),some (.ref lu),some (.ref D),o6]):=⟨_,fun _ _ _=>j2_⟩
  refine forL (xs:=us.map V.int) Pz ((hPz _ _ _).mpr ⟨Same.refl _,(fun j' hj=>by simp at hj),none,rfl⟩) (fun j σ' H' _ h'=>by obtain⟨s',_⟩:=(hPz _ _ _).mp h';exact SqL.of (s' _ _ hlu5)) (fun i x σ6 H6 hx h6=>?_) (fun σ6 H6 h6=>?_)
  ·obtain⟨s6,hall,o6,rfl⟩:=(hPz _ _ _).mp h6
   obtain⟨jx,hjx,rfl⟩:=A1 hx
   have hjm:=jl_ hjx
   have hjr:=urg jx hjm
   have et:us.take (i+1)=us.take i++[jx]:=by rw[jF_,hjx];rfl
   obtain⟨j,rfl⟩:∃j:Nat,jx=(j:Int):=⟨jx.toNat,by lia⟩
   have hj:j<hs.length:=by lia
   have hj2:j<h2.length:=by lia
   have hUj:=(hus j hj).mp hjm
   have hri:hs[j]?=some hs[j]:=ja_ hj
   have hri2:h2[j]?=some h2[j]:=ja_ hj2
   obtain⟨ac,hx1,hhc⟩:=a3.2 j _ hri
   obtain⟨ac2,hx2,hhc2⟩:=b3.2 j _ hri2
   have hwc:=hW.f _ (jB_ hj)
   have hwc2:=hW2.f _ (jB_ hj2)
   have hA1:=El (hs:=hs) hri
   have hA2:=El (hs:=h2) hri2
   generalize hs[j]=r at hri hhc hwc hA1
   generalize h2[j]=r2 at hri2 hhc2 hwc2 hA2
   rw[hwc.1]at hhc
   rw[hwc2.1,hl2]at hhc2
   have hwf2:=hwc2.2
   rw[hl2]at hwf2
   walk_at "rd"
   refine⟨_,s6.seqT a1,_,rfl,ya,rfl,_,s6.seqT a2,_,AE hx1,_,s6.seqT b1,_,rfl,yb,rfl,_,s6.seqT b2,_,AE hx2,ac,ac2,D,(p:Int)+hs.length,r.2.1,r2.2.1,r.2.2,r2.2.2,L,rfl,hhc.mono s6,hwc.2,hhc2.mono s6,hwf2,s6 _ _ hD5,fun x hx=>?_,fun H7 s7 hsm=>⟨_,rfl,?_⟩,fun w H7 s7 hw hnw=>⟨_,rfl,?_⟩⟩
   ·have:=hG.rg x ((hLm x).mp hx).1
    lia
   ·rw[if_neg (by decide)]
    refine (hPz _ _ _).mpr ⟨s6.trans s7,fun j' hj' w hw=>?_,_,rfl⟩
    rw[et]at hj'
    rcases jj_.mp hj' with q|q
    ·exact hall j' q w hw
    ·have:j'=j:=by have:=jb_.mp q;lia
     subst this
     rw[hA1,hA2]
     exact hsm w (fun x hx=>(hLgy x).mpr (hw x hx))
   ·rw[if_pos rfl]
    refine k true H7 ((s05.trans s6).trans s7) ⟨(fun z=>nomatch z),fun hS=>absurd ?_ hnw⟩
    have hwg:∀x∈w,Gy hs p x/\Gy h2 p x:=fun x hx=>(hLgy x).mp (hw x hx)
    rw[<-hA1,<-hA2]
    exact⟨K8 hh1 hl2 hS hj hUj (fun x hx=>(hwg x hx).1),K8 s!"" hl2.symm (hS.symm hl2) hj2 ((hU j hj).mp hUj) (fun x hx=>(hwg x hx).2)⟩
  ·obtain⟨s6,hall,o6,rfl⟩:=(hPz _ _ _).mp h6
   rw[jd_,jL_]at hall
   walk_at "rd"
   exact k false H6 (s05.trans s6) ⟨fun _=>Nz hh1 hl2 hU (fun j w hu hj hw=>hall j ((hus j hj).mpr hu) w hw),fun _=>rfl⟩
theorem WfW.set   (h:WfW n hs)  (hr:r.1=n/\Wf n r.2.1 r.2.2)(i:Nat):WfW n (hs.set i r):=fun r' hr'=>by
 rcases qN_ hr' with e|e
 ·exact h r' e
 ·rw[e];exact hr
noncomputable def NV (K:α3):Sp:=fun vs H Q _=>∃(wa f:Addr) (p:Nat) (xs:List V) (hs:List Hus) (ns:α2) (way cell:Int),vs=[.ref wa,.ref f,.int way,.int cell]/\WkOk K H wa p xs hs/\p+hs.length<=6/\SqL K H f (ns.map V.int)/\∀wb xs2 h2 H',Same H H'->WkOk K H' wb p xs2 h2->h2.length=hs.length->Q (.ref wb) H'
theorem EF   (F:Fun K "_law_other_works" "_law_other_works" Bm f fd)(T:Txt mg)
  (Z:Exs K mg C_j2 C_j1 C_j4)
   (q_jb:Cal P w K mg base CX0 2 "_law_house_by" Bp ["flow","at","letters"] (IB K) CJ Ce)
   (q_jc:Cal P w K mg base CX0 3 "_law_works_by" Bq ["flow","plain","helpers"] (IC K) CN Cf)
  : FnOk P w K mg base CX0 4 f fd ["works","flow","way","cell"] (NV K):=by
 refine F.ok Az (fun vs H Q E h=>?_) (fun cdv A outer s H vs Q E hr h=>?_)
 ·obtain⟨wa,f,p,xs,hs,ns,way,cell,rfl,_⟩:=h;rfl
 ·obtain⟨wa,f,p,xs,hs,ns,way,cell,rfl,hW,hp6,hf,k⟩:=h
  have hl:=Au
  have hh1:=hW.h1
  have hh3:=hW.h3
  have hpp:=hW.p1
  refine⟨_,(Ac (Aj (i:=4) Az.nd (AJ CP rfl T.list qW_ (Aa (Ah (ixTD Am) (pvD 0) Ae) Ad)))
   (Ac (Aj (i:=5) Az.nd (Av (opD Bo) (pvD 3) (Aq (lenD Ai) (by rfl) T.len jD_ (Aa (pvD 4) Ad))))
   (Ac (EH (Ah (ixLD AS) (pvD 4) (pvD 5)) (FF rfl (AZ (As (i:=6) Az.nd rfl (Or.inl rfl)) (AZ (As (i:=7) Az.nd rfl (Or.inl rfl)) (AZ (As (i:=8) Az.nd rfl (Or.inl rfl)) DL)))))
   (Ac (Aj (i:=9) Az.nd (Av (opD Bo) (Av (opD DM) (pvD 3) Ae) (Aq (lenD Ai) (by rfl) T.len jD_ (Aa (pvD 7) Ad))))
   (DS (AR (ptT (Ap (opE C3) (pvD 2) Ae (Ar _)))
   (Ac (Aj (i:=10) Az.nd (AJ CP rfl T.list qW_ (Aa (pvD 7) Ad)))
   (Ac (EH (Ah (ixLD AS) (Ah (ixLD AS) (A8 (Aa (A8 (Aa Ae (Aa Ae (Aa Ae (Aa Ae Ad))))) (Aa (A8 (Aa Ae (Aa Ae (Aa Ae (Aa Ae Ad))))) Ad))) (AJ LX rfl T.int PyProof.Rows.boot_int (Aa (CB (opE C3) (Ah (ixLD AS) (pvD 10) (pvD 9)) Ae (Ar _)) Ad))) (Av (opD Bo) (Av (opD DM) (pvD 3) Ae) Ae)) (Gp (pvD 10) (pvD 9) set_list))
   (Af (EH (AL (Aa (pvD 6) (Aa (AJ AG rfl T.tuple jO_ (Aa (pvD 10) Ad)) (Aa (pvD 8) Ad)))) (Gp (pvD 4) (pvD 5) set_list)))))
   Ax)
   (DS (AR (ptT (Ap (opE C3) (pvD 2) Ae (Ar _)))
   (Ac (Ey (i:=11) Az.nd rfl rfl rfl (DR rfl) (cp:=Ck) True.intro (IP (pvD 8)) (fun _ _ _ _=>(As (i:=0) Dt rfl (Or.inl rfl))) (fun _ _ _ _=>FH) (fun _ _ _ _=>(AJ (Ie (K:=K) rfl) rfl T.list qW_ (Aa (pvD 0) Ad))))
   (Ac (EH (Av (opD Bo) (Av (opD DM) (pvD 3) Ae) (Aq (lenD Ai) (by rfl) T.len jD_ (Aa (pvD 7) Ad))) (Gp (Ah (ixLD AS) (pvD 11) (pvD 9)) (Av (opD Bo) (Av (opD DM) (pvD 3) Ae) (pvD 6)) set_list))
   (Af (EH (AL (Aa (pvD 6) (Aa (pvD 7) (Aa (AJ AG rfl T.tuple jO_ (Aa (Ia rfl (DR rfl) (cp:=Cm) True.intro (BI (pvD 11)) (fun _ _ _ _=>(As (i:=0) Du rfl (Or.inl rfl))) (fun _ _ _ _=>FH) (fun _ _ _ _=>(AJ (Ik (K:=K) rfl) rfl T.tuple jO_ (Aa (pvD 0) Ad)))) Ad)) Ad)))) (Gp (pvD 4) (pvD 5) set_list)))))
   Ax)
   (DS (AR (ptT (Ap (opE C3) (pvD 2) Ae (Ar _)))
   (Af (EH (Ak q_jb hr.d AF (Aa (pvD 1) (Aa Ae (Aa (pvD 6) Ad)))) (Gp (pvD 4) (pvD 5) set_list)))
   Ax)
   (Ac (AR (ptT (Ap (opE C3) (pvD 2) Ae (Ar _)))
   (Af (Aw (Ak q_jc hr.d AF (Aa (pvD 1) (Aa (Ah (ixTD Am) (pvD 0) Ae) (Aa (Aq (lenD Ai) (by rfl) T.len jD_ (Aa (pvD 4) Ad)) Ad))))))
   Ax)
   (Af (Aw (AL (Aa (Ah (ixTD Am) (pvD 0) Ae) (Aa (AJ AG rfl T.tuple jO_ (Aa (pvD 4) Ad)) Ad))))))))))))),?_⟩
  obtain⟨y,q1,q2,q3⟩:=id hW.w
  have hxl:=q3.1
  walk_at "rd"
  refine⟨_,q1,_,rfl,y,rfl,_,.inr q2,fun lh hlh=>?_⟩
  have s0:=Same.new hlh (o:=.lst xs)
  have hlh0:upd H lh (.lst xs) lh=some (.lst xs):=Ab
  have hHs0:HsL K (upd H lh (.lst xs)) xs hs:=q3.mono s0
  have c0:=qe_ cell (show (xs.length:Int)≠0 by lia)
  have c1:=j0_ cell (show (0:Int)<xs.length by lia)
  obtain⟨j,hj,hjl⟩:∃j:Nat,cell%(xs.length:Int)=j/\j<hs.length:=⟨(cell%(xs.length:Int)).toNat,by lia,by lia⟩
  have hri:hs[j]?=some hs[j]:=ja_ hjl
  obtain⟨ac,hx1,hhc⟩:=q3.2 j _ hri
  have hwc:=hW.f _ (jB_ hjl)
  have h4:=hW.m _ (jB_ hjl)
  generalize hs[j]=r at hri hhc hwc h4
  obtain⟨tm,tw,r1,r2,r3⟩:=id hhc
  have hn1:=hwc.2.n1
  have d0:=qe_ (cell / 7) (show (r.2.1.length:Int)≠0 by lia)
  have d1:=j0_ (cell / 7) (show (0:Int)<r.2.1.length by lia)
  obtain⟨m,hm,hml⟩:∃m:Nat,cell / 7%(r.2.1.length:Int)=m/\m<r.2.1.length:=⟨(cell / 7%(r.2.1.length:Int)).toNat,by lia,by lia⟩
  refine⟨_,.inl (SqL.of hlh0),by lia,_,SqL.of hlh0,?_⟩
  rw[hj]
  refine⟨_,AE hx1,ac,rfl,_,s0.seqT r1,rfl,_,_,rfl,_,_,rfl,_,_,rfl,rfl,⟨by decide,by decide⟩,tm,rfl,_,.inr (s0.seqT r2),by rw[jd_];lia,?_⟩
  rw[jd_,hm]
  generalize upd H lh (.lst xs)=H1 at s0 hlh0 hHs0 ⊢
  obtain⟨R,hR⟩:∃R:St->Hp->Prop,∀σ' H',R σ' H'↔(∃(h':List Hus) (xv:List V) (o10 o11:Option V),Same H H'/\H' lh=some (.lst xv)/\HsL K H' xv h'/\WfW ((p:Int)+hs.length) h'/\h'.length=hs.length/\(∀r∈h',r.2.1.length<=4)/\σ'=[some (.ref wa),some (.ref f),some (.int way),some (.int cell),some (.ref lh),some (.int j),some (.int r.1),some (.ref tm),some (.ref tw),some (.int m),o10,o11]):=⟨_,fun _ _=>j2_⟩
  have put:∀{H':Hp} {xv:List V} {h':List Hus} {q:Addr} {ms:α2} {ws:α1} {o10 o11:Option V},Same H H'->H' lh=some (.lst xv)->HsL K H' xv h'->WfW ((p:Int)+hs.length) h'->h'.length=hs.length->(∀r∈h',r.2.1.length<=4)->Bc K H' q r.1 ms ws->Wf ((p:Int)+hs.length) ms ws->ms.length<=4->R [some (.ref wa),some (.ref f),some (.int way),some (.int cell),some (.ref lh),some (.int j),some (.int r.1),some (.ref tm),some (.ref tw),some (.int m),o10,o11] (upd H' lh (.lst (xv.set j (.ref q)))):=fun {H' xv h' q ms ws o10 o11} s1 h1 h2 h3 h5 h6 h7 h8 h9=>by
   refine (hR _ _).mpr ⟨h'.set j (r.1,ms,ws),_,_,_,s1.over hlh,Ab,(h2.set h7 j).off h1,h3.set (r:=(r.1,ms,ws)) ⟨hwc.1,h8⟩ j,by rw[j8_];exact h5,fun r' hr'=>?_,rfl⟩
   rcases qN_ hr' with e|e
   ·exact h6 r' e
   ·rw[e];exact h9
  have hLp:r.1=(p:Int)+hs.length:=hwc.1
  refine⟨R,?_,fun σ2 H2 h2=>⟨R,?_,fun σ3 H3 h3=>⟨R,?_,fun σ4 H4 h4'=>?_⟩⟩⟩
  ·walk_at "rd"
   refine ite2 (fun hw=>?_) (fun hw=>(hR _ _).mpr ⟨hs,xs,_,_,s0,hlh0,hHs0,hW.f,rfl,hW.m,rfl⟩)
   refine⟨_,.inr (s0.seqT r2),fun lr hlr=>⟨by lia,fun u1 hu1=>⟨by lia,fun u2 hu2=>⟨by lia,fun u3 hu3=>?_⟩⟩⟩⟩
   have t1:=(((Same.new hlr (o:=.lst (r.2.1.map V.int))).newT hu1 (o:=.lst [V.int 0,V.int 1000000000,V.int 0,V.int 1])).newT hu2 (o:=.lst [V.int 1,V.int 1000000000,V.int 7,V.int 0])).newT hu3 (o:=.lst [V.ref u1,V.ref u2])
   have e0:upd (upd (upd (upd H1 lr (.lst (r.2.1.map V.int))) u1 (.lst [V.int 0,V.int 1000000000,V.int 0,V.int 1])) u2 (.lst [V.int 1,V.int 1000000000,V.int 7,V.int 0])) u3 (.lst [V.ref u1,V.ref u2]) lr=some (.lst (r.2.1.map V.int)):=(((Same.new hu1).newT hu2).newT hu3) _ _ Ab
   have e1:upd (upd (upd (upd H1 lr (.lst (r.2.1.map V.int))) u1 (.lst [V.int 0,V.int 1000000000,V.int 0,V.int 1])) u2 (.lst [V.int 1,V.int 1000000000,V.int 7,V.int 0])) u3 (.lst [V.ref u1,V.ref u2]) u1=some (.lst ([(0:Int),1000000000,0,1].map V.int)):=((Same.new hu2).newT hu3) _ _ Ab
   have e2:upd (upd (upd (upd H1 lr (.lst (r.2.1.map V.int))) u1 (.lst [V.int 0,V.int 1000000000,V.int 0,V.int 1])) u2 (.lst [V.int 1,V.int 1000000000,V.int 7,V.int 0])) u3 (.lst [V.ref u1,V.ref u2]) u2=some (.lst ([(1:Int),1000000000,7,0].map V.int)):=(Same.new hu3) _ _ Ab
   have e3:upd (upd (upd (upd H1 lr (.lst (r.2.1.map V.int))) u1 (.lst [V.int 0,V.int 1000000000,V.int 0,V.int 1])) u2 (.lst [V.int 1,V.int 1000000000,V.int 7,V.int 0])) u3 (.lst [V.ref u1,V.ref u2]) u3=some (.lst [V.ref u1,V.ref u2]):=Ab
   generalize upd (upd (upd (upd H1 lr (.lst (r.2.1.map V.int))) u1 (.lst [V.int 0,V.int 1000000000,V.int 0,V.int 1])) u2 (.lst [V.int 1,V.int 1000000000,V.int 7,V.int 0])) u3 (.lst [V.ref u1,V.ref u2])=H5 at t1 e0 e1 e2 e3 ⊢
   have hmk:r.2.1[m]?=some r.2.1[m]:=ja_ hml
   generalize r.2.1[m]=mkv at hmk
   refine⟨_,SqL.of e0,V.int mkv,AE (by rw[jw_,hmk];rfl),rfl,.inr ⟨_,SqL.of e3,?_⟩⟩
   obtain⟨ua,A4,hat,hua,hAl,hAr⟩:∃(ua:Addr) (A4:α2),atI [V.ref u1,V.ref u2] (if V.int mkv=V.int 0 then 1 else 0)=some (.ref ua)/\H5 ua=some (.lst (A4.map V.int))/\A4.length=4/\∀x∈A4,0<=x/\x<=1000000000:=by
    by_cases hz:V.int mkv=V.int 0
    ·rw[if_pos hz]
     exact⟨u2,_,rfl,e2,rfl,by decide⟩
    ·rw[if_neg hz]
     exact⟨u1,_,rfl,e1,rfl,by decide⟩
   have g0:=qe_ (cell / 31) (show (4:Int)≠0 by decide)
   have g1:=j0_ (cell / 31) (show (0:Int)<4 by decide)
   obtain⟨kk,hkk,hkl⟩:∃kk:Nat,cell / 31%4=(kk:Int)/\kk<A4.length:=⟨(cell / 31%4).toNat,by lia,by lia⟩
   have hAk:A4[kk]?=some A4[kk]:=ja_ hkl
   have hAm:=hAr _ (jB_ hkl)
   generalize A4[kk]=vv at hAk hAm
   refine⟨_,hat,⟨by decide,by decide⟩,by lia,ua,rfl,_,SqL.of hua,?_⟩
   rw[hkk]
   refine⟨_,AE (by rw[jw_,hAk];rfl),_,e0,m,GG s!"" (by rw[jd_];lia),?_⟩
   rw[<-List.map_set]
   have hlrH:H lr=none:=s0.none hlr
   have hlrh:lh≠lr:=fun z=>by rw[<-z,hlh0]at hlr;cases hlr
   have t6:=(s0.trans t1).over hlrH (o:=.lst ((r.2.1.set m vv).map V.int))
   have hlh6:upd H5 lr (.lst ((r.2.1.set m vv).map V.int)) lh=some (.lst xs):=by rw[Ag hlrh];exact t1 _ _ hlh0
   have hHs6:=(hHs0.mono t1).off e0 (ys:=(r.2.1.set m vv).map V.int)
   have e6:upd H5 lr (.lst ((r.2.1.set m vv).map V.int)) lr=some (.lst ((r.2.1.set m vv).map V.int)):=Ab
   generalize upd H5 lr (.lst ((r.2.1.set m vv).map V.int))=H6 at t6 hlh6 hHs6 e6 ⊢
   refine⟨_,.inl ⟨SqL.of e6,fun tt htt=>⟨by lia,fun th hth=>?_⟩⟩⟩
   have t8:=(Same.new htt (o:=.tup ((r.2.1.set m vv).map V.int))).newT hth (o:=.tup [V.int r.1,V.ref tt,V.ref tw])
   refine⟨_,t8 _ _ hlh6,j,GG s!"" s!"",put (t6.trans t8) (t8 _ _ hlh6) (hHs6.mono t8) hW.f rfl hW.m ⟨tt,tw,SqT.of Ab,(Same.new hth).seqT (SqT.of Ab),r3.mono (t6.trans t8)⟩ ?_ (by rw[j8_];exact h4)⟩
   have wf:=hwc.2
   refine⟨wf.l1,wf.l6,by rw[j8_];exact wf.n1,by rw[j8_];exact wf.n40,by rw[j8_];exact wf.len,fun row hrow=>by rw[j8_];exact wf.rows row hrow,fun x hx=>?_⟩
   rcases qN_ hx with e|e
   ·exact wf.mks x e
   ·rw[e];exact hAm
  ·obtain⟨h',xv,o10,o11,s2,hlh2,hHs2,hwf2,hl2,hm2,rfl⟩:=(hR _ _).mp h2
   walk_at "rd"
   refine ite2 (fun hw=>?_) (fun hw=>h2)
   obtain⟨ts,z1,z2,z3⟩:=id r3
   have wf:=hwc.2
   have hwl:=wf.len
   have hl1:=wf.l1
   refine⟨⟨_,s2.seqT z1⟩,?_⟩
   obtain⟨Pc,hPc⟩:∃Pc:Nat->List V->St->Hp->Prop,∀i zs σ' H',Pc i zs σ' H'↔(Same H2 H'/\LLs H2 H' zs (r.2.2.take i)/\∃o,σ'=[o]):=⟨_,fun _ _ _ _=>j2_⟩
   refine Si (xs:=ts.map V.ref) Pc ((hPc _ _ _ _).mpr ⟨Same.refl _,by rw[List.take_zero];exact LLs.nil _ _,none,rfl⟩) (by rw[jd_];lia) (fun i zs σ' H' _ h'=>?_) (fun i x zs σ' H' hx h'=>?_) (fun zs σ' H' h' D hD=>?_)
   ·obtain⟨s5,hLL,_⟩:=(hPc _ _ _ _).mp h'
    exact⟨(s2.trans s5).seqT z1,by rw[hLL.len,j5_];lia⟩
   ·obtain⟨s5,hLL,o,rfl⟩:=(hPc _ _ _ _).mp h'
    have hi:i<ts.length:=by have:=(jc_.mp hx).1;rwa [jd_]at this
    have hti:ts[i]?=some ts[i]:=by simp[hi]
    rw[jw_,hti]at hx
    cases hx
    have hwi:r.2.2[i]?=some r.2.2[i]:=by simp[show i<r.2.2.length by lia]
    walk_at "rd"
    refine⟨_,.inr ((s2.trans s5).seqT (z3 i _ _ hti hwi)),fun l hl'=>(hPc _ _ _ _).mpr ⟨s5.newT hl',?_,_,rfl⟩⟩
    rw[jF_,hwi]
    exact hLL.snoc (Same.none s5 hl') hl'
   obtain⟨s5,hLL,o,rfl⟩:=(hPc _ _ _ _).mp h'
   rw[jd_,z2,jL_]at hLL
   have sD:=Same.new hD (o:=.lst zs)
   have hDH2:H2 D=none:=s5.none hD
   have hLD:=hLL.mono sD
   have hD6:upd H' D (.lst zs) D=some (.lst zs):=Ab
   have s26:=s5.trans sD
   have s06:=s2.trans s26
   generalize upd H' D (.lst zs)=H6 at sD hLD hD6 s26 s06 ⊢
   have hrow:r.2.2[m]?=some r.2.2[m]:=ja_ s!""
   have hwr:=wf.rows _ (jB_ (show m<r.2.2.length by lia))
   generalize r.2.2[m]=row at hrow hwr
   obtain⟨tr,a1,a2,a3,a4⟩:=hLD.at hrow
   have htrD:D≠tr:=fun z=>by
    rw[<-z,hD6]at a2
    have h0:0<row.length:=by have:=hwr.1;lia
    have hz:zs=row.map V.int:=by cases a2;rfl
    obtain⟨t0,b1,_⟩:=hLD.at (i:=m) hrow
    rw[hz,jw_]at b1
    cases e:row[m]? with
    |none=>rw[e]at b1;cases b1
    |some v=>rw[e]at b1;cases b1
   have g0:=qe_ (cell / 31) (show r.1≠0 by lia)
   have g1:=j0_ (cell / 31) (show 0<r.1 by lia)
   have f0:=qe_ (cell / 1009) (show (r.2.1.length:Int)≠0 by lia)
   have f1:=j0_ (cell / 1009) (show (0:Int)<r.2.1.length by lia)
   obtain⟨kk,hkk,hkl⟩:∃kk:Nat,cell / 31%r.1=(kk:Int)/\kk<row.length:=⟨(cell / 31%r.1).toNat,by lia,by have:=hwr.1;lia⟩
   refine⟨⟨by decide,by decide⟩,_,.inr (s06.seqT r2),by rw[jd_];lia,D,rfl,_,SqL.of hD6,_,AE a1,⟨by decide,by decide⟩,by lia,tr,rfl,_,a2,?_⟩
   rw[hkk]
   refine⟨kk,GG s!"" (by rw[jd_];lia),?_⟩
   rw[show ((r.2.1.map V.int).length:Int)=(r.2.1.length:Int) from by rw[jd_]]
   rw[<-List.map_set]
   generalize cell / 1009%(r.2.1.length:Int)=nv at f0 f1 ⊢
   have hL7:=a4 kk nv
   have hD7:upd H6 tr (.lst ((row.set kk nv).map V.int)) D=some (.lst zs):=by rw[Ag htrD];exact hD6
   have htrH:H tr=none:=s2.none a3
   have s07:=s06.over htrH (o:=.lst ((row.set kk nv).map V.int))
   have hlh6:=s26 _ _ hlh2
   have htrl:lh≠tr:=fun z=>by rw[<-z,hlh2]at a3;cases a3
   have hlh7:upd H6 tr (.lst ((row.set kk nv).map V.int)) lh=some (.lst xv):=by rw[Ag htrl];exact hlh6
   have hHs7:=(hHs2.mono s26).off a2 (ys:=(row.set kk nv).map V.int)
   generalize upd H6 tr (.lst ((row.set kk nv).map V.int))=H7 at hL7 hD7 s07 hlh7 hHs7 ⊢
   refine⟨D,rfl,⟨_,SqL.of hD7⟩,?_⟩
   refine Oy (xs:=zs) (ws:=r.2.2.set m (row.set kk nv)) (σ':=[]) (SqL.of hD7) hL7.len rfl (by rw[hL7.len,j8_];lia) (fun i x w' H8 s8 hx hw' R' hR'=>?_) (fun H8 D2 ys8 s8 hD2 hT8=>?_)
   ·obtain⟨t,b1,b2,_⟩:=hL7.at hw'
    rw[hx]at b1
    cases b1
    walk_at "rd"
    refine⟨_,.inl ⟨SqL.of (s8 _ _ b2),fun q hq=>hR' q _ (Same.new hq) (SqT.of Ab)⟩⟩
   ·obtain⟨xs',hx1',hxr⟩:=hT8.rows
    rw[Ab]at hx1'
    cases hx1'
    refine⟨D2,rfl,_,.inl ⟨SqL.of Ab,fun l1 hl1'=>⟨by lia,fun th hth=>?_⟩⟩⟩
    have s9:=((s8.newT hD2 (o:=.lst ys8)).newT hl1' (o:=.tup ys8)).newT hth (o:=.tup [V.int r.1,V.ref tm,V.ref l1])
    refine⟨_,s9 _ _ hlh7,j,GG s!"" (by have:=hHs7.1;lia),put (s07.trans s9) (s9 _ _ hlh7) (hHs7.mono s9) hwf2 hl2 hm2 ⟨tm,l1,SqT.of Ab,(s07.trans s9).seqT r2,(hxr l1 hl1').mono (Same.new hth)⟩ ?_ h4⟩
    refine⟨wf.l1,wf.l6,wf.n1,wf.n40,by rw[j8_];exact wf.len,fun row' hr'=>?_,wf.mks⟩
    rcases qN_ hr' with e|e
    ·exact wf.rows row' e
    ·rw[e]
     refine⟨by rw[j8_];exact hwr.1,fun x hx=>?_⟩
     rcases qN_ hx with e' | e'
     ·exact hwr.2 x e'
     ·rw[e'];lia
  ·obtain⟨h',xv,o10,o11,s3,hlh3,hHs3,hwf3,hl3,hm3,rfl⟩:=(hR _ _).mp h3
   walk_at "rd"
   refine ite2 (fun hw=>?_) (fun hw=>h3)
   have hr1n:r.1=((p+hs.length:Nat):Int):=by rw[hLp,jQ_]
   rw[hr1n]
   refine⟨f,ns,0,p+hs.length,rfl,s3.seq hf,by lia,by lia,by lia,by lia,fun hq marks ways H8 s8 hH8 wf8 hm8=>⟨_,s8 _ _ hlh3,j,GG s!"" (by have:=hHs3.1;lia),?_⟩⟩
   have:=put (o10:=o10) (o11:=o11) (s3.trans s8) (s8 _ _ hlh3) (hHs3.mono s8) hwf3 hl3 hm3 (by rw[hr1n];exact hH8) (by rw[<-jQ_];exact wf8) hm8
   rw[hr1n]at this
   exact this
  ·obtain⟨h',xv,o10,o11,s4,hlh4,hHs4,hwf4,hl4,hm4,rfl⟩:=(hR _ _).mp h4'
   walk_at "rd"
   refine ite2 (fun hw=>?_) (fun hw=>?_)
   ·refine⟨_,s4.seqT q1,_,rfl,_,.inl (SqL.of hlh4),f,ns,p,hs.length,by rw[hHs4.1,hl4],s4.seq hf,hpp,hh1,hh3,hp6,fun wb xs2 h2' H8 s8 hW8 hl8 wf8 hm8=>k wb xs2 h2' H8 (s4.trans s8) ⟨hW8,by rw[hl8];exact wf8,by lia,by lia,hpp,by lia,hm8⟩ hl8⟩
   ·refine⟨_,s4.seqT q1,_,rfl,_,.inl ⟨SqL.of hlh4,fun l1 hl1'=>⟨by lia,fun wb hwb=>?_⟩⟩⟩
    have s9:=(Same.new hl1' (o:=.tup xv)).newT hwb (o:=.tup [V.int p,V.ref l1])
    exact k wb xv h' _ (s4.trans s9) ⟨⟨l1,SqT.of Ab,(Same.new hwb).seqT (SqT.of Ab),hHs4.mono s9⟩,by rw[hl4];exact hwf4,by lia,by lia,hpp,by lia,hm4⟩ hl4
theorem Gf (ns:α2)(i j:Option Int):∃cs:α2,cutV (ns.map V.int) i j=cs.map V.int/\cs.length<=ns.length:=by
 have hle:=Ew (ns.map V.int) i j
 rw[jd_]at hle
 unfold cutV at hle ⊢
 rw[<-List.map_drop,<-List.map_take]at hle ⊢
 exact⟨_,rfl,by rw[jd_]at hle;lia⟩
noncomputable def OK (K:α3):Sp:=fun vs H Q _=>∃(a:Addr) (ns:α2),vs=[.ref a]/\SqL K H a (ns.map V.int)/\ns.length<=63/\H (tabP K "least_row_taken")=some (.tbl #[])/\H (tabP K "around")=some (.tbl #[])/\tabP K "least_row_taken" ≠ tabP K "around" /\ ∀H',Q (.bl true) H'
theorem S5   (F:Fun K "law" "law" Rf f fd)(T:Txt mg)
  (Z:Exs K mg C_j2 C_j1 C_j4)
   (q_j5:Cal P w K mg base (CXe P w) 14 "works_difference" A3 ["works","other"] (Kk K C_j1) BS BD)
   (q_j8:Cal P w K mg base CX0 1 "_law_cell_at" BY ["script","k"] (Nq K) Er D7)
   (q_jy:Cal P w K mg base CX0 1 "_law_nest" Dq ["flow","plain","helpers"] (K3 K) Ha FX)
   (q_jc:Cal P w K mg base CX0 3 "_law_works_by" Bq ["flow","plain","helpers"] (IC K) CN Cf)
   (q_jd:Cal P w K mg base CX0 2 "_law_accepted" BO ["works","signs","top"] (K5 K) D8 DF)
   (q_jg:Cal P w K mg base CX0 4 "_law_other_works" Bm ["works","flow","way","cell"] (NV K) C2 CO)
   (q_jk:Cal P w K mg base CX0 15 "_law_refused" B0 ["works","other"] (FV K) Es D9)
   (q_jz:Cal P w K mg base CX0 1 "_law_bare" Ds ["plain","helpers"] (JD K) Hb FY)
   (q_jm:Cal P w K mg base CX0 2 "_law_row_good" BQ ["works","found"] (NR K) Ea DG)
   (q_js:Cal P w K mg base CX0 3 "_law_unlike" Cy ["works","other"] (NU K) Fb Et)
  : FnOk P w K mg base CX0 16 f fd ["script"] (OK K):=by
 refine F.ok DY (fun vs H Q E h=>?_) (fun cdv A outer s H vs Q E hr h=>?_)
 ·obtain⟨a,ns,rfl,_⟩:=h;rfl
 ·obtain⟨a,ns,rfl,hs,hz,hT,hTA,hne,k⟩:=h
  have hl:=Au
  refine⟨_,(Ac (Aj (i:=1) DY.nd (Av (opD0 AN) Ae (Av (opD Bo) (Ak q_j8 hr.d AF (Aa (pvD 0) (Aa Ae Ad))) Ae)))
   (Ac (Aj (i:=2) DY.nd (Av (opD0 AN) Ae (Av (opD Bo) (Av (opD DM) (Ak q_j8 hr.d AF (Aa (pvD 0) (Aa Ae Ad))) Ae) (Aq (LW rfl) rfl T.min PyProof.Rows.boot_min (Aa Ae (Aa (Av (opD0 Gq) Ae (pvD 1)) Ad))))))
   (Ac (Aj (i:=3) DY.nd (Av (opD0 AN) Ae (Av (opD Bo) (Ak q_j8 hr.d AF (Aa (pvD 0) (Aa Ae Ad))) (Aq (LV rfl) rfl T.max PyProof.Rows.boot_max (Aa Ae (Aa (Av (opD0 Gq) (Aq (lenD Ai) (by rfl) T.len jD_ (Aa (pvD 0) Ad)) Ae) Ad))))))
   (Gh (Aj (i:=4) DY.nd (Ak q_jc hr.d AF (Aa (EJ JK (pvD 0) (Eu Ae) (Eu (pvD 3))) (Aa (pvD 1) (Aa (pvD 2) Ad)))))
   (Gh (Aj (i:=5) DY.nd (Ak q_jg hr.d AF (Aa (pvD 4) (Aa (EJ JK (pvD 0) (Eu (pvD 3)) JJ) (Aa (Av (opD Bo) (Ak q_j8 hr.d AF (Aa (pvD 0) (Aa Ae Ad))) Ae) (Aa (Ak q_j8 hr.d AF (Aa (pvD 0) (Aa Ae Ad))) Ad))))))
   (Ac (AR (ptT (Ap Dm (Ak q_j5 hr.d (JQ (P:=P) (w:=w)) (Aa (pvD 4) (Aa (pvD 4) Ad))) Ba (Ar _)))
   (Af (Aw Di))
   Ax)
   (Gh (Aj (i:=6) DY.nd (A8 (Aa (AL (Aa (Av (opD0 AN) (Av (opD Bo) (pvD 1) Ae) Ae) (Aa (pvD 2) Ad))) (Aa (AL (Aa (pvD 1) (Aa (Av (opD0 AN) (Av (opD Bo) (pvD 2) Ae) Ae) Ad))) (Aa (AL (Aa (Av (opD0 AN) (Av (opD Bo) (pvD 1) Ae) Ae) (Aa (Av (opD0 AN) (Av (opD Bo) (pvD 2) Ae) Ae) Ad))) Ad)))))
   (Ac (Aj (i:=7) DY.nd (Ah (ixLD AS) (pvD 6) (Av (opD Bo) (Av (opD DM) (Ak q_j8 hr.d AF (Aa (pvD 0) (Aa Ae Ad))) Ae) (Aq (lenD Ai) (by rfl) T.len jD_ (Aa (pvD 6) Ad)))))
   (Gh (Aj (i:=8) DY.nd (Ak q_jz hr.d AF (Aa (Ah (ixTD Am) (pvD 7) Ae) (Aa (Ah (ixTD Am) (pvD 7) Ae) Ad))))
   (Ac (AR (PW.pt (Ld (IL (ptB (FE (Ak q_jk hr.d AF (Aa (pvD 4) (Aa (pvD 8) Ad)))))) (Hn (IL (ptB (FE (Ak q_jk hr.d AF (Aa (pvD 8) (Aa (pvD 4) Ad)))))))))
   (Af (Aw Di))
   Ax)
   (Ac (Aj (i:=9) DY.nd (Ak q_j5 hr.d (JQ (P:=P) (w:=w)) (Aa (pvD 4) (Aa (pvD 5) Ad))))
   (Ac (AR (PW.pt (Ld (ptT (Ap (opN Gr) (CB Ej (Ak q_j5 hr.d (JQ (P:=P) (w:=w)) (Aa (pvD 5) (Aa (pvD 4) Ad))) Ba (Ar _)) (CB Ej (pvD 9) Ba (Ar _)) (Ar _))) (Hn (ptT (Ap (opN Gr) (CB Dm (pvD 9) Ba (Ar _)) (Ak q_js hr.d AF (Aa (pvD 4) (Aa (pvD 5) Ad))) (Ar _))))))
   (Af (Aw Di))
   Ax)
   (Ac (AR (ptT (Ap Ej (pvD 9) Ba (Ar _)))
   (Ac (Aj (i:=10) DY.nd (Ak q_jy hr.d AF (Aa (EJ JK (pvD 0) (Eu (pvD 3)) (Eu (Av (opD0 AN) (pvD 3) Ae))) (Aa (pvD 1) (Aa (pvD 2) Ad)))))
   (Af (Aw (CB (opE C3) (Ak q_jd hr.d AF (Aa (pvD 4) (Aa (pvD 10) (Aa Ae Ad)))) (Ak q_jd hr.d AF (Aa (pvD 5) (Aa (pvD 10) (Aa Ae Ad)))) (Ar _)))))
   Ax)
   (Ac (AR (IL (ptB (FE (Ak q_jm hr.d AF (Aa (pvD 4) (Aa (pvD 9) Ad))))))
   (Af (Aw Di))
   Ax)
   (Af (Aw (CB (opN Gr) (Ak q_jd hr.d AF (Aa (pvD 4) (Aa (pvD 9) (Aa Ae Ad)))) (Ak q_jd hr.d AF (Aa (pvD 5) (Aa (pvD 9) (Aa Ae Ad)))) (Ar _)))))))))))))))))),?_⟩
  walk_at "rd"
  refine⟨a,ns,0,rfl,hs,?_⟩
  walk_at "rd"
  have a0:=qe_ (cell ns 0) (show (4:Int)≠0 by decide)
  have a1:=j0_ (cell ns 0) (show (0:Int)<4 by decide)
  obtain⟨p,hp,hp1',hp4⟩:∃p:Nat,1+cell ns 0%4=(p:Int)/\1<=p/\p<=4:=⟨(1+cell ns 0%4).toNat,by lia,by lia,by lia⟩
  rw[hp]
  obtain⟨m3,hm0,hm1,hm2,hm6⟩:∃m:Int,(if 6-(p:Int)<3 then 6-(p:Int) else 3)=m/\0<m/\m<=3/\m<=6-p:=⟨_,rfl,by split<;>lia,by split<;>lia,by split<;>lia⟩
  rw[hm0]
  refine⟨by decide,a,ns,0,rfl,hs,_,rfl,⟨by decide,by decide⟩,hm1,?_⟩
  have b0:=qe_ (cell ns 0 / 4) (show m3≠0 by lia)
  have b1:=j0_ (cell ns 0 / 4) hm1
  generalize cell ns 0 / 4%m3=c3 at b0 b1 ⊢
  obtain⟨h,hh,hh1,hh3,hh6⟩:∃h:Nat,1+c3=(h:Int)/\1<=h/\h<=3/\p+h<=6:=⟨(1+c3).toNat,by lia,by lia,by lia,by lia⟩
  rw[hh]
  refine⟨a,ns,1,rfl,hs,_,.inl hs,_,rfl,by split<;>lia,_,hs,fun p1 hp1=>?_⟩
  have hct0:(0:Int)<=4+cell ns 1%(if ((List.map V.int ns).length:Int)-3 > 1 then ((List.map V.int ns).length:Int)-3 else 1):=by
   have:=qe_ (cell ns 1) (show (if ((List.map V.int ns).length:Int)-3 > 1 then ((List.map V.int ns).length:Int)-3 else 1)≠0 by split<;>lia)
   lia
  generalize (4+cell ns 1%(if ((List.map V.int ns).length:Int)-3 > 1 then ((List.map V.int ns).length:Int)-3 else 1))=ct at hct0 ⊢
  obtain⟨cs,hcs,hcl⟩:=Gf ns (some 4) (some ct)
  obtain⟨gs,hgs,hgl⟩:=Gf ns (some ct) (some (ct+100))
  rw[hcs]
  have s0:=Same.new hp1 (o:=.lst (cs.map V.int))
  refine⟨p1,cs,p,h,rfl,SqL.of Ab,hp1',hh1,hh3,hh6,fun w' xs hls H1 s1 hW hlen wf h4=>?_⟩
  subst hlen
  have hT1:=(s0.trans s1) _ _ hT
  have hTA1:=(s0.trans s1) _ _ hTA
  have hs1:=(s0.trans s1).seq hs
  generalize upd H p1 (.lst (cs.map V.int))=H0 at s0 s1
  have hWk:WkOk K H1 w' p xs hls:=⟨hW,wf,hh1,hh3,hp1',by lia,h4⟩
  refine Gg ?_
  walk_at "rd"
  refine⟨_,hs1,fun p2 hp2=>?_⟩
  obtain⟨fs,hfs,_⟩:=Gf ns (some ct) none
  rw[hfs]
  have s2:=Same.new hp2 (o:=.lst (fs.map V.int))
  refine⟨a,ns,2,rfl,s2.seq hs1,_,rfl,by lia,a,ns,3,rfl,s2.seq hs1,w',p2,p,xs,hls,fs,_,_,rfl,hWk.mono s2,by lia,SqL.of Ab,fun wb xs2 h2 H3 s3 hW2 hl2=>?_⟩
  have s13:=s2.trans s3
  have hWa:=hWk.mono s13
  have hs3:=s13.seq hs1
  have hT3:=s13 _ _ hT1
  have hTA3:=s13 _ _ hTA1
  clear hs hs1 hT hTA hT1 hTA1 s2 s3 s13 hWk hW s0 s1
  obtain⟨y,a1,a2,a3⟩:=hWa.w
  obtain⟨y2,c1,c2,c3⟩:=hW2.w
  refine Gg ?_
  walk_at "rd"
  refine⟨w',w',y,y,p,p,xs,xs,rfl,a1,a2,a1,a2,.inr ⟨hls,hls,rfl,rfl,a3.1,a3.1,hWa,hWa,.inl hT3,.inl hTA3,hne,fun H4 m4 hL4 hLA4 _=>?_,fun t row H4 m4 hL4 hLA4 ht hrl hn hno=>absurd j2_ hno⟩⟩
  show (if (!decide (V.non=V.non))=true then _ else _)
  rw[if_neg (by decide)]
  refine⟨by lia,by lia,fun k1 hk1=>⟨by lia,by lia,fun k2 hk2=>⟨by lia,by lia,by lia,fun k3 hk3=>⟨by lia,fun k4 hk4=>?_⟩⟩⟩⟩
  have t4:=(((Same.new hk1 (o:=.tup [V.int ((p:Int)%3+1),V.int hls.length])).newT hk2 (o:=.tup [V.int p,V.int ((hls.length:Int)%2+1)])).newT hk3 (o:=.tup [V.int ((p:Int)%3+1),V.int ((hls.length:Int)%2+1)])).newT hk4 (o:=.lst [V.ref k1,V.ref k2,V.ref k3])
  have e1:=(((Same.new hk2 (o:=.tup [V.int p,V.int ((hls.length:Int)%2+1)])).newT hk3 (o:=.tup [V.int ((p:Int)%3+1),V.int ((hls.length:Int)%2+1)])).newT hk4 (o:=.lst [V.ref k1,V.ref k2,V.ref k3])) _ _ (Ab:upd H4 k1 (.tup [V.int ((p:Int)%3+1),V.int hls.length]) k1=_)
  have e2:=((Same.new hk3 (o:=.tup [V.int ((p:Int)%3+1),V.int ((hls.length:Int)%2+1)])).newT hk4 (o:=.lst [V.ref k1,V.ref k2,V.ref k3])) _ _ (Ab:upd (upd H4 k1 (.tup [V.int ((p:Int)%3+1),V.int hls.length])) k2 (.tup [V.int p,V.int ((hls.length:Int)%2+1)]) k2=_)
  have e3:=(Same.new hk4 (o:=.lst [V.ref k1,V.ref k2,V.ref k3])) _ _ (Ab:upd (upd (upd H4 k1 (.tup [V.int ((p:Int)%3+1),V.int hls.length])) k2 (.tup [V.int p,V.int ((hls.length:Int)%2+1)])) k3 (.tup [V.int ((p:Int)%3+1),V.int ((hls.length:Int)%2+1)]) k3=_)
  have e4:upd (upd (upd (upd H4 k1 (.tup [V.int ((p:Int)%3+1),V.int hls.length])) k2 (.tup [V.int p,V.int ((hls.length:Int)%2+1)])) k3 (.tup [V.int ((p:Int)%3+1),V.int ((hls.length:Int)%2+1)])) k4 (.lst [V.ref k1,V.ref k2,V.ref k3]) k4=some (.lst [V.ref k1,V.ref k2,V.ref k3]):=Ab
  generalize upd (upd (upd (upd H4 k1 (.tup [V.int ((p:Int)%3+1),V.int hls.length])) k2 (.tup [V.int p,V.int ((hls.length:Int)%2+1)])) k3 (.tup [V.int ((p:Int)%3+1),V.int ((hls.length:Int)%2+1)])) k4 (.lst [V.ref k1,V.ref k2,V.ref k3])=H5 at t4 e1 e2 e3 e4 ⊢
  have m5:=m4.same t4
  have hs5:=m5.lsq hs3
  have hL5:=hL4.mono t4
  have hLA5:=hLA4.mono t4
  refine Gg ?_
  walk_at "rd"
  refine⟨a,ns,2,rfl,hs5,_,rfl,⟨by decide,by decide⟩,_,.inl (SqL.of e4),by simp,_,SqL.of e4,?_⟩
  have i0:=qe_ (cell ns 2 / 5) (show (3:Int)≠0 by decide)
  have i1:=j0_ (cell ns 2 / 5) (show (0:Int)<3 by decide)
  obtain⟨pp,hpp,hpp1,hpp2⟩:∃pp:Nat,(p:Int)%3+1=(pp:Int)/\1<=pp/\pp<=3:=⟨p%3+1,by lia,by lia,by lia⟩
  obtain⟨qq,hqq,hqq1,hqq2⟩:∃qq:Nat,(hls.length:Int)%2+1=(qq:Int)/\1<=qq/\qq<=2:=⟨hls.length%2+1,by lia,by lia,by lia⟩
  rw[hpp]at e1 e3
  rw[hqq]at e2 e3
  obtain⟨ka,pa,ha,hat,hka,hpa1,hpa6,hha1,hha6,hnk⟩:∃(ka:Addr) (pa ha:Nat),atI [V.ref k1,V.ref k2,V.ref k3] (cell ns 2 / 5%(([V.ref k1,V.ref k2,V.ref k3].length:Nat):Int))=some (.ref ka)/\H5 ka=some (.tup [.int pa,.int ha])/\1<=pa/\pa<=6/\1<=ha/\ha<=6/\¬ (p=pa/\hls.length=ha):=by
   have e:(([V.ref k1,V.ref k2,V.ref k3].length:Nat):Int)=3:=rfl
   rw[e]
   have:cell ns 2 / 5%3=0\/cell ns 2 / 5%3=1\/cell ns 2 / 5%3=2:=by lia
   rcases this with z|z|z<;>rw[z]
   ·exact⟨k1,pp,hls.length,rfl,e1,by lia,by lia,by lia,by lia,by lia⟩
   ·exact⟨k2,p,qq,rfl,e2,by lia,by lia,by lia,by lia,by lia⟩
   ·exact⟨k3,pp,qq,rfl,e3,by lia,by lia,by lia,by lia,by lia⟩
  refine⟨_,hat,ka,rfl,_,SqT.of hka,_,rfl,ka,rfl,_,SqT.of hka,_,rfl,pa,ha,rfl,hpa1,hpa6,hha1,hha6,fun wo yo xo H6 s6 hwo hyo hxo=>?_⟩
  have m6:=m5.same s6
  have hxl:=a3.1
  refine Gg ?_
  walk_at "rd"
  refine⟨w',wo,y,yo,p,pa,xs,xo,rfl,m6.tsq a1,m6.tsq a2,hwo,hyo,by lia,fun H7 s7=>⟨_,rfl,?_⟩⟩
  rw[if_neg (by decide)]
  have m7:=m6.same s7
  refine⟨wo,w',yo,y,pa,p,xo,xs,rfl,s7.seqT hwo,s7.seqT hyo,m7.tsq a1,m7.tsq a2,by lia,fun H8 s8=>⟨_,rfl,?_⟩⟩
  rw[if_neg (by decide)]
  have m8:=m7.same s8
  have s58:=(s6.trans s7).trans s8
  have hWa8:=hWa.sm m8
  have hW28:=hW2.sm m8
  have hp0:(0:Int)<=(p:Int):=by lia
  have hpe:(p:Int)<=(p:Int)+hls.length:=by lia
  have hh21:=hW2.h1
  have hx2l:=c3.1
  refine⟨w',wb,y,y2,p,p,xs,xs2,rfl,m8.tsq a1,m8.tsq a2,m8.tsq c1,m8.tsq c2,.inr ⟨hls,h2,rfl,hl2,hxl,hx2l,hWa8,hW28,hL5.mono s58,hLA5.mono s58,hne,fun H9 m9 hL9 hLA9 hSm=>?_,fun t row H9 m9 hL9 hLA9 ht hrl hn hno=>?_⟩⟩
  ·have m09:=m8.trans m9
   refine⟨wb,w',y2,y,p,p,xs2,xs,rfl,m09.tsq c1,m09.tsq c2,m09.tsq a1,m09.tsq a2,.inr ⟨h2,hls,rfl,hl2.symm,hx2l,hxl,hW2.sm m09,hWa.sm m09,hL9,hLA9,hne,fun H10 m10 hL10 hLA10 _=>?_,fun t row H10 m10 hL10 hLA10 ht hrl hn hno=>?_⟩⟩
   rotate_left
   ·rw[hl2]at hno
    exact absurd (hSm row).symm hno
   show (if (!decide (decide (V.non=V.non)=decide (V.non=V.non)))=true then _ else _)
   rw[if_neg (by decide)]
   have m010:=m09.trans m10
   refine⟨w',wb,p,xs,xs2,hls,h2,rfl,hWa.sm m010,hW2.sm m010,hl2,fun b H11 s11 hb=>⟨rfl,?_⟩⟩
   have hbf:b=false:=hb.mpr hSm
   subst hbf
   rw[if_neg (by decide),if_pos rfl]
   have m011:=m010.same s11
   refine⟨_,m011.lsq hs3,fun p3 hp3=>?_⟩
   rw[hgs]
   have s12:=Same.new hp3 (o:=.lst (gs.map V.int))
   refine⟨p3,gs,p,hls.length,rfl,SqL.of Ab,by lia,by lia,by lia,fun br row H13 s13 hbr hrl2 hrn=>?_⟩
   have m013:=(m011.same s12).same s13
   refine⟨false,w',br,p,0,xs,hls,row,rfl,(hWa.sm m013).w,hWa.f,hh1,by lia,by lia,SqL.of hbr,by lia,hrn,fun H14 s14=>?_⟩
   have m014:=m013.same s14
   refine⟨false,wb,br,p,0,xs2,h2,row,rfl,(hW2.sm m014).w,hW2.f,hh21,by lia,by lia,SqL.of (s14 _ _ hbr),by lia,by rw[hl2];exact hrn,fun H15 s15=>⟨rfl,?_⟩⟩
   have h1:=IE (hs:=hls) (p:=p) (j:=0) hh1 s!"" s!"" hrn
   have h2':=IE (hs:=h2) (p:=p) (j:=0) (ws:=row) hh21 s!"" s!"" (by rw[hl2];exact hrn)
   rw[hl2]at h2'
   have e:accB hls p 0 row=accB h2 p 0 row:=qj_.mpr (h1.trans ((hSm row).trans h2'.symm))
   rw[e,qv_ rfl]
   exact k _
  ·have m09:=m8.trans m9
   refine⟨wb,w',y2,y,p,p,xs2,xs,rfl,m09.tsq c1,m09.tsq c2,m09.tsq a1,m09.tsq a2,.inr ⟨h2,hls,rfl,hl2.symm,hx2l,hxl,hW2.sm m09,hWa.sm m09,hL9,hLA9,hne,fun H10 m10 hL10 hLA10 hSm=>?_,fun t' row' H10 m10 hL10 hLA10 ht' hrl' hn' hno'=>?_⟩⟩
   ·have:=hSm.symm hl2.symm
    exact absurd (this row) hno
   show (if (!decide (decide (V.ref t'=V.non)=decide (V.ref t=V.non)))=true then _ else _)
   rw[if_neg (by simp)]
   have m010:=m09.trans m10
   refine⟨w',wb,p,xs,xs2,hls,h2,rfl,hWa.sm m010,hW2.sm m010,hl2,fun b H11 s11 hb=>⟨rfl,?_⟩⟩
   have hbt:b=true:=by
    cases b with
    |true=>rfl
    |false=>exact absurd (hb.mp rfl row) hno
   subst hbt
   rw[if_neg (by simp),if_neg (by simp)]
   have m911:=m10.same s11
   have m011:=m010.same s11
   have hrn:=hn.row hp0 hpe
   refine⟨w',t,p,xs,hls,row,rfl,(hWa.sm m011).w,m911.tsq ht,hrl,fun H12 s12=>⟨_,rfl,?_⟩⟩
   rw[hrn,if_neg (by decide)]
   have m012:=m011.same s12
   have m912:=m911.same s12
   refine⟨true,w',t,p,0,xs,hls,row,rfl,(hWa.sm m012).w,hWa.f,hh1,by lia,by lia,m912.tsq ht,hrl,hrn,fun H13 s13=>?_⟩
   have m013:=m012.same s13
   refine⟨true,wb,t,p,0,xs2,h2,row,rfl,(hW2.sm m013).w,hW2.f,hh21,by lia,by lia,(m912.same s13).tsq ht,hrl,by rw[hl2];exact hrn,fun H14 s14=>⟨rfl,?_⟩⟩
   have h1:=IE (hs:=hls) (p:=p) (j:=0) hh1 s!"" s!"" hrn
   have h2':=IE (hs:=h2) (p:=p) (j:=0) (ws:=row) hh21 s!"" s!"" (by rw[hl2];exact hrn)
   rw[hl2]at h2'
   have e:¬ (V.bl (accB hls p 0 row)=V.bl (accB h2 p 0 row)):=fun z=>hno (by
    have z':accB hls p 0 row=accB h2 p 0 row:=V.bl.inj z
    rw[<-h1,<-h2',z'])
   rw[j3_ e]
   exact k _
end
theorem all_mk {l:PySem.W.OpenLaw}{w:World}{K:α3}{h:Heap}{mg:Str->α5}{fa Qe Ed Lb FU Jz Cc D1 Bb Fz Gm Fy EB Hz JA K9 JC D5 CK C0 BS Er FW Ha E8 FP GY CJ CN E3 D8 C2 Es Hb Ea CI CM Df E9 Cr Fb Tf:Addr}(X:K.In h)(G:h.Ns mainGlobals mg)(hfa:mg "law"=some (.ref fa))
  {C_j2 C_j1 C_j4:Addr}
  {Nt Dx Jy E5 HD BW Dy EC EA D4 G8 HE Jx HH DE Co CL BD D7 E7 FX Eo E2 FO Ce Cf Em DF CO D9 FY DG Cd Cq C1 Ep B6 Et Ql:α6}
  {Fc Fe:Option Addr} {Ff:Array (α5)} {Fg Fh Fi Fj Fl:Value}
  {NW NX:Option Addr} {NY:Array (α5)} {NZ N0 N1 N2 N3:Value}
  (j_less:HF K "less" KW Qe Nt)
  (j_end_sign:HF K "end_sign" CA Ed Dx)
  (j_spread:HF K "spread" Gj Lb Jy)
  (j_steps_from:HF K "steps_from" CU FU E5)
  (j_word_to:HF K "word_to" ET Jz HD)
  (j_rows_by_letter:HF K "rows_by_letter" Bg Cc BW)
  (j_least_rows:HF K "least_rows" B5 D1 Dy)
  (a_j0:HA K "least_row_taken" Bb)
  {cA_least_row_taken:Addr}
  (l_j0:HL K "least_row_taken" AH Bb Fg Fc Fh Fi Fj Fe (.ref cA_least_row_taken) Fl Ff)
  {PA_least_row_taken:Addr} {oC_least_row_taken:Value} {dC_least_row_taken:Option Addr} {sC_least_row_taken:Array (α5)} {vC_least_row_taken:Array Value} (lc_least_row_taken:K.lookup cA_least_row_taken=some ⟨oC_least_row_taken,dC_least_row_taken,.fields vC_least_row_taken,sC_least_row_taken⟩) (hx_least_row_taken:vC_least_row_taken[11]?=some (.ref PA_least_row_taken)) (kt_least_row_taken:K.lookup PA_least_row_taken=none) (ch_least_row_taken:PySem.W.codeHdIn K cA_least_row_taken PA_least_row_taken=true) (tb_least_row_taken:h.get? PA_least_row_taken=some (PySem.W.tabObj #[]))
  (c_j0:codeIn K (.ref cA_least_row_taken) "least_row_taken"=true)
  (k_j0:keepIn K (.ref Bb)=true)
  (j_shortest:HF K "shortest" C8 Fz EC)
  (a_j3:HA K "around" Gm)
  {cA_around:Addr}
  (l_j3:HL K "around" Dp Gm NZ NW N0 N1 N2 NX (.ref cA_around) N3 NY)
  {PA_around:Addr} {oC_around:Value} {dC_around:Option Addr} {sC_around:Array (α5)} {vC_around:Array Value} (lc_around:K.lookup cA_around=some ⟨oC_around,dC_around,.fields vC_around,sC_around⟩) (hx_around:vC_around[11]?=some (.ref PA_around)) (kt_around:K.lookup PA_around=none) (ch_around:PySem.W.codeHdIn K cA_around PA_around=true) (tb_around:h.get? PA_around=some (PySem.W.tabObj #[]))
  (c_j3:codeIn K (.ref cA_around) "around"=true)
  (k_j3:keepIn K (.ref Gm)=true)
  (j_ahead_of:HF K "ahead_of" C9 Fy EA)
  (j_behind_of:HF K "behind_of" CF EB D4)
  (j_row_with:HF K "row_with" Ec Hz G8)
  (j_row_for:HF K "row_for" EU JA HE)
  (j_use_by:HF K "use_by" Gk K9 Jx)
  (j_uses_of:HF K "uses_of" EV JC HH)
  (j_without_calls:HF K "without_calls" BM D5 DE)
  (j_word_taken_by_one:HF K "word_taken_by_one" Be CK Co)
  (j_row_taken_by_one:HF K "row_taken_by_one" Bl C0 CL)
  (j_works_difference:HF K "works_difference" A3 BS BD)
  (j__law_cell_at:HF K "_law_cell_at" BY Er D7)
  (j__law_whole:HF K "_law_whole" CV FW E7)
  (j__law_nest:HF K "_law_nest" Dq Ha FX)
  (j__law_nested:HF K "_law_nested" Cu E8 Eo)
  (j__law_parts:HF K "_law_parts" CW FP E2)
  (j__law_draw:HF K "_law_draw" Dr GY FO)
  (j__law_house_by:HF K "_law_house_by" Bp CJ Ce)
  (j__law_works_by:HF K "_law_works_by" Bq CN Cf)
  (j__law_answer:HF K "_law_answer" Cv E3 Em)
  (j__law_accepted:HF K "_law_accepted" BO D8 DF)
  (j__law_other_works:HF K "_law_other_works" Bm C2 CO)
  (j__law_refused:HF K "_law_refused" B0 Es D9)
  (j__law_bare:HF K "_law_bare" Ds Hb FY)
  (j__law_row_good:HF K "_law_row_good" BQ Ea DG)
  (j__law_rooms_to:HF K "_law_rooms_to" Br CI Cd)
  (j__law_letters_good:HF K "_law_letters_good" Bf CM Cq)
  (j__law_rooms_from:HF K "_law_rooms_from" Bx Df C1)
  (j__law_of_use:HF K "_law_of_use" Cw E9 Ep)
  (j__law_houses_unlike:HF K "_law_houses_unlike" A9 Cr B6)
  (j__law_unlike:HF K "_law_unlike" Cy Fb Et)
  (j_law:HF K "law" Rf Tf Ql)
  (z_bool:nsIn K mainGlobals "bool"=some none)
  (z_enumerate:nsIn K mainGlobals "enumerate"=some none)
  (z_int:nsIn K mainGlobals "int"=some none)
  (z_isinstance:nsIn K mainGlobals "isinstance"=some none)
  (z_len:nsIn K mainGlobals "len"=some none)
  (z_list:nsIn K mainGlobals "list"=some none)
  (z_max:nsIn K mainGlobals "max"=some none)
  (z_min:nsIn K mainGlobals "min"=some none)
  (z_range:nsIn K mainGlobals "range"=some none)
  (z_reversed:nsIn K mainGlobals "reversed"=some none)
  (z_sorted:nsIn K mainGlobals "sorted"=some none)
  (z_tuple:nsIn K mainGlobals "tuple"=some none)
  (z_zip:nsIn K mainGlobals "zip"=some none)
  (m_j2:nsIn K mainGlobals "AskError"=some (some (.ref C_j2)))
  (m_j1:nsIn K mainGlobals "BadHouse"=some (some (.ref C_j1)))
  (m_j4:nsIn K mainGlobals "BadWord"=some (some (.ref C_j4)))
  (x_j1:PySem.W.excIn K C_j1 bmV "ValueError.__new__"=true)
  (ga_j1:PySem.W.findIn K (.ref C_j1) "__getattribute__"=some (some (.builtin "BaseException.__getattribute__")))
  (hk_j1:PySem.W.findIn K (.ref C_j1) "__getattr__"=some none)
  {cd_j1:ClassData}
  (cl_j1:PySem.W.clsIn K C_j1=some cd_j1)
  (ca_j1:PySem.W.findIn K (.ref C_j1) "__class__"=some (some (.builtin "object.__class__")))
  (mo_j1:PySem.W.mroIn K C_j1 (.type "object")=some true)
  (mb_j1:PySem.W.mroIn K C_j1 (.type "BaseException")=some true)
  (e_j1:exmOne K (.ref C_j1) (.ref C_j2)=some true)
  (v_j1:kitOne K (.ref C_j1) (.type "ValueError")=some true)
  (ee_j1:exmOne K (.ref C_j1) (.ref C_j1)=some true)
  (k_j1_j2:kitOne K (.ref C_j1) (.ref C_j2)=some true)
  (k_j1_j1:kitOne K (.ref C_j1) (.ref C_j1)=some true)
  (k_j1_j4:kitOne K (.ref C_j1) (.ref C_j4)=some false)
  (gs:PySem.W.specialIn K (.builtin "object.__class__") "__get__"=some (some (.builtin "getset_descriptor.__get__")))
  (tk:PySem.W.takesIn K (.builtin "object.__class__")=some true)
  (ne_:PA_least_row_taken≠PA_around)
  : ∃(fd:α6) (c T c2 T2:Addr),PySem.W.tabIn K "least_row_taken"=some (c,T)/\K.lookup T=none/\PySem.W.CodeHd h c T/\h.get? T=some (PySem.W.tabObj #[])/\PySem.W.tabIn K "around"=some (c2,T2)/\K.lookup T2=none/\PySem.W.CodeHd h c2 T2/\h.get? T2=some (PySem.W.tabObj #[])/\T≠T2/\(∀(s:Shared) (v:Value),BindsTo s fd ⟨[v],[]⟩ [("script",v)])/\∀base:Heap,K.In base->base.Ns mainGlobals mg->PySem.W.CodeHd base c T->PySem.W.CodeHd base c2 T2->BmOk mg base->FnOk l.prog w K mg base CX0 16 fa fd ["script"] (OK K):=by
 have e:=hfa.symm.trans (xp_ X G j_law.a)
 cases e
 have T:Txt mg:=⟨j6_ X G z_bool,j6_ X G z_enumerate,j6_ X G z_int,j6_ X G z_isinstance,j6_ X G z_len,j6_ X G z_list,j6_ X G z_max,j6_ X G z_min,j6_ X G z_range,j6_ X G z_reversed,j6_ X G z_sorted,j6_ X G z_tuple,j6_ X G z_zip⟩
 have Z:Exs K mg C_j2 C_j1 C_j4:=⟨xp_ X G m_j2,xp_ X G m_j1,xp_ X G m_j4,x_j1,⟨ga_j1,hk_j1,by rw[cl_j1];rfl,ca_j1,gs,tk,mo_j1,mb_j1⟩,e_j1,v_j1,ee_j1,k_j1_j2,k_j1_j1,k_j1_j4⟩
 have Dh:=fun_mk (st:=AH) l_j0 c_j0 k_j0
 have FA:=Dh.binds (ps:=["house","by_letter","start"]) fun _ _ _ _ _ _ us hl=>(by obtain⟨y0,y1,y2,rfl⟩:=len3 hl;rfl)
 have FC:=xp_ X G a_j0
 have Lc:=fun_mk (st:=Dp) l_j3 c_j3 k_j3
 have OL:=Lc.binds (ps:=["house","by_letter","letter"]) fun _ _ _ _ _ _ us hl=>(by obtain⟨y0,y1,y2,rfl⟩:=len3 hl;rfl)
 have OM:=xp_ X G a_j3
 have ti_least_row_taken:=KO a_j0 l_j0 rfl lc_least_row_taken hx_least_row_taken
 have ti_around:=KO a_j3 l_j3 rfl lc_around hx_around
 refine⟨Ql,cA_least_row_taken,PA_least_row_taken,cA_around,PA_around,ti_least_row_taken,kt_least_row_taken,PySem.W.codeHd_of_K X ch_least_row_taken,tb_least_row_taken,ti_around,kt_around,PySem.W.codeHd_of_K X ch_around,tb_around,ne_,j_law.b fun _ _ _ _ _ _ _=>rfl,fun base _ _ hC_ hC2_ hB_=>?_⟩
 have FL_least_row_taken:=Ng (st:=AH) ti_least_row_taken l_j0 c_j0 hC_ hB_
 have FL_around:=Ng (st:=Dp) ti_around l_j3 c_j3 hC2_ hB_
 have Z_:Wh l.prog w K mg base:=⟨fun _ _ a=>xp_ X G a⟩
 have q_j16:=j_less.c Z_ (Rg j_less.F T Z )
 have q_ji:=j_end_sign.c Z_ (J7 j_end_sign.F T Z )
 have q_j14:=j_spread.c Z_ (NH j_spread.F T Z q_ji)
 have q_jv:=j_steps_from.c Z_ (Iu j_steps_from.F T Z )
 have q_j11:=j_word_to.c Z_ (LG j_word_to.F T Z )
 have q_j7:=j_rows_by_letter.c Z_ (Fx j_rows_by_letter.F T Z q_ji)
 have q_jj:=j_least_rows.c Z_ (Iy j_least_rows.F T Z q_j16)
 have FD:=EZ (P:=l.prog) (w:=w) (base:=base) FL_least_row_taken T Z q_jj
 have q_j0:=Cal.mk (x := "least_row_taken") (st:=AH) FD Dh FA FC
 have q_jt:=j_shortest.c Z_ (Kd j_shortest.F T Z q_j7 q_j0)
 have ON:=Nx (P:=l.prog) (w:=w) (base:=base) FL_around T Z q_jj q_j0
 have q_j3:=Cal.mk (x := "around") (st:=Dp) ON Lc OL OM
 have q_ju:=j_ahead_of.c Z_ (Kg j_ahead_of.F T Z )
 have q_jo:=j_behind_of.c Z_ (Jv j_behind_of.F T Z q_ji)
 have q_j10:=j_row_with.c Z_ (Kj j_row_with.F T Z q_ju q_jo) (e:=fun _ _ _ _ _ _ us hl=>by obtain⟨y0,y1,y2,y3,y4,rfl⟩:=len5 hl;rfl)
 have q_j12:=j_row_for.c Z_ (LI j_row_for.F T Z q_j14 q_j10) (e:=fun _ _ _ _ _ _ us hl=>by obtain⟨y0,y1,y2,y3,y4,rfl⟩:=len5 hl;rfl)
 have q_j15:=j_use_by.c Z_ (NF j_use_by.F T Z q_j7 q_j3 q_ju q_jo) (e:=fun _ _ _ _ _ _ us hl=>by obtain⟨y0,y1,y2,y3,y4,rfl⟩:=len5 hl;rfl)
 have q_j13:=j_uses_of.c Z_ (LH j_uses_of.F T Z q_jt q_j15)
 have q_jl:=j_without_calls.c Z_ (F7 j_without_calls.F T Z )
 have q_jf:=j_word_taken_by_one.c Z_ (Ei j_word_taken_by_one.F T Z q_jv q_j11)
 have q_ja:=j_row_taken_by_one.c Z_ (ED j_row_taken_by_one.F T Z q_jt q_j12 q_j13 q_jl q_jf)
 have q_j5:=j_works_difference.c Z_ (EE j_works_difference.F T Z q_ja)
 have q_j8:=j__law_cell_at.c Z_ (GU j__law_cell_at.F T Z )
 have q_jw:=j__law_whole.c Z_ (Ir j__law_whole.F T Z )
 have q_jy:=j__law_nest.c Z_ (Ju j__law_nest.F T Z )
 have q_jp:=j__law_nested.c Z_ (Hi j__law_nested.F T Z )
 have q_jx:=j__law_parts.c Z_ (IA j__law_parts.F T Z )
 have q_jq:=j__law_draw.c Z_ (Jt j__law_draw.F T Z )
 have q_jb:=j__law_house_by.c Z_ (F3 j__law_house_by.F T Z q_jq)
 have q_jc:=j__law_works_by.c Z_ (F4 j__law_works_by.F T Z q_jb)
 have q_jr:=j__law_answer.c Z_ (Hj j__law_answer.F T Z )
 have q_jd:=j__law_accepted.c Z_ (F5 j__law_accepted.F T Z q_jx q_jr)
 have q_jg:=j__law_other_works.c Z_ (EF j__law_other_works.F T Z q_jb q_jc)
 have q_jk:=j__law_refused.c Z_ (G9 j__law_refused.F T Z q_j5)
 have q_jz:=j__law_bare.c Z_ (JE j__law_bare.F T Z )
 have q_jm:=j__law_row_good.c Z_ (F8 j__law_row_good.F T Z q_jw q_jp)
 have q_je:=j__law_rooms_to.c Z_ (F2 j__law_rooms_to.F T Z )
 have q_j6:=j__law_letters_good.c Z_ (Eh j__law_letters_good.F T Z q_je)
 have q_jh:=j__law_rooms_from.c Z_ (E6 j__law_rooms_from.F T Z )
 have q_jn:=j__law_of_use.c Z_ (Hl j__law_of_use.F T Z q_je q_jh)
 have q_j9:=j__law_houses_unlike.c Z_ (D6 j__law_houses_unlike.F T Z )
 have q_js:=j__law_unlike.c Z_ (Hm j__law_unlike.F T Z q_j6 q_jn q_j9)
 exact S5 j_law.F T Z q_j5 q_j8 q_jy q_jc q_jd q_jg q_jk q_jz q_jm q_js
theorem walk {l:PySem.W.OpenLaw}{q:Program}{loose:List Str}{XP:(Str->α5)->Heap->Prop}{YP:World->Heap->Prop}{d:DefRec}{K:Params->α3}(hn:l.most=some 63)(hdf:d.params.defaults=[])
  (hY:∀(w:World) (h:Heap),YP w h->(K w.params).In h)
  (F:∀(w:World) (mg:Str->α5) (fa:Addr) (h:Heap),YP w h->(K w.params).In h->h.Ns mainGlobals mg->mg d.name=some (.ref fa) ->
   ∃(fd:α6) (c T c2 T2:Addr),PySem.W.tabIn (K w.params) "least_row_taken"=some (c,T)/\(K w.params).lookup T=none/\PySem.W.CodeHd h c T/\h.get? T=some (PySem.W.tabObj #[])/\PySem.W.tabIn (K w.params) "around"=some (c2,T2)/\(K w.params).lookup T2=none/\PySem.W.CodeHd h c2 T2/\h.get? T2=some (PySem.W.tabObj #[])/\T≠T2/\(∀(s:Shared) (u:Value),BindsTo s fd ⟨[u],[]⟩ [("script",u)])/\∀base:Heap,(K w.params).In base->base.Ns mainGlobals mg->PySem.W.CodeHd base c T->PySem.W.CodeHd base c2 T2->BmOk mg base->FnOk l.prog w (K w.params) mg base CX0 16 fa fd ["script"] (OK (K w.params))):
  PySem.W.WalkO q loose XP YP l.row.toRowW d [] (fun f vs=>PySem.call f vs):=
 L2.walk_ofT2 (xT := "least_row_taken") (xT2 := "around") (n:=63) (k:=16) (x := "script") (CX:=fun _=>CX0) (sp:=fun w=>OK (K w.params)) hn (by decide) hdf ⟨rfl,by decide,by decide⟩ hY F (fun _ _ a _ _ _ _ ns hl ti hT ti2 hT2 hne hS=>⟨a,ns,rfl,hS,hl,by rw[GK ti];exact hT,by rw[GK ti2];exact hT2,by rw[GK ti,GK ti2];exact hne,fun _=>rfl⟩) fun _ _ _ _ _ z=>z
end Mine
structure PySem.W.Fast:Prop where (tw3818182181221175076 tw10393238737803562805 tw2231493590417084576 tw2691170306620020763 tw11809142047987867283 tw5866068208500135202 tw9017782483928854783 tw9101031494191797377 tw4569916734975585312 tw8140290343046750705 tw15800633532748674665 tw16902435795811191306 tw1505261296777417686 tw10599819654200992195 tw5928942406632445458 tw10955051399851588361 tw4498021441834820508 tw10962534005870319252 tw5912166413137336205 tw16524835447302355159 tw1709561783732858520 tw9791707900538158867 tw13824265503010670371 tw15579006942051801952 tw15517748452283625109 tw9946210476680734804 tw5422379704951631243 tw15230785332327699964 tw6594714007668987862 tw7720382113935347819 tw5845994365387157800 tw14943427346318730095 tw8087843772364428107 tw11806730917225842232 tw5342045116522138811 tw7265398423611582755 tw16798472678767267752 tw7978041144139353658 tw15414131546081333438 tw5284915017303491134 tw6137196170840073204 tw18241797945977472162 tw5493798905995917314 tw2066491937877623403 tw3388721135175477145 tw7459383375271274024 tw12930027390618665037 tw7355735885349285019 tw8209932083260742881 tw6631066743412721280 tw4934992352270580981 tw12209154421935770428 tw11890015051164323111 tw14249461506700502288 tw8580004633092670953 tw15111306794672278089 tw2007978722359857169 tw9000792826981176220 tw4946131685736017566 tw248560154604551217 tw17402932345437342072 tw14776602918325012521 tw9313341601739334481 tw17563689136542079534 tw13515690534120502933 tw11946457037389991467 tw17093749488936094412 tw918333073225766960 tw5765500513520695160 tw4260658159068516878 tw13595766514970174703 tw17537108640607459023 tw2300831753037987787 tw12282062130464573327 tw10852471639061078834 tw14783195655889545504 tw15770260323718505065 tw16133498892846457143 tw5916279085517150741 tw13684377852150867474 tw10913231525128498372 tw12711999532212167168 tw3995193489828468473 tw16811869369831433603 tw2204413745047495141 tw12383906128966049264 tw5825121942745520597 tw4019463924086253013 tw14086104478147876543 tw17172879353490427576 tw15171013234494205649 tw9020547817441665405 tw3919461831588302407 tw4418459238801699432 tw10603651918626437409 tw14322589759690517268 tw84237467292043069 tw11481025326255200205 tw13539278133950910160 tw9454507045198876303 tw10055596240655715797 tw13809875448907109784 tw8001543780461398612 tw3170937403542167503 tw6497074297991336736 tw3083387385527083855 tw17594913287228624616 tw4203954788863913416 tw6854890976545212139 tw13727376387132820286 tw16572799470532846378 tw5171241527561936385 tw14130903411733182773 tw898540141610699481 tw15982676556554026454 tw3464654699300796707 tw7031622205047016726 tw2119750395586636589 tw1488596777751552280 tw11252986891089970076 tw17367228921258533281 tw5347227524948192489 tw14976270002388932320 tw14811430039586607552 tw7204034584889354393 tw12685358274045671183 tw966725375272219064 tw1506955634558793427 tw11745716087946778581 tw9927926332857493561 tw8282722083998163157 tw1028064484321771327 tw14557069341583678474 tw5612258960254875856 tw711024468220498966 tw14845600646530430724 tw3980353798396416384 tw403253664489969744 tw10649779707130312842 tw7648934354668065409 tw16297430637114773495 tw10113818860759463562 tw10175603836252055404 tw6324173528608548447 tw12222714755692238980 tw4143028866208079720 tw10304468327968265578 tw14545003911400558452 tw7407458980701165470 tw14670873665823834630 tw6430216769520988514 tw10949356454297652453 tw11205515168229035218 tw13745879205117822027 tw8732531875456652874 tw18160552261490602226 tw1998100243318084978 tw10949453814923004696 tw5761957244334033059 tw17844934133102489040 tw8293865459858579599 tw5246256187416172138 tw17488699534748806246 tw11901228358860669256 tw11809115735051696995 tw1397534518398702373 tw17516536473018592323 tw7372120042505880070 tw11721687921379269818 tw16500619538286416466 tw5501743622743064223 tw15344079973979324751 tw17131333636473959745 tw10195807752408250379 tw12803335638220527805 tw16273630162427727241 tw5634926006821362359 tw10665540769152606559 tw17819151034463473 tw4974373946613800393 tw16390424112760998218 tw6833646267476712654 tw4258735311291508632 tw1838332439134927684 tw16697501443707900920 tw6130445959645383270 tw15393557596057766190 tw11720633530435851148 tw4352249637688775038 tw17666121856213180880 tw15607517732942079015 tw18240771836068143878 tw3809377218197524414 tw18064379945024612879 tw10832650107595104923 tw12619495806643948657 tw13536363875584845645 tw9401912791621549022 tw2585894803581758447 tw5110225249823684188 tw2659945958753848053 tw3548231330151809130 tw12183732147773387460 tw10105876742448906452 tw16676435928762858908 tw6997087305420124936 tw4943598077533694507 tw6674674045436645563 tw2954655902525338857 tw3303662992489319180 tw18221632450077994126 tw2419006883794365262 tw15984053065294229684 tw13974955613117872331 tw4521104527264927591 tw2058874062233795897 tw13030707733797039112 tw17436605924773282615 tw7175792317538213265 tw4853949282132290664 tw14807158219335874355 tw345412977399457003 tw4195650247103937044 tw17845184745180683473 tw17286491501014090697 tw14543526889598239340 tw18148137833465249426 tw2052069813371525743 tw2183613101708495 tw13724375607345343032 tw2496359059324182225 tw11056267122794249962 tw7988393469086152969 tw17229476919299831105 tw14561566682012315348 tw14163686627210530504 tw1922044116523781849 tw9905380513117755609 tw1982445862648417879 tw14497864932994761840 tw10672549191031901866 tw12799718174418761657 tw14757283421955977791 tw6220030323526539508 tw3359122765233709004 tw6798464791306698906 tw3266121960203362775 tw6166723033632489472 tw17407081679005569851 tw4493547427795849705 tw12205168463482149915 tw12896380087302015072 tw625627581806136800 tw6066305389421924033 tw11662435901144525160 tw2681441966263675160 tw8587200859740896950 tw5880334226826824635 tw15402500668644975435 tw13313508538311900715 tw14139840422917489770 tw6600794494457087479 tw8266077246106559479 tw11547124605534956215 tw7438535343552154842 tw16802398918278750682 tw2627195312284780891 tw10253156455272065322 tw10690234966807655249 tw6757825721199280914 tw12699504077897071268 tw6038017532485635306 tw2004634100376965845 tw1255799127380783561 tw12780200042602034422 tw1324554092786283762 tw16524287396663556644 tw6951688891578635251 tw15531601236650332245 tw11703392238343857381 tw13934815210138575638 tw5578571923391894885 tw2047071454164535567 tw10041215186340595410 tw8351536991170392399 tw9671441576596156553 tw14288741413739435509 tw8472688145310311692 tw10287434653426416528 tw14363025150393747913 tw10857982153272010468 tw15133288363227849180 tw2898459460891650045 tw16271716066767460858 tw6427490497654375434 tw4284900228802595523 tw1966186837795279373 tw10005658329166814404 tw15093430233848600892 tw759162214824796873 tw109856538185420548 tw2734218593466006842 tw13471970408133416592 tw10965341029865357133 tw7354509682472987304 tw365502399752852322 tw2111221516671264570 tw8687695626175653773 tw17395103470754242017 tw6556615661870081714 tw14731226819873151172 tw11134312310849809248 tw14412098640848252098 tw392943120138226288 tw14728392852176934122 tw11910096299274058655 tw11314421492020452539 tw6884353322762588297 tw7814263320781350356 tw14146132622105119327 tw17333958871271733235 tw4824704372075815868 tw12923849056255138332 tw18378018511565001127 tw6287961044140472197 tw13547611483503948128 tw10521610517841141126 tw15657023781291577112 tw13190770214729287847 tw16212627232331480548 tw5240923914916159209 tw7605828203708812373 tw4471511599613141270 tw8489691040891756727 tw9953814055787025027 tw677829073750507999 tw1980143792643947711 tw7608156264913854217 tw6562754560193738646 tw5023004911014525130 tw11032270231588809346 tw6426081539870461608 tw6939956578394902215 tw4281836511501825041 tw16989399415002779727 tw17856110470328440686 tw8306380729423109870:True)
open PySem PySem.W PyProof.Rows
set_option maxRecDepth 100000 in
set_option maxHeartbeats 0 in
theorem PySem.Challenge.cw_guessroom_k82_whole_works_told_apart_holds : PySem.Challenge.rw_guessroom_k82_whole_works_told_apart.Holds := by
  w_on; o_law; k_head; (case hw => w_witness2)
  k_fill
  refine Mine.walk (l := PySem.Challenge.rw_guessroom_k82_whole_works_told_apart) rfl rfl (fun w h Y => PySem.W.km_in_of Y) ?F
  case F =>
    intro w mg fa h Y KX G hmg
    refine' Mine.all_mk KX G hmg ?j_less ?j_end_sign ?j_spread ?j_steps_from ?j_word_to ?j_rows_by_letter ?j_least_rows ?a_j0 ?l_j0 ?lc_least_row_taken ?hx_least_row_taken ?kt_least_row_taken ?ch_least_row_taken ?tb_least_row_taken ?c_j0 ?k_j0 ?j_shortest ?a_j3 ?l_j3 ?lc_around ?hx_around ?kt_around ?ch_around ?tb_around ?c_j3 ?k_j3 ?j_ahead_of ?j_behind_of ?j_row_with ?j_row_for ?j_use_by ?j_uses_of ?j_without_calls ?j_word_taken_by_one ?j_row_taken_by_one ?j_works_difference ?j__law_cell_at ?j__law_whole ?j__law_nest ?j__law_nested ?j__law_parts ?j__law_draw ?j__law_house_by ?j__law_works_by ?j__law_answer ?j__law_accepted ?j__law_other_works ?j__law_refused ?j__law_bare ?j__law_row_good ?j__law_rooms_to ?j__law_letters_good ?j__law_rooms_from ?j__law_of_use ?j__law_houses_unlike ?j__law_unlike ?j_law ?z_bool ?z_enumerate ?z_int ?z_isinstance ?z_len ?z_list ?z_max ?z_min ?z_range ?z_reversed ?z_sorted ?z_tuple ?z_zip ?m_j2 ?m_j1 ?m_j4 ?x_j1 ?ga_j1 ?hk_j1 ?cl_j1 ?ca_j1 ?mo_j1 ?mb_j1 ?e_j1 ?v_j1 ?ee_j1 ?k_j1_j2 ?k_j1_j1 ?k_j1_j4 ?gs ?tk ?ne_
    all_goals try unfold L2.HA
    all_goals try unfold L2.HL
    (case j_less|j_end_sign|j_spread|j_steps_from|j_word_to|j_rows_by_letter|j_least_rows|j_shortest|j_ahead_of|j_behind_of|j_row_with|j_row_for|j_use_by|j_uses_of|j_without_calls|j_word_taken_by_one|j_row_taken_by_one|j_works_difference|j__law_cell_at|j__law_whole|j__law_nest|j__law_nested|j__law_parts|j__law_draw|j__law_house_by|j__law_works_by|j__law_answer|j__law_accepted|j__law_other_works|j__law_refused => constructor; k_is; apply L2.fun_mk <;> k_is)
    (case j__law_bare|j__law_row_good|j__law_rooms_to|j__law_letters_good|j__law_rooms_from|j__law_of_use|j__law_houses_unlike|j__law_unlike|j_law => constructor; k_is; apply L2.fun_mk <;> k_is)
    (case a_j0|l_j0|lc_least_row_taken|c_j0|k_j0|a_j3|l_j3|lc_around|c_j3|k_j3|z_bool|z_enumerate|z_int|z_isinstance|z_len|z_list|z_max|z_min|z_range|z_reversed|z_sorted|z_tuple|z_zip|m_j2|m_j1|m_j4=>k_is)
    (case x_j1=>k_exc)
    (case ga_j1|hk_j1|cl_j1|ca_j1|mo_j1|mb_j1=>k_is)
    (case e_j1=>kts_exm)
    (case v_j1=>kit_is)
    (case ee_j1=>kts_exm)
    (case k_j1_j2|k_j1_j1|k_j1_j4=>kit_is)
    (case gs|tk=>k_is)
    (case hx_least_row_taken => exact rfl)
    (case kt_least_row_taken => first | k_is | kernel_rfl | exact rfl)
    (case ch_least_row_taken => first | k_is | kernel_rfl)
    (case tb_least_row_taken => first | exact PySem.W.km_tabs_of Y _ (.head _) | exact PySem.W.km_tabs_of Y _ (.tail _ (.head _)))
    (case hx_around => exact rfl)
    (case kt_around => first | k_is | kernel_rfl | exact rfl)
    (case ch_around => first | k_is | kernel_rfl)
    (case tb_around => first | exact PySem.W.km_tabs_of Y _ (.head _) | exact PySem.W.km_tabs_of Y _ (.tail _ (.head _)))
    (case ne_ => decide)
