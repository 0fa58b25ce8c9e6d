import PyProof.Rows.All
import Wide.All
import OpenK.AllK
import Wide.FinOn
import Lean
import PyProof.EqAt
import PyProof.EqKinds
import PyProof.TupleCall
import KE.KRevIter
import PyProof.ListRange
import PyProof.TupleOfGen
import PyProof.Draws
import PyProof.EnumMake
import PyProof.EnumFor
import PyProof.NeKinds
import KE.KDictList
import PyProof.Rows.TupDisplay
import PyProof.ZipIter
import PyProof.Rows.ZipGen
import KE.KItemsList
import PyProof.Rows.SumAny
import PyProof.StrWalks
import PyProof.StrCalls
import PyProof.StrCalls3
import PyProof.StrLawsFirst
import PyProof.StrLawsIn
import PyProof.SliceStr2
import PyProof.StrBlockI
import PyProof.Rows.StrWeight2
import PyProof.ListNew
import PyProof.DictRoadsH
import PyProof.WalkInts
import PyProof.Rows.MinMaxN
import KE.KDictLaws
import PyProof.StrCalls2
import PyProof.StrLawsChain
import KE.KIntText
import KE.KxText
import KE.KMinKey
import KE.KPairComp
import PyProof.MaxThree
import PyProof.DictValues
import OpenK.KCls
import PySem.Challenge.RW_guessroom_k68_whole_difference
set_option compiler.extract_closed false
local macro_rules | `(s!$_) => `(by lia)
namespace Al
noncomputable abbrev ja_:=@List.getD_eq_getElem?_getD
noncomputable abbrev jb_:=@List.length_map
noncomputable abbrev jc_:=@List.getElem?_eq_getElem
noncomputable abbrev jd_:=@List.getElem?_eq_some_iff
noncomputable abbrev je_:=@PySem.wpAny_bind
noncomputable abbrev jf_:=@Nat.le_refl
noncomputable abbrev jg_:=@List.mem_singleton
noncomputable abbrev jh_:=@List.getElem?_map
noncomputable abbrev ji_:=@List.map_append
noncomputable abbrev jj_:=@List.mem_of_getElem?
noncomputable abbrev jk_:=@List.length_append
noncomputable abbrev jl_:=@List.size_toArray
noncomputable abbrev jm_:=@PySem.Heap.get?_push_of_some
noncomputable abbrev jn_:=@List.getElem?_append_left
noncomputable abbrev jo_:=@Bool.false_ne_true
noncomputable abbrev jp_:=@PySem.Heap.lt_size
noncomputable abbrev jq_:=@List.getElem?_append_right
noncomputable abbrev jr_:=@PySem.W.mg_of
noncomputable abbrev js_:=@PySem.wpAny_pure
noncomputable abbrev jt_:=@List.mem_cons_of_mem
noncomputable abbrev ju_:=@List.getElem?_eq_none
noncomputable abbrev jv_:=@List.mem_map
noncomputable abbrev jw_:=@Nat.lt_of_lt_of_le
noncomputable abbrev jx_:=@List.mem_append
noncomputable abbrev jy_:=@PySem.Heap.get?_push_size
noncomputable abbrev jz_:=@PyProof.Rows.boot_tuple
noncomputable abbrev jA_:=@Int.toNat_natCast
noncomputable abbrev jB_:=@Option.some.inj
noncomputable abbrev jC_:=@List.mem_cons_self
noncomputable abbrev jD_:=@List.getElem_mem
noncomputable abbrev jE_:=@Int.emod_lt_of_pos
noncomputable abbrev jF_:=@PySem.PassesOwn.never
noncomputable abbrev jG_:=@Nat.ne_of_lt
noncomputable abbrev jH_:=@PySem.boot_len
noncomputable abbrev jI_:=@Int.emod_eq_emod_iff_emod_sub_eq_zero
noncomputable abbrev jJ_:=@Int.emod_nonneg
noncomputable abbrev jK_:=@List.map_map
noncomputable abbrev jL_:=@List.mem_cons
noncomputable abbrev jM_:=@List.take_length
noncomputable abbrev jN_:=@PySem.F.slot_list_append
noncomputable abbrev jO_:=@PySem.F.type_list_append
noncomputable abbrev jP_:=@List.mem_append_right
noncomputable abbrev jQ_:=@PySem.F.plainAttrs_list
noncomputable abbrev jR_:=@List.length_take
noncomputable abbrev jS_:=@List.map_congr_left
noncomputable abbrev jT_:=@Int.emod_emod_of_dvd
noncomputable abbrev jU_:=@List.length_range
noncomputable abbrev jV_:=@Nat.le_trans
noncomputable abbrev jW_:=@Nat.lt_irrefl
noncomputable abbrev jX_:=@List.length_eq_zero_iff
noncomputable abbrev jY_:=@List.mem_append_left
noncomputable abbrev jZ_:=@List.length_singleton
noncomputable abbrev j0_:=@List.lookup_cons
noncomputable abbrev j1_:=@Int.mul_le_mul_of_nonneg_right
noncomputable abbrev j2_:=@List.range_succ
noncomputable abbrev j3_:=@Int.zero_add
noncomputable abbrev j4_:=@List.map_cons
noncomputable abbrev j5_:=@Int.emod_eq_of_lt
noncomputable abbrev j6_:=@List.map_singleton
noncomputable abbrev j7_:=@List.getElem?_range
noncomputable abbrev j8_:=@List.getElem?_replicate
noncomputable abbrev j9_:=@List.mem_range
noncomputable abbrev qa_:=@List.length_replicate
noncomputable abbrev qb_:=@List.take_add_one
noncomputable abbrev qc_:=@PySem.W.mg_none_of
noncomputable abbrev qd_:=@PySem.mem_of_lookup
noncomputable abbrev qe_:=@List.replicate_succ
noncomputable abbrev qf_:=@Iff.rfl
noncomputable abbrev qg_:=@decide_eq_true
noncomputable abbrev qh_:=@Bool.and_eq_true
noncomputable abbrev qi_:=@List.take_append_of_le_length
noncomputable abbrev qj_:=@decide_eq_false
noncomputable abbrev qk_:=@Classical.byContradiction
noncomputable abbrev ql_:=@PyProof.Rows.boot_isinstance
noncomputable abbrev qm_:=@List.take_of_length_le
noncomputable abbrev qn_:=@PySem.W.kia_one
noncomputable abbrev qo_:=@PyProof.Rows.slot_tuple_getitem
noncomputable abbrev qp_:=@List.mem_iff_getElem?
noncomputable abbrev qq_:=@PySem.wpAny_newObj_type
noncomputable abbrev qr_:=@Nat.sub_self
noncomputable abbrev qs_:=@Int.mul_emod
noncomputable abbrev qt_:=@Nat.zero_le
noncomputable abbrev qu_:=@PySem.Heap.get?_update_other
noncomputable abbrev qv_:=@List.take_succ_eq_append_getElem
noncomputable abbrev qw_:=@PyProof.Rows.callWith_type1
noncomputable abbrev qx_:=@Int.dvd_refl
noncomputable abbrev qy_:=@PySem.wpAny_call_entry
noncomputable abbrev qz_:=@Nat.mul_le_mul
noncomputable abbrev qA_:=@List.getElem_map
noncomputable abbrev qB_:=@PySem.wpAny_callSpecial?_slot
noncomputable abbrev qC_:=@List.ext_getElem?
noncomputable abbrev qD_:=@Int.dvd_of_emod_eq_zero
noncomputable abbrev qE_:=@List.foldl_append
noncomputable abbrev qF_:=@List.pairwise_singleton
noncomputable abbrev qG_:=@Array.getElem?_eq_some_iff
noncomputable abbrev qH_:=@PySem.Heap.size_push
noncomputable abbrev qI_:=@PySem.wpAny_loadPart'
noncomputable abbrev qJ_:=@List.ext_getElem
noncomputable abbrev qK_:=@Array.length_toList
noncomputable abbrev qL_:=@PySem.wpAny_mono
noncomputable abbrev qM_:=@Int.dvd_mul_of_dvd_right
noncomputable abbrev qN_:=@List.getElem?_zipWith
noncomputable abbrev qO_:=@Int.add_emod
noncomputable abbrev qP_:=@PySem.F.slot_dict_keyiterator_next
noncomputable abbrev qQ_:=@List.dropLast_concat_getLast
noncomputable abbrev qR_:=@Nat.lt_succ_of_lt
noncomputable abbrev qS_:=@PySem.wpAny_holding
noncomputable abbrev qT_:=@Ne.symm
noncomputable abbrev qU_:=@Nat.lt_of_sub_eq_succ
noncomputable abbrev qV_:=@List.mem_replicate
noncomputable abbrev qW_:=@PySem.wpAny_typeNameOfWhole_keyiter
noncomputable abbrev qX_:=@List.pairwise_append
noncomputable abbrev qY_:=@congrArg
noncomputable abbrev qZ_:=@Int.mul_assoc
noncomputable abbrev q0_:=@Int.emod_eq_zero_of_dvd
noncomputable abbrev q1_:=@List.map_nil
noncomputable abbrev q2_:=@PySem.wpAny_truthy_bool
noncomputable abbrev q3_:=@List.flatten_cons
noncomputable abbrev q4_:=@decide_eq_true_eq
noncomputable abbrev q5_:=@List.length_set
noncomputable abbrev q6_:=@Int.toNat_of_nonneg
noncomputable abbrev q7_:=@List.length_cons
noncomputable abbrev q8_:=@PySem.wpAny_setField_rec
noncomputable abbrev q9_:=@List.eq_replicate_iff
noncomputable abbrev xa_:=@List.mem_or_eq_of_mem_set
noncomputable abbrev xb_:=@List.mem_of_mem_take
noncomputable abbrev xc_:=@List.mem_filter
noncomputable abbrev xd_:=@PySem.wpAny_passesOwn
noncomputable abbrev xe_:=@Bool.eq_iff_iff
noncomputable abbrev xf_:=@PySem.wpAny_typeNameOf_keyiter
noncomputable abbrev xg_:=@Nat.le_of_succ_le
noncomputable abbrev xh_:=@Nat.ne_of_gt
noncomputable abbrev xi_:=@Int.le_of_lt
noncomputable abbrev xj_:=@Int.mul_comm
noncomputable abbrev xk_:=@List.length_zipWith
noncomputable abbrev xl_:=@List.map_take
noncomputable abbrev xm_:=@PySem.F.plain_max_loop
noncomputable abbrev xn_:=@List.getElem?_set_self
noncomputable abbrev xo_:=@PyProof.Rows.boot_list
noncomputable abbrev xp_:=@PySem.wpAny_pyIter_tuple
noncomputable abbrev xq_:=@PySem.wpAny_Call_Name_kw
noncomputable abbrev xr_:=@List.getElem?_take
noncomputable abbrev xs_:=@PySem.wpAny_execs_nil
noncomputable abbrev xt_:=@PySem.Heap.get?_update_self
noncomputable abbrev xu_:=@List.find?_cons
noncomputable abbrev xv_:=@Array.getElem?_toList
noncomputable abbrev xw_:=@Int.natCast_mul
noncomputable abbrev xx_:=@PyProof.Rows.boot_sum
noncomputable abbrev xy_:=@of_decide_eq_true
noncomputable abbrev xz_:=@PySem.F.excBase_ValueError
noncomputable abbrev xA_:=@List.getElem?_set_ne
noncomputable abbrev xB_:=@PySem.F.slot_dict_valueiterator_next
noncomputable abbrev xC_:=@List.pairwise_iff_getElem
noncomputable abbrev xD_:=@List.length_drop
noncomputable abbrev xE_:=@Nat.le_of_not_lt
noncomputable abbrev xF_:=@List.all_eq_true
noncomputable abbrev xG_:=@List.not_mem_nil
noncomputable abbrev xH_:=@PySem.Heap.SameBut.update
noncomputable abbrev xI_:=@List.getElem_of_mem
noncomputable abbrev xJ_:=@PySem.F.args_tuple_add_2
noncomputable abbrev xK_:=@PySem.call_meets
noncomputable abbrev xL_:=@PySem.wpAny_comprehension_free
noncomputable abbrev xM_:=@PySem.AutoSeq1.wpAny_loadPart'
noncomputable abbrev xN_:=@List.getElem_append_left
noncomputable abbrev xO_:=@PySem.F.entry_tuple_add
noncomputable abbrev xP_:=@if_false
noncomputable abbrev xQ_:=@List.nil_append
noncomputable abbrev xR_:=@List.getElem?_cons_zero
noncomputable abbrev xS_:=@PySem.wpAny_attempt
noncomputable abbrev xT_:=@Bool.false_eq_true
noncomputable abbrev xU_:=@Nat.min_eq_left
noncomputable abbrev xV_:=@List.getElem_range
noncomputable abbrev xW_:=@Int.eq_ofNat_of_zero_le
noncomputable abbrev xX_:=@List.set_eq_take_append_cons_drop
noncomputable abbrev xY_:=@PySem.W.cellsFrom_some
noncomputable abbrev xZ_:=@PySem.F.slot_tuple_add
noncomputable abbrev x0_:=@PySem.Calls.callWith_builtin
noncomputable abbrev x1_:=@List.drop_of_length_le
noncomputable abbrev x2_:=@PySem.wpAny_pyIter_list
noncomputable abbrev x3_:=@Int.le_refl
noncomputable abbrev x4_:=@Int.add_mul
noncomputable abbrev x5_:=@PySem.wpAny_pyIter_enum
noncomputable abbrev x6_:=@Int.mul_add
noncomputable abbrev x7_:=@List.pairwise_map
noncomputable abbrev x8_:=@Int.mul_nonneg
noncomputable abbrev x9_:=@Nat.le_of_lt
noncomputable abbrev za_:=@PySem.wpAny_notOrdered_dict
noncomputable abbrev zb_:=@PySem.wpAny_isOneOf_keyiter
noncomputable abbrev zc_:=@Int.pow_succ
noncomputable abbrev zd_:=@Int.add_zero
noncomputable abbrev ze_:=@Int.sub_emod
noncomputable abbrev zf_:=@Int.mul_ediv_add_emod
noncomputable abbrev zg_:=@PyProof.Rows.boot_max
noncomputable abbrev zh_:=@PySem.F.slot_tuple_mul
noncomputable abbrev zi_:=@Nat.le_add_right
noncomputable abbrev zj_:=@List.cons_append
noncomputable abbrev zk_:=@PySem.F.args_list_append_2
noncomputable abbrev zl_:=@PySem.wpAny_pyIter_keyiter
noncomputable abbrev zm_:=@PySem.Paired.length
noncomputable abbrev zn_:=@beq_eq_false_iff_ne
noncomputable abbrev zo_:=@List.filterMap_cons
noncomputable abbrev zp_:=@List.append_nil
noncomputable abbrev zq_:=@List.nodup_cons
noncomputable abbrev zr_:=@PySem.F.slot_int_rmul
noncomputable abbrev zs_:=@List.length_nil
noncomputable abbrev zt_:=@Int.one_mul
noncomputable abbrev zu_:=@List.mem_map_of_mem
noncomputable abbrev zv_:=@List.mem_filterMap
noncomputable abbrev zw_:=@PySem.W.callWith_K
noncomputable abbrev zx_:=@List.set_cons_zero
noncomputable abbrev zy_:=@List.set_cons_succ
noncomputable abbrev zz_:=@PySem.W.kitx_list
noncomputable abbrev zA_:=@List.append_assoc
noncomputable abbrev zB_:=@PySem.list_append
noncomputable abbrev zC_:=@beq_iff_eq
noncomputable abbrev zD_:=@Int.mul_one
noncomputable abbrev zE_:=@if_true
noncomputable abbrev zF_:=@Int.sub_mul
noncomputable abbrev zG_:=@Int.dvd_sub
noncomputable abbrev zH_:=@Int.neg_mul
noncomputable abbrev α0:=List (List (List Int))
noncomputable abbrev α1:=List (List Int)
noncomputable abbrev α2:=List Int
noncomputable abbrev α3:=PySem.W.Frag
noncomputable abbrev α5:=Option PySem.Value
noncomputable abbrev α6:=PySem.FuncData
noncomputable abbrev α7:=List (PySem.Addr×PySem.Obj)
end Al
open Al
open PySem.W (nsIn keepIn codeIn fnOf kitOne exmOne)
set_option Elab.async false
set_option linter.all false
set_option maxRecDepth 100000
namespace L2
open PySem PySem.Spec PyProof.Rows
noncomputable abbrev Key:=Sum Int Str
noncomputable def Xd:Key->Value->Bool
 |.inl k,v=>Value.isInt k v
 |.inr x,v=>Value.isStrOf x v
noncomputable def keyH (w:World):Key->Int
 |.inl k=>hashInt k
 |.inr x=>hashStr w x
theorem Cw:∀{k:Key} {v:Value},Xd k v=true->(∃i t,k=Sum.inl i/\v=Value.int i t)\/(∃x t,k=Sum.inr x/\v=Value.str x t)
 |.inl i,v,h=>by
  obtain⟨t,e⟩:=Value.isInt_shape (k:=i) (v:=v) h
  exact .inl ⟨i,t,rfl,e⟩
 |.inr x,v,h=>by
  obtain⟨t,e⟩:=Value.isStrOf_shape (x:=x) (v:=v) h
  exact .inr ⟨x,t,rfl,e⟩
theorem Ar_ (i:Int)(t:Tok):Xd (.inl i) (.int i t)=true:=by simp[Xd,Value.isInt]
theorem As_ (x:Str)(t:Tok):Xd (.inr x) (.str x t)=true:=by simp[Xd,Value.isStrOf]
theorem Gl_ (a b:Int):decide ((Sum.inl a:Key)=Sum.inl b)=(a==b):=by
 by_cases e:a=b
 ·subst e;simp
 ·have h:¬ (Sum.inl a:Key)=Sum.inl b:=fun q=>e (Sum.inl.inj q)
  rw[qj_ h]
  exact (zn_.mpr e).symm
theorem Gm_ (a b:Str):decide ((Sum.inr a:Key)=Sum.inr b)=decide (a=b):=by
 by_cases e:a=b
 ·subst e;simp
 ·have h:¬ (Sum.inr a:Key)=Sum.inr b:=fun q=>e (Sum.inr.inj q)
  rw[qj_ h,qj_ e]
theorem Gn_ (a:Int)(b:Str):decide ((Sum.inl a:Key)=Sum.inr b)=false:=qj_ (fun q=>nomatch q)
theorem Go_ (a:Str)(b:Int):decide ((Sum.inr a:Key)=Sum.inl b)=false:=qj_ (fun q=>nomatch q)
noncomputable def CG (prog:Program)(w:World):PySem.KeyKind prog w Key where
 is:=Xd
 hash:=keyH w
 inj:=fun v a b ha hb=>by
  rcases Cw ha with ⟨i,t,rfl,rfl⟩|⟨x,t,rfl,rfl⟩
  ·rcases Cw hb with ⟨j,u,rfl,e⟩|⟨y,u,rfl,e⟩
   ·injection e with e1 _;rw[e1]
   ·exact nomatch e
  ·rcases Cw hb with ⟨j,u,rfl,e⟩|⟨y,u,rfl,e⟩
   ·exact nomatch e
   ·injection e with e1 _;rw[e1]
 byValue:=fun k v h=>by
  rcases Cw h with ⟨i,t,rfl,rfl⟩|⟨x,t,rfl,rfl⟩<;>rfl
 pyHash:=fun hv h=>by
  rcases Cw hv with ⟨i,t,rfl,rfl⟩|⟨x,t,rfl,rfl⟩
  ·exact wpAny_pyHash_int h
  ·exact wpAny_pyHash_str h
 eqBool:=fun hu hv h=>by
  rcases Cw hu with ⟨i,t,rfl,rfl⟩|⟨x,t,rfl,rfl⟩
  ·rcases Cw hv with ⟨j,u,rfl,rfl⟩|⟨y,u,rfl,rfl⟩
   ·rw[Gl_]at h;exact wpAny_eqBool_int h
   ·rw[Gn_]at h;exact SeqAt.EqAt.int_str i t y u _ _ _ _ h
  ·rcases Cw hv with ⟨j,u,rfl,rfl⟩|⟨y,u,rfl,rfl⟩
   ·rw[Go_]at h;exact SeqAt.EqAt.str_int x t j u _ _ _ _ h
   ·rw[Gm_]at h;exact wpAny_eqBool_str h
 «strs» := fun k x t v h=>by
  rcases Cw h with ⟨i,u,rfl,e⟩|⟨y,u,rfl,e⟩
  ·exact nomatch e
  ·injection e with e1 _
   subst e1
   cases v<;>rfl
theorem Xe (prog:Program)(w:World)(i:Int)(t:Tok):(CG prog w).is (.inl i) (.int i t)=true:=Ar_ i t
theorem Xf (prog:Program)(w:World)(x:Str)(t:Tok):(CG prog w).is (.inr x) (.str x t)=true:=As_ x t
inductive V where
 | non|bl (b:Bool)|int (i:Int)|str (x:Str)|byt (b:Array UInt8)|flt (b:UInt64)|ref (a:Addr)|ty (n:String)
 deriving DecidableEq
noncomputable def RelV:V->Value->Prop
 |.non,u=>u=Value.none
 |.bl b,u=>u=Value.bool b
 |.int i,u=>∃t,u=Value.int i t
 |.str x,u=>∃t,u=Value.str x t
 |.byt b,u=>∃t,u=Value.bytes b t
 |.flt b,u=>∃t,u=Value.float b t
 |.ref a,u=>u=Value.ref a
 |.ty n,u=>u=Value.type n
noncomputable abbrev Vals:List V->List Value->Prop:=Paired RelV
theorem Vals.length   (r:Vals xs us):xs.length=us.length:=zm_ r
theorem Vals.get:∀{xs:List V} {us:List Value} {i:Nat} {x:V},Vals xs us->xs[i]?=some x->∃u,us[i]?=some u/\RelV x u
 |_,_,_,_,.nil,e=>by simp at e
 |_,_,0,_,.cons r _,e=>by simp at e;subst e;exact⟨_,rfl,r⟩
 |_,_,i+1,x,.cons _ t,e=>by
  obtain⟨u,h1,h2⟩:=Vals.get (i:=i) (x:=x) t (by simpa using e)
  exact⟨u,by simpa using h1,h2⟩
theorem Vals.set {x:V}{u:Value}(r:RelV x u):∀{xs:List V} {us:List Value} (i:Nat),Vals xs us->Vals (xs.set i x) (us.set i u)
 |_,_,_,.nil=>.nil
 |_,_,0,.cons _ t=>.cons r t
 |_,_,i+1,.cons q t=>.cons q (Vals.set r i t)
theorem Vals.append:∀{xs ys:List V} {us ws:List Value},Vals xs us->Vals ys ws->Vals (xs++ys) (us++ws)
 |_,_,_,_,.nil,s=>s
 |_,_,_,_,.cons r t,s=>.cons r (Vals.append t s)
theorem Vals.take:∀{xs:List V} {us:List Value} (n:Nat),Vals xs us->Vals (xs.take n) (us.take n)
 |_,_,0,_=>.nil
 |_,_,_+1,.nil=>.nil
 |_,_,n+1,.cons r t=>.cons r (Vals.take n t)
theorem Vals.drop:∀{xs:List V} {us:List Value} (n:Nat),Vals xs us->Vals (xs.drop n) (us.drop n)
 |_,_,0,r=>r
 |_,_,_+1,.nil=>.nil
 |_,_,n+1,.cons _ t=>Vals.drop n t
noncomputable def RelO:Option V->α5->Prop
 |some v,some u=>RelV v u
 |none,none=>True
 |_,_=>False
noncomputable def KV {κ:Type}:List (κ×V)->List (κ×Value)->Prop:=Paired fun (p:κ×V) (q:κ×Value)=>p.1=q.1/\RelV p.2 q.2
noncomputable def kV:Key->V
 |.inl i=>.int i
 |.inr x=>.str x
inductive HO where
 | lst (xs:List V)
 | tup (xs:List V)
 | dK (kvs:List (Key×V))|dT (kvs:List (List Key×V))
 | set (S:Int->Bool) (n:Nat)
 | ins (C dx:Addr) (fs:List (Str×V))
 | own (x:Addr)
 | xd (fs:List (Str×V))
 | met (f x:Addr)
 | rng (lo hi:Int)
 | frz (o:Obj) (u:HO)
 | tbl (ps:Array Value)
 | ext (φ:Heap->Prop)
noncomputable abbrev Hp:=Addr->Option HO
noncomputable def upd (H:Hp)(a:Addr)(o:HO):Hp:=fun b=>if b=a then some o else H b
theorem Ac    : upd H a o a=some o:=by unfold upd;rw[if_pos rfl]
theorem AD    (h:b≠a):upd H a o b=H b:=by unfold upd;rw[if_neg h]
theorem Fc_    : upd (upd H a o) a u=upd H a u:=by
 funext b;unfold upd;split<;>rfl
theorem Ig_ {H:Hp}{a b:Addr}{o u:HO}(h:H a=some o)(h':H b=some u)(d:o≠u):a≠b:=by
 intro e;subst e;rw[h]at h';exact d (jB_ h')
theorem Bu {H:Hp}{a b:Addr}{o:HO}(h:H a=some o)(h':H b=none):a≠b:=by
 intro e;subst e;rw[h]at h';cases h'
section
variable (P:Program) (w:World)
noncomputable def Bz (H:Hp)(h:Heap)(a:Addr):HO->Prop
 |.lst xs=>xs.length<=sizeLine/\∃(its:List Value) (n:Nat),Vals xs its/\h.get? a=some {cls:=.type "list",data:=.seq its.toArray n}
 |.tup xs=>xs.length<=sizeLine/\∃its:List Value,Vals xs its/\IsTup h a its.toArray
 |.dK kvs=>kvs.length<=sizeLine/\(a==sysModules)=false/\∃vs,KV kvs vs/\h.DictOf (CG P w) a vs
 |.dT kvs=>kvs.length<=sizeLine/\(a==sysModules)=false/\∃xs:List (List Key×Addr×Value),
   Paired (fun (p:List Key×V) (q:List Key×Addr×Value)=>p.1=q.1/\H q.2.1=some (.tup (p.1.map kV))/\RelV p.2 q.2.2) kvs xs /\
   ∃o es ep,h.get? a=some o/\o.ExactDict/\o.data=.dict es ep/\es.toList=xs.map (entryOfKey (tupleKind (CG P w)))/\(xs.map (·.1)).Nodup
 |.set S n=>h.SetOf (intKind P w) a S n
 |.ins C dx fs=>H dx=some (.own a)/\fs.length<=1000/\dx≠a/\h.get? a=some (PySem.W.instObj C dx) /\
   ∃mA,h.Ns1 dx mA/\(∀f,RelO (fs.lookup f) (mA f))/\PySem.Within mA (fs.map (·.1))
 |.own _=>∃o,h.get? a=some o
 |.xd fs=>∃mA,h.Ns1 a mA/\∀f,RelO (fs.lookup f) (mA f)
 |.rng lo hi=>∃t u v,h.get? a=some {cls:=.type "range",data:=.fields #[.int lo t,.int hi u,.int 1 v]}
 |.frz o u=>h.get? a=some o/\Bz H h a u
 |.tbl ps=>h.get? a=some {cls:=.none,data:=.fields ps}
 |.met f x=>h.get? a=some (PySem.W.methodObj (.ref f) (.ref x))
 |.ext φ=>φ h/\(∃o,h.get? a=some o)/\∀h1 h2:Heap,φ h1->(∀o,h1.get? a=some o->h2.get? a=some o)->φ h2
noncomputable def HOk (H:Hp)(h:Heap):Prop:=∀a o,H a=some o->Bz P w H h a o
end
section
variable {P:Program} {w:World} {H H':Hp} {h h':Heap} {a:Addr} {o:HO}
theorem Bz.lt (x:Bz P w H h a o):a<h.objs.size:=by
 cases o with
 |lst xs=>obtain⟨_,_,_,_,e⟩:=x;exact jp_ e
 |tup xs=>obtain⟨_,_,_,p⟩:=x;exact p.lt
 |dK kvs=>obtain⟨_,_,_,_,o,_,_,e,_⟩:=x;exact jp_ e
 |dT kvs=>obtain⟨_,_,_,_,o,_,_,e,_⟩:=x;exact jp_ e
 |set S n=>obtain⟨o,_,_,_,e,_⟩:=x;exact jp_ e
 |ins C dx fs=>obtain⟨_,_,_,e,_⟩:=x;exact jp_ e
 |own y=>obtain⟨_,e⟩:=x;exact jp_ e
 |xd fs=>obtain⟨_,⟨_,_,_,e,_⟩,_⟩:=x;exact jp_ e
 |rng lo hi=>obtain⟨_,_,_,e⟩:=x;exact jp_ e
 |frz ob u=>obtain⟨e,_⟩:=x;exact jp_ e
 |tbl ps=>exact jp_ (show h.get? a=some _ from x)
 |met f y=>exact jp_ (show h.get? a=some _ from x)
 |ext φ=>obtain⟨_,⟨_,e⟩,_⟩:=x;exact jp_ e
theorem Paired.mapP {α β:Type}{F G:α->β->Prop}:∀{l₁:List α} {l₂:List β},Paired F l₁ l₂->(∀a b,F a b->G a b)->Paired G l₁ l₂
 |_,_,.nil,_=>.nil
 |_,_,.cons r t,f=>.cons (f _ _ r) (Paired.mapP t f)
theorem Bz.stay (x:Bz P w H h a o)(k:∀b u,(b=a\/H b=some (.own a))->h.get? b=some u->h'.get? b=some u)
  (ho:∀b,H b=some (.own a)->H' b=some (.own a)) (ht:∀b xs,H b=some (.tup xs)->H' b=some (.tup xs)):Bz P w H' h' a o:=by
 induction o with
 |lst xs=>obtain⟨z,its,n,r,e⟩:=x;exact⟨z,its,n,r,k _ _ (.inl rfl) e⟩
 |tup xs=>obtain⟨z,its,r,ob,e,c⟩:=x;exact⟨z,its,r,ob,k _ _ (.inl rfl) e,c⟩
 |dK kvs=>obtain⟨z,y,vs,r,ob,es,ep,e,c⟩:=x;exact⟨z,y,vs,r,ob,es,ep,k _ _ (.inl rfl) e,c⟩
 |dT kvs=>
  obtain⟨z,y,xs,r,ob,es,ep,e,c⟩:=x
  exact⟨z,y,xs,Paired.mapP r fun p q z=>⟨z.1,ht _ _ z.2.1,z.2.2⟩,ob,es,ep,k _ _ (.inl rfl) e,c⟩
 |set S n=>obtain⟨ob,es,ep,t,e,c⟩:=x;exact⟨ob,es,ep,t,k _ _ (.inl rfl) e,c⟩
 |ins C dx fs=>
  obtain⟨d,z,ne,e,mA,⟨od,es,ep,e2,c⟩,r⟩:=x
  exact⟨ho _ d,z,ne,k _ _ (.inl rfl) e,mA,⟨od,es,ep,k _ _ (.inr d) e2,c⟩,r⟩
 |own y=>obtain⟨ob,e⟩:=x;exact⟨ob,k _ _ (.inl rfl) e⟩
 |xd fs=>obtain⟨mA,⟨od,es,ep,e,c⟩,r⟩:=x;exact⟨mA,⟨od,es,ep,k _ _ (.inl rfl) e,c⟩,r⟩
 |rng lo hi=>obtain⟨t,u,v,e⟩:=x;exact⟨t,u,v,k _ _ (.inl rfl) e⟩
 |frz ob u ih=>obtain⟨e,q⟩:=x;exact⟨k _ _ (.inl rfl) e,ih q⟩
 |tbl ps=>
  have e:h.get? a=some {cls:=.none,data:=.fields ps}:=x
  show h'.get? a=some {cls:=.none,data:=.fields ps}
  exact k a _ (.inl rfl) e
 |met f y=>
  have e:h.get? a=some (PySem.W.methodObj (.ref f) (.ref y)):=x
  show h'.get? a=some (PySem.W.methodObj (.ref f) (.ref y))
  exact k a _ (.inl rfl) e
 |ext φ=>obtain⟨p,⟨o,e⟩,st⟩:=x;exact⟨st _ _ p fun o q=>k _ _ (.inl rfl) q,⟨o,k _ _ (.inl rfl) e⟩,st⟩
theorem HOk.lt (x:HOk P w H h)(e:H a=some o):a<h.objs.size:=(x a o e).lt
theorem HOk.fresh (x:HOk P w H h)(e:h.objs.size<=a):H a=none:=by
 cases q:H a with
 |none=>rfl
 |some u=>exact absurd (jw_ (x.lt q) e) (jW_ _)
theorem HOk.kept (x:HOk P w H h)(k:∀b u,h.get? b=some u->h'.get? b=some u):HOk P w H h':=fun a o e=>
 (x a o e).stay (fun b u _ q=>k b u q) (fun _ q=>q) fun _ _ q=>q
theorem HOk.laid (x:HOk P w H h)(k:∀b u,h.get? b=some u->h'.get? b=some u)(hp:h.objs.size<=a)(new:Bz P w (upd H a o) h' a o):HOk P w (upd H a o) h':=fun b u e=>by
 have hn:=x.fresh hp
 by_cases hb:b=a
 ·subst hb;rw[Ac]at e;cases e;exact new
 ·rw[AD hb]at e
  exact (x b u e).stay (fun c v _ q=>k c v q) (fun c q=>by rw[AD (Bu q hn)];exact q) fun c xs q=>by rw[AD (Bu q hn)];exact q
end
noncomputable def Rd (H:Hp)(a:Addr)(u:HO):Prop:=H a=some u \/ ∃o,H a=some (.frz o u)
theorem Rd.ok       (r:Rd H a u)(x:HOk P w H h):Bz P w H h a u:=by
 rcases r with r|⟨o,r⟩
 ·exact x a u r
 ·obtain⟨_,q⟩:=x a _ r
  exact q
noncomputable def Mut:Option HO->Prop
 |some (.lst _)=>True
 |some (.dK _)=>True
 |some (.dT _)=>True
 |some (.set _ _)=>True
 |some (.ins _ _ _)=>True
 |some (.ext _)=>True
 |_=>False
section
variable {P:Program} {w:World} {H:Hp} {h h':Heap} {x e:Addr} {o':HO}
theorem HOk.write (ok:HOk P w H h)(mu:Mut (H x))(he:e=x\/H e=some (.own x))(k:∀b u,b≠e->h.get? b=some u->h'.get? b=some u)(heo:∃u,h'.get? e=some u)
  (new:Bz P w (upd H x o') h' x o'):HOk P w (upd H x o') h':=fun b u q=>by
 have nown:∀c y,H c=some (.own y)->c≠x:=fun c y r z=>by subst z;rw[r]at mu;exact mu
 have ntup:∀c xs,H c=some (.tup xs)->c≠x:=fun c xs r z=>by subst z;rw[r]at mu;exact mu
 by_cases hb:b=x
 ·subst hb;rw[Ac]at q;cases q;exact new
 ·rw[AD hb]at q
  by_cases hbe:b=e
  ·have q':H b=some (.own x):=by
    rcases he with z|z
    ·exact absurd (hbe.trans z) hb
    ·rw[hbe];exact z
   rw[q]at q';cases q'
   obtain⟨v,hv⟩:=heo
   exact⟨v,by rw[hbe];exact hv⟩
  ·refine (ok b u q).stay (fun c v hc r=>k c v ?_ r) (fun c r=>by rw[AD (nown c b r)];exact r) fun c xs r=>by rw[AD (ntup c xs r)];exact r
   rcases hc with rfl|hc
   ·exact hbe
   ·rintro rfl
    rcases he with z|z
    ·exact nown c b hc z
    ·rw[hc]at z;cases z;exact hb rfl
end
structure Un (fs ex:List Addr)(H H':Hp)(h h':Heap):Prop where
 keep:∀b o,h.get? b=some o->H b=none->b∉fs->b∉ex->h'.get? b=some o
 slot:∀b o,h.get? b=some o->H b=none->b∈fs->b∉ex->∃sl,h'.get? b=some {o with slots:=sl}
 free:∀b o,h.get? b=some o->H b=none->b∉ex->H' b=none
 there:∀b o,h.get? b=some o->b∉ex->∃o',h'.get? b=some o'
 tups:∀b xs,H b=some (.tup xs)->H' b=some (.tup xs)
 frzs:∀b o u,H b=some (.frz o u)->H' b=some (.frz o u)
 tbls:∀b ps,H b=some (.tbl ps)->∃more,H' b=some (.tbl (ps++more))
section
variable {fs fs' ex ex':List Addr} {H H1 H2:Hp} {h h1 h2 h':Heap} {a x e:Addr} {o:HO}
theorem Un.any (u:Un fs ex H H1 h h1)   (q:h.get? b=some ob)(n:H b=none)(hx:b∉ex):∃sl,h1.get? b=some {ob with slots:=sl}:=by
 by_cases hb:b∈fs
 ·exact u.slot b ob q n hb hx
 ·exact⟨ob.slots,u.keep b ob q n hb hx⟩
theorem Un.kept (k:∀b u,h.get? b=some u->h'.get? b=some u):Un fs ex H H h h' :=
 ⟨fun b ob q _ _ _=>k b ob q,fun b ob q _ _ _=>⟨ob.slots,k b ob q⟩,fun _ _ _ n _=>n,fun b ob q _=>⟨ob,k b ob q⟩,fun _ _ q=>q,fun _ _ _ q=>q,fun _ ps q=>⟨#[],by rw[q];simp⟩⟩
theorem Un.refl:Un fs ex H H h h:=Un.kept fun _ _ q=>q
theorem Un.laid (k:∀b u,h.get? b=some u->h'.get? b=some u)(hp:h.objs.size<=a)(hn:H a=none):Un fs ex H (upd H a o) h h' where
 keep:=fun b u q _ _ _=>k b u q
 slot:=fun b u q _ _ _=>⟨u.slots,k b u q⟩
 free:=fun b u q n _=>by rw[AD (jG_ (jw_ (jp_ q) hp))];exact n
 there:=fun b u q _=>⟨u,k b u q⟩
 tups:=fun b xs q=>by rw[AD (Bu q hn)];exact q
 frzs:=fun b u xs q=>by rw[AD (Bu q hn)];exact q
 tbls:=fun b ps q=>⟨#[],by rw[AD (Bu q hn),q];simp⟩
theorem Un.write (mu:Mut (H x))(he:e=x\/H e=some (.own x))(k:∀b u,b≠e->h.get? b=some u->h'.get? b=some u)(heo:∃u,h'.get? e=some u):Un fs ex H (upd H x o) h h':=by
 have hx:∀b,H b=none->b≠x:=fun b n z=>by subst z;rw[n]at mu;exact mu
 have hb:∀b,H b=none->b≠e:=fun b n z=>by
  subst z
  rcases he with r|r
  ·exact hx b n r
  ·rw[n]at r;cases r
 have hm:∀b u,H b=some u->¬ Mut (some u)->b≠x:=fun b u q nm z=>by subst z;rw[q]at mu;exact nm mu
 refine⟨fun b u q n _ _=>k b u (hb b n) q,fun b u q n _ _=>⟨u.slots,k b u (hb b n) q⟩,fun b u q n _=>by rw[AD (hx b n)];exact n,fun b u q _=>?_,
  fun b xs q=>by rw[AD (hm b _ q fun z=>z)];exact q,fun b u xs q=>by rw[AD (hm b _ q fun z=>z)];exact q,fun b ps q=>⟨#[],by rw[AD (hm b _ q fun z=>z),q];simp⟩⟩
 by_cases hbe:b=e
 ·subst hbe;exact heo
 ·exact⟨u,k b u hbe q⟩
end
noncomputable def trk (h:Heap)(H:Hp):List Addr:=(List.range h.objs.size).filter fun a=>(H a).isSome
noncomputable def hidT (h:Heap)(H:Hp):Heap:=PySem.W.hideAll h (trk h H)
theorem At_ (h:Heap)(H:Hp):(hidT h H).objs.size=h.objs.size:=PySem.W.hideAll_size _ _
theorem Co_     (e:h.get? b=some o)(n:H b=none):(hidT h H).get? b=some o:=
 PySem.W.hideAll_get _ e fun hm=>by
  have q:(H b).isSome=true:=(xc_.mp hm).2
  rw[n]at q;simp at q
theorem Fd_     (e:(hidT h H).get? b=some o):h.get? b=some o/\H b=none:=by
 have e':h.get? b=some o:=PySem.W.of_hideAll (trk h H) e
 refine⟨e',?_⟩
 cases q:H b with
 |none=>rfl
 |some x=>
  have hm:b∈trk h H:=xc_.mpr ⟨j9_.mpr (jp_ e'),by simp[q]⟩
  have z:(hidT h H).get? b=none:=PySem.W.hideAll_none (trk h H) hm
  rw[z]at e;cases e
noncomputable def Fe_ (g h:Heap)(L:Addr):α7:=(List.range h.objs.size).filterMap fun a=>if a=L\/(g.get? a).isSome=true then none else (h.get? a).map fun o=>(a,o)
noncomputable def rest (g h:Heap)(L d:Addr):α7:=(Fe_ g h L).filter fun p=>decide (p.1≠d)
end L2
namespace L2
open PySem PySem.Spec PyProof.Rows
structure Mod (K:α3)(mg:Str->α5)(base:Heap):Prop where
 kin:K.In base
 glob:base.Ns mainGlobals mg
 blt:∃mb,base.Ns builtinsNs mb/\∀x:Str,x ≠ "__name__" -> mb x=bootBuiltins x
 nolimit:base.NoLimit
structure Cx where
 prog:Program
 w:World
 K:α3
 mg:Str->α5
 base:Heap
 A:Around
 N:List Str
 s₀:Shared
 H₀:Hp
 env:Env
 outer:List Env
 stack:List Env
 ex:List Addr
 fn:Str->Bool
 calm:Bool
 pn:α7
 xe:Value->Shared->Prop
noncomputable def frs (l:List Env):List Addr:=l.filterMap (·.frame)
noncomputable abbrev Cx.fs (X:Cx):List Addr:=frs X.outer
noncomputable def Vis (sc:Scope)(x:Str):Prop:=sc.names.lookup x=some .local\/sc.names.lookup x=some .cell\/sc.names.lookup x=some .free
noncomputable def Loc (sc:Scope)(x:Str):Prop:=sc.names.lookup x=some .local\/sc.names.lookup x=some .cell
noncomputable def Look (env:Env)(h:Heap)(m:Str->α5)(x:Str)(u:Value):Prop:=
 (env.kindOf x=some .local/\m x=some u)\/((env.kindOf x=some .cell\/env.kindOf x=some .free)/\∃c,env.cells.lookup x=some c/\h.IsCell c (some u))
structure Cx.Ok (X:Cx):Prop where
 mod:Mod X.K X.mg X.base
 kind:X.env.scope.kind=.function
 glob:X.env.globals=mainGlobals
 blt:X.env.builtins=builtinsNs
 above:X.s₀.heap.objs.size<=X.env.locals
 inj:∀x y c,X.env.cells.lookup x=some c->X.env.cells.lookup y=some c->x=y
 has:∀x,(X.env.kindOf x=some .cell\/X.env.kindOf x=some .free)->∃c,X.env.cells.lookup x=some c
 cab:∀x c,X.fn x=true->X.env.cells.lookup x=some c->X.s₀.heap.objs.size<=c
 hd:X.calm=true->X.A.handled=none
 frames:X.A.frames=some X.stack
 stk:X.stack=X.outer\/(X.stack=X.env::X.outer/\X.env.frame=some X.env.locals)
 exf:∀b∈X.ex,b≠X.env.locals/\∀x c,X.env.cells.lookup x=some c->c≠b
 bs:∀b o,X.base.get? b=some o->X.s₀.heap.get? b=some o/\X.H₀ b=none
 bsz:X.base.objs.size<=X.s₀.heap.objs.size
 noex:∀b o,X.base.get? b=some o->b∉X.ex
 exfs:∀b∈X.ex,b∉X.fs
 funs:X.s₀.heap.FunFrames X.base X.outer
 frf:∀b∈X.fs,X.H₀ b=none
structure Inv (X:Cx)(pins:α7)(σ:List (Option V))(H:Hp)(s:Shared):Prop where
 ok:X.Ok
 os:s.os=X.s₀.os
 bare:AllBare s.gens
 base:Un X.fs X.ex X.H₀ H X.s₀.heap s.heap
 loc:∃m,s.heap.Ns X.env.locals m/\∀(i:Nat) (x:Str) (v:V),X.N[i]?=some x->σ[i]?=some (some v)->Vis X.env.scope x->∃u,RelV v u/\Look X.env s.heap m x u
 cell:∀x c,X.env.cells.lookup x=some c->∃v,s.heap.IsCell c v
 free:H X.env.locals=none
 freeC:∀x c,X.env.cells.lookup x=some c->H c=none
 pin:∀p∈X.pn++pins,s.heap.get? p.1=some p.2/\H p.1=none/\p.1≠X.env.locals/\p.1∉X.fs/\∀v,p.2.data ≠ .cell v
 hok:HOk X.prog X.w H s.heap
 len:σ.length=X.N.length
section
variable {X:Cx} {pins:α7} {σ:List (Option V)} {H H':Hp} {s:Shared} {h':Heap}
theorem Cx.Ok.nofr (ok:X.Ok)   (e:X.base.get? b=some o):b∉X.fs:=fun hb=>by
 have:=(ok.funs.mem hb).1
 rw[e]at this;cases this
theorem Inv.bs (I:Inv X pins σ H s):∀b o,X.base.get? b=some o->s.heap.get? b=some o/\H b=none:=fun b o e=>
 ⟨I.base.keep b o (I.ok.bs b o e).1 (I.ok.bs b o e).2 (I.ok.nofr e) (I.ok.noex b o e),I.base.free b o (I.ok.bs b o e).1 (I.ok.bs b o e).2 (I.ok.noex b o e)⟩
theorem Inv.bk (I:Inv X pins σ H s):∀b o,X.base.get? b=some o->s.heap.get? b=some o:=fun b o e=>(I.bs b o e).1
theorem Inv.mod (I:Inv X pins σ H s):Mod X.K X.mg X.base:=I.ok.mod
theorem Inv.kIn (I:Inv X pins σ H s):X.K.In s.heap:=I.ok.mod.kin.keeps I.bk
theorem Inv.lt (I:Inv X pins σ H s):X.env.locals<s.heap.objs.size:=let ⟨_,hn,_⟩:=I.loc;hn.lt
theorem Inv.sz (I:Inv X pins σ H s):X.s₀.heap.objs.size<=s.heap.objs.size:=jV_ I.ok.above (x9_ I.lt)
theorem Inv.nofs (I:Inv X pins σ H s)  (h:s.heap.objs.size<=a):a∉X.fs:=fun hb=>by
 obtain⟨_,o,ho,_⟩:=I.ok.funs.mem hb
 exact absurd (jw_ (jp_ ho) (jV_ I.sz h)) (jW_ _)
theorem Inv.cne (I:Inv X pins σ H s):∀x c,X.env.cells.lookup x=some c->c≠X.env.locals:=fun x c e z=>by
 obtain⟨v,o,ho,hd⟩:=I.cell x c e
 obtain⟨m,⟨o',es,ep,ho',hd',_⟩,_⟩:=I.loc
 rw[z,ho']at ho;cases ho;rw[hd']at hd;cases hd
theorem Inv.funs (I:Inv X pins σ H s):s.heap.FunFrames X.base X.outer:=by
 have all:∀(l:List Env),(∀b∈frs l,b∈X.fs)->X.s₀.heap.FunFrames X.base l->s.heap.FunFrames X.base l:=by
  intro l
  induction l with
  |nil=>intro _ _;trivial
  |cons env r ih=>
   intro hs hl
   obtain⟨hk,⟨L,o,hf,hn,ho,hd⟩,hr⟩:=hl
   have hL:L∈X.fs:=hs L (by unfold frs;rw[zo_,hf];exact jC_)
   obtain⟨sl,e⟩:=I.base.slot L o ho (I.ok.frf L hL) hL fun z=>I.ok.exfs L z hL
   exact⟨hk,⟨L,_,hf,hn,e,hd⟩,ih (fun b hb=>hs b (by unfold frs;rw[zo_,hf];exact jt_ _ hb)) hr⟩
 exact all X.outer (fun _ hb=>hb) I.ok.funs
theorem Inv.stack (I:Inv X pins σ H s):s.heap.FunFrames X.base X.stack:=by
 rcases I.ok.stk with e|⟨e,hf⟩
 ·rw[e];exact I.funs
 ·rw[e]
  obtain⟨m,hn,_⟩:=I.loc
  refine .cons (by rw[I.ok.kind];decide) hf hn ?_ I.funs
  exact Heap.get?_none_of_le (jV_ I.ok.bsz I.ok.above)
theorem Inv.stkSub (I:Inv X pins σ H s):∀b∈frs X.stack,b∈X.env.locals::X.fs:=fun b hb=>by
 rcases I.ok.stk with e|⟨e,hf⟩
 ·rw[e]at hb;exact jt_ _ hb
 ·rw[e]at hb
  unfold frs at hb
  rw[zo_,hf]at hb
  exact hb
theorem Inv.stkFree (I:Inv X pins σ H s):∀b∈frs X.stack,H b=none:=fun b hb=>by
 rcases jL_.mp (I.stkSub b hb) with e|hb
 ·rw[e];exact I.free
 ·obtain⟨_,o,ho,_⟩:=I.ok.funs.mem hb
  exact I.base.free b o ho (I.ok.frf b hb) fun z=>I.ok.exfs b z hb
theorem Inv.step {g':Array GenState}{t':Nat}{d':Drawn}{ch:List Addr}(I:Inv X pins σ H s)
  (hch:∀b∈ch,(b∈X.ex\/X.s₀.heap.objs.size<=b)/\b≠X.env.locals/\(∀x c,X.env.cells.lookup x=some c->c≠b)/\∀p∈X.pn++pins,p.1≠b)
  (keep:∀b o,b≠X.env.locals->b∉X.fs->b∉ch->s.heap.get? b=some o->H b=none->h'.get? b=some o)
  (slot:∀b o,b≠X.env.locals->b∈X.fs->b∉ch->s.heap.get? b=some o->H b=none->∃sl,h'.get? b=some {o with slots:=sl}) (free:∀b o,b∉ch->s.heap.get? b=some o->H b=none->H' b=none)
  (there:∀b o,b∉ch->s.heap.get? b=some o->∃o',h'.get? b=some o')
  (tups:∀b xs,H b=some (.tup xs)->H' b=some (.tup xs)) (frzs:∀b o u,H b=some (.frz o u)->H' b=some (.frz o u)) (tbls:∀b ps,H b=some (.tbl ps)->∃more,H' b=some (.tbl (ps++more)))
  (ns:∀m,s.heap.Ns X.env.locals m->h'.Ns X.env.locals m) (hok:HOk X.prog X.w H' h') (hg:AllBare g'):
  Inv X pins σ H' {s with heap:=h',gens:=g',drawn:=d',toks:=t' }:=by
 have neL:∀b o,X.s₀.heap.get? b=some o->b≠X.env.locals:=fun b o e=>jG_ (jw_ (jp_ e) I.ok.above)
 have neC:∀b o,X.s₀.heap.get? b=some o->b∉X.ex->b∉ch:=fun b o e hx hb=>by
  rcases (hch b hb).1 with z|z
  ·exact hx z
  ·exact absurd (jw_ (jp_ e) z) (jW_ _)
 have cellK:∀x c,X.env.cells.lookup x=some c->∀v,s.heap.IsCell c v->h'.IsCell c v:=fun x c e v ⟨o,ho,hd⟩=>by
  have nch:c∉ch:=fun z=>(hch c z).2.2.1 x c e rfl
  by_cases hc:c∈X.fs
  ·obtain⟨sl,q⟩:=slot c o (I.cne x c e) hc nch ho (I.freeC x c e)
   exact⟨_,q,hd⟩
  ·exact⟨o,keep c o (I.cne x c e) hc nch ho (I.freeC x c e),hd⟩
 refine⟨I.ok,I.os,hg,⟨fun b o e n hb hx=>?_,fun b o e n hb hx=>?_,fun b o e n hx=>?_,fun b o e hx=>?_,fun b xs e=>tups b xs (I.base.tups b xs e),fun b o xs e=>frzs b o xs (I.base.frzs b o xs e),fun b ps e=>?_⟩,?_,fun x c e=>?_,?_,fun x c e=>?_,fun p hp=>?_,hok,I.len⟩
 ·exact keep b o (neL b o e) hb (neC b o e hx) (I.base.keep b o e n hb hx) (I.base.free b o e n hx)
 ·obtain⟨sl,e1⟩:=I.base.slot b o e n hb hx
  obtain⟨sl',e2⟩:=slot b _ (neL b o e) hb (neC b o e hx) e1 (I.base.free b o e n hx)
  exact⟨sl',e2⟩
 ·obtain⟨o',e1⟩:=I.base.there b o e hx
  exact free b o' (neC b o e hx) e1 (I.base.free b o e n hx)
 ·obtain⟨o',e1⟩:=I.base.there b o e hx
  exact there b o' (neC b o e hx) e1
 ·obtain⟨m1,e1⟩:=I.base.tbls b ps e
  obtain⟨m2,e2⟩:=tbls b _ e1
  exact⟨m1++m2,by rw[e2,Array.append_assoc]⟩
 ·obtain⟨m,hn,hl⟩:=I.loc
  refine⟨m,ns m hn,fun i x v e1 e2 e3=>?_⟩
  obtain⟨u,r,l⟩:=hl i x v e1 e2 e3
  refine⟨u,r,?_⟩
  rcases l with l|⟨k,c,e,z⟩
  ·exact .inl l
  ·exact .inr ⟨k,c,e,cellK x c e _ z⟩
 ·obtain⟨v,z⟩:=I.cell x c e
  exact⟨v,cellK x c e v z⟩
 ·obtain⟨m,⟨o,_,_,ho,_⟩,_⟩:=I.loc
  exact free _ o (fun z=>(hch _ z).2.1 rfl) ho I.free
 ·obtain⟨v,o,ho,hd⟩:=I.cell x c e
  exact free c o (fun z=>(hch c z).2.2.1 x c e rfl) ho (I.freeC x c e)
 ·obtain⟨e,n,ne,nf,d⟩:=I.pin p hp
  have nch:p.1∉ch:=fun z=>(hch p.1 z).2.2.2 p hp rfl
  exact⟨keep p.1 p.2 ne nf nch e n,free p.1 p.2 nch e n,ne,nf,d⟩
theorem Inv.un  (I:Inv X pins σ H s)(u:Un X.fs [] H H' s.heap h')(hok:HOk X.prog X.w H' h'):Inv X pins σ H' {s with heap:=h',toks:=t' }:=by
 obtain⟨m,⟨o,es,ep,ho,r⟩,_⟩:=id I.loc
 obtain⟨sl,hL⟩:=u.any ho I.free (by simp)
 exact I.step (g':=s.gens) (d':=s.drawn) (ch:=[]) (fun _ z=>nomatch z) (fun b o _ hb _ e n=>u.keep b o e n hb (by simp)) (fun b o _ hb _ e n=>u.slot b o e n hb (by simp)) (fun b o _ e n=>u.free b o e n (by simp)) (fun b o _ e=>u.there b o e (by simp)) u.tups u.frzs u.tbls (fun m' hm=>by
  obtain⟨o',es',ep',ho',r'⟩:=hm
  rw[ho]at ho';cases ho'
  exact⟨_,es',ep',hL,r'⟩) hok I.bare
theorem Inv.call     (I:Inv X pins σ H s)(u:Un (frs X.stack) ch H H' s.heap h')(hok:HOk X.prog X.w H' h')(hg:AllBare g')
  (hch:∀b∈ch,(b∈X.ex\/X.s₀.heap.objs.size<=b)/\b≠X.env.locals/\(∀x c,X.env.cells.lookup x=some c->c≠b)/\∀p∈X.pn++pins,p.1≠b):
  Inv X pins σ H' {s with heap:=h',gens:=g',drawn:=d',toks:=t' }:=by
 obtain⟨m,⟨o,es,ep,ho,r⟩,_⟩:=id I.loc
 obtain⟨sl,hL⟩:=u.any ho I.free fun z=>(hch _ z).2.1 rfl
 exact I.step (ch:=ch) hch (fun b o hL hb hc e n=>u.keep b o e n (fun z=>(jL_.mp (I.stkSub b z)).elim hL hb) hc) (fun b o _ _ hc e n=>u.any e n hc) (fun b o hc e n=>u.free b o e n hc) (fun b o hc e=>u.there b o e hc) u.tups u.frzs u.tbls (fun m' hm=>by
  obtain⟨o',es',ep',ho',r'⟩:=hm
  rw[ho]at ho';cases ho'
  exact⟨_,es',ep',hL,r'⟩) hok hg
theorem Inv.turned  {it:Addr}(I:Inv X pins σ H s)(k:∀b o,b≠it->s.heap.get? b=some o->h'.get? b=some o)(hn:H it=none)(hL:it≠X.env.locals)
  (h1:it∈X.ex\/X.s₀.heap.objs.size<=it) (h2:∀x c,X.env.cells.lookup x=some c->c≠it) (h3:∀p∈X.pn++pins,p.1≠it):Inv X pins σ H {s with heap:=h',toks:=t' }:=by
 have nit:∀b u,H b=some u->b≠it:=fun b u e z=>by rw[z,hn]at e;cases e
 refine I.step (g':=s.gens) (d':=s.drawn) (ch:=[it]) (fun b hb=>?_) (fun b o _ _ hc e _=>k b o (fun z=>hc (by simp[z])) e) (fun b o _ _ hc e _=>⟨o.slots,k b o (fun z=>hc (by simp[z])) e⟩) (fun _ _ _ _ n=>n)
  (fun b o hc e=>⟨o,k b o (fun z=>hc (by simp[z])) e⟩) (fun _ _ e=>e) (fun _ _ _ e=>e) (fun b ps e=>⟨#[],by rw[e];simp⟩) (fun m hm=>?_) (fun b u e=>?_) I.bare
 ·have e:b=it:=by simpa using hb
  subst e
  exact⟨h1,hL,h2,h3⟩
 ·obtain⟨o,es,ep,ho,r⟩:=hm
  exact⟨o,es,ep,k _ o (qT_ hL) ho,r⟩
 ·refine (I.hok b u e).stay (fun c v hc q=>k c v ?_ q) (fun _ q=>q) fun _ _ q=>q
  rcases hc with z|z
  ·rw[z];exact nit b u e
  ·exact nit c _ z
theorem Inv.tok (I:Inv X pins σ H s)(t:Nat):Inv X pins σ H {s with toks:=t}:=I.un (h':=s.heap) (t':=t) Un.refl I.hok
theorem Inv.kept  (I:Inv X pins σ H s)(k:∀b u,s.heap.get? b=some u->h'.get? b=some u):Inv X pins σ H {s with heap:=h',toks:=t' }:=I.un (Un.kept k) (I.hok.kept k)
theorem Inv.laid    (I:Inv X pins σ H s)(k:∀b u,s.heap.get? b=some u->h'.get? b=some u)(hp:s.heap.objs.size<=a)(new:Bz X.prog X.w (upd H a o) h' a o):
  Inv X pins σ (upd H a o) {s with heap:=h',toks:=t' }:=I.un (Un.laid k hp (I.hok.fresh hp)) (I.hok.laid k hp new)
theorem Inv.write    (I:Inv X pins σ H s)(mu:Mut (H x))(he:e=x\/H e=some (.own x))(k:∀b u,b≠e->s.heap.get? b=some u->h'.get? b=some u)(heo:∃u,h'.get? e=some u)
  (new:Bz X.prog X.w (upd H x o) h' x o):Inv X pins σ (upd H x o) {s with heap:=h',toks:=t' }:=I.un (Un.write mu he k heo) (I.hok.write mu he k heo new)
theorem Inv.pins_of  (I:Inv X pins σ H s)(h:∀p∈pins',s.heap.get? p.1=some p.2/\H p.1=none/\p.1≠X.env.locals/\p.1∉X.fs/\∀v,p.2.data ≠ .cell v):Inv X pins' σ H s:=
 ⟨I.ok,I.os,I.bare,I.base,I.loc,I.cell,I.free,I.freeC,fun p hp=>(jx_.mp hp).elim (fun z=>I.pin p (jY_ _ z)) (h p),I.hok,I.len⟩
theorem So {N:List Str}(hN:N.Nodup){i j:Nat}{x:Str}(a:N[i]?=some x)(b:N[j]?=some x):i=j:=by
 obtain⟨h1,e1⟩:=jd_.mp a
 obtain⟨h2,e2⟩:=jd_.mp b
 exact (List.getElem_inj hN).mp (e1.trans e2.symm)
theorem Vx         (I:Inv X pins σ H s)(hN:X.N.Nodup)(hi:X.N[i]?=some x)(hx:Loc X.env.scope x)(r:RelV v u)
  (h:∀s',Inv X pins (σ.set i (some v)) H s'->(∃a,Heap.SameBut a s.heap s'.heap/\(a=X.env.locals\/X.env.cells.lookup x=some a))->Q () s') (hf:X.fn x=true\/X.env.scope.names.lookup x=some .local:=by first|exact .inl rfl|exact .inr rfl|assumption):wpAny M A (storeName X.env x u) Q E s:=by
 obtain⟨m,hn,hl⟩:=id I.loc
 have hcls:(X.env.scope.kind == .class||(X.env.scope.kind == .module&&X.env.locals != X.env.globals))=false:=by rw[I.ok.kind];rfl
 have hiσ:i<σ.length:=by rw[I.len];exact (jd_.mp hi).1
 have cne:=I.cne
 have tracked:∀{a:Addr} {h':Heap},(∃o,s.heap.get? a=some o/\H a=none)->Heap.SameBut a s.heap h'->HOk X.prog X.w H h':=fun {a h'} ha hs b ob e=>by
  obtain⟨_,_,hfree⟩:=ha
  refine (I.hok b ob e).stay (fun c w' hc q=>(hs.2 c ?_).trans q) (fun _ q=>q) fun _ _ q=>q
  rintro rfl
  rcases hc with rfl|hc
  ·rw[hfree]at e;cases e
  ·rw[hfree]at hc;cases hc
 rcases hx with hk|hk
 ·refine wpAny_storeName_local hk hn (fun h' hn' hs=>?_) hcls
  obtain⟨oL,_,_,hoL,_⟩:=id hn
  refine h _ ⟨I.ok,I.os,I.bare,⟨fun b o e n hb hx=>?_,fun b o e n hb hx=>?_,I.base.free,fun b o e hx=>?_,I.base.tups,I.base.frzs,I.base.tbls⟩,⟨_,hn',fun j y v' e1 e2 e3=>?_⟩,fun y c e=>?_,I.free,I.freeC,fun p hp=>?_,tracked ⟨oL,hoL,I.free⟩ hs,by simpa using I.len⟩ ⟨_,hs,.inl rfl⟩
  ·exact (hs.2 b (jG_ (jw_ (jp_ e) I.ok.above))).trans (I.base.keep b o e n hb hx)
  ·obtain⟨sl,e1⟩:=I.base.slot b o e n hb hx
   exact⟨sl,(hs.2 b (jG_ (jw_ (jp_ e) I.ok.above))).trans e1⟩
  ·obtain⟨o',e1⟩:=I.base.there b o e hx
   exact⟨o',(hs.2 b (jG_ (jw_ (jp_ e) I.ok.above))).trans e1⟩
  ·by_cases hj:j=i
   ·subst hj
    rw[hi]at e1;cases e1
    rw[xn_ hiσ]at e2
    cases e2
    exact⟨u,r,.inl ⟨hk,by simp⟩⟩
   ·rw[xA_ (qT_ hj)]at e2
    obtain⟨u',r',q⟩:=hl j y v' e1 e2 e3
    refine⟨u',r',?_⟩
    rcases q with ⟨k,e⟩|⟨k,c,e,z⟩
    ·refine .inl ⟨k,?_⟩
     have:y≠x:=fun e=>hj (So hN e1 (e ▸ hi))
     simp[this,e]
    ·exact .inr ⟨k,c,e,z.sameBut hs (cne y c e)⟩
  ·obtain⟨w',z⟩:=I.cell y c e
   exact⟨w',z.sameBut hs (cne y c e)⟩
  ·obtain⟨e,n,ne,nf,d⟩:=I.pin p hp
   exact⟨(hs.2 p.1 ne).trans e,n,ne,nf,d⟩
 ·have hfn:X.fn x=true:=by
   rcases hf with z|z
   ·exact z
   ·rw[z]at hk;cases hk
  obtain⟨c,hc⟩:=I.ok.has x (.inl hk)
  obtain⟨w',z⟩:=I.cell x c hc
  refine wpAny_storeName_cell I.ok.kind hk hc z (fun h' hc' hs=>?_)
  obtain⟨oc,hoc,hocd⟩:=id z
  refine h {s with heap:=h' } ⟨I.ok,I.os,I.bare,⟨fun b o e n hb hx=>?_,fun b o e n hb hx=>?_,I.base.free,fun b o e hx=>?_,I.base.tups,I.base.frzs,I.base.tbls⟩,⟨m,hn.sameBut hs (qT_ (cne x c hc)),fun j y v' e1 e2 e3=>?_⟩,fun y c' e=>?_,I.free,I.freeC,fun p hp=>?_,tracked ⟨oc,hoc,I.freeC x c hc⟩ hs,by simpa using I.len⟩ ⟨c,hs,.inr hc⟩
  ·exact (hs.2 b (jG_ (jw_ (jp_ e) (I.ok.cab x c hfn hc)))).trans (I.base.keep b o e n hb hx)
  ·obtain⟨sl,e1⟩:=I.base.slot b o e n hb hx
   exact⟨sl,(hs.2 b (jG_ (jw_ (jp_ e) (I.ok.cab x c hfn hc)))).trans e1⟩
  ·obtain⟨o',e1⟩:=I.base.there b o e hx
   exact⟨o',(hs.2 b (jG_ (jw_ (jp_ e) (I.ok.cab x c hfn hc)))).trans e1⟩
  ·by_cases hj:j=i
   ·subst hj
    rw[hi]at e1;cases e1
    rw[xn_ hiσ]at e2
    cases e2
    exact⟨u,r,.inr ⟨.inl hk,c,hc,hc'⟩⟩
   ·rw[xA_ (qT_ hj)]at e2
    obtain⟨u',r',q⟩:=hl j y v' e1 e2 e3
    refine⟨u',r',?_⟩
    rcases q with q|⟨k,c',e,z'⟩
    ·exact .inl q
    ·refine .inr ⟨k,c',e,z'.sameBut hs ?_⟩
     rintro rfl
     exact hj (So hN e1 (I.ok.inj _ _ _ e hc ▸ hi))
  ·by_cases hcc:c'=c
   ·subst hcc;exact⟨_,hc'⟩
   ·obtain⟨w2,z2⟩:=I.cell y c' e
    exact⟨w2,z2.sameBut hs hcc⟩
  ·obtain⟨e,n,ne,nf,d⟩:=I.pin p hp
   refine⟨(hs.2 p.1 ?_).trans e,n,ne,nf,d⟩
   intro q
   rw[q,hoc]at e
   have q':oc=p.2:=jB_ e
   exact d w' (by rw[<-q'];exact hocd)
theorem Oy         (I:Inv X pins σ H s)(hN:X.N.Nodup)(hi:X.N[i]?=some x)(hx:Loc X.env.scope x)(r:RelV v u)
  (h:∀s',Inv X pins (σ.set i (some v)) H s'->Q () s') (hf:X.fn x=true\/X.env.scope.names.lookup x=some .local:=by first|exact .inl rfl|exact .inr rfl|assumption):wpAny M A (storeName X.env x u) Q E s:=
 Vx I hN hi hx r (fun s' I' _=>h s' I') hf
theorem Inv.call'   (I:Inv X pins σ H s)(ho:s'.os=s.os)(u:Un (frs X.stack) ch H H' s.heap s'.heap)(hok:HOk X.prog X.w H' s'.heap)(hg:AllBare s'.gens)
  (hch:∀b∈ch,(b∈X.ex\/X.s₀.heap.objs.size<=b)/\b≠X.env.locals/\(∀x c,X.env.cells.lookup x=some c->c≠b)/\∀p∈X.pn++pins,p.1≠b):Inv X pins σ H' s':=by
 obtain⟨h',g',d',t',o'⟩:=s'
 have e:o'=s.os:=ho
 subst e
 exact I.call (g':=g') (t':=t') (d':=d') u hok hg hch
end
noncomputable abbrev XK:=Value->Option Addr->Hp->Prop
noncomputable abbrev St:=List (Option V)
noncomputable abbrev VK:=V->Hp->Prop
noncomputable abbrev TE:=St->Hp->VK->Prop
noncomputable abbrev TT:=St->Hp->(Bool->Hp->Prop)->Prop
noncomputable abbrev TA:=St->Hp->(List V->Hp->Prop)->Prop
structure Ends where
 nx:St->Hp->Prop
 rt:VK
 bk:St->Hp->Prop:=fun _ _=>False
 ct:St->Hp->Prop:=fun _ _=>False
noncomputable abbrev TS:=Ends->St->Hp->Prop
noncomputable def EP (X:Cx)(pins:α7)(σ:St)(Q:VK)(u:Value)(s':Shared):Prop:=∃v H',Inv X pins σ H' s'/\RelV v u/\Q v H'
noncomputable def TP (X:Cx)(pins:α7)(σ:St)(Q:Bool->Hp->Prop)(b:Bool)(s':Shared):Prop:=∃H',Inv X pins σ H' s'/\Q b H'
noncomputable def AP (X:Cx)(pins:α7)(σ:St)(Q:List V->Hp->Prop)(us:List Value)(s':Shared):Prop:=∃vs H',Inv X pins σ H' s'/\Vals vs us/\Q vs H'
noncomputable def SP (X:Cx)(pins:α7)(D:Ends)(f:Flow)(s':Shared):Prop:=
 match f with
 |.next=>∃σ' H',Inv X pins σ' H' s'/\D.nx σ' H'
 |.brk=>∃σ' H',Inv X pins σ' H' s'/\D.bk σ' H'
 |.cont=>∃σ' H',Inv X pins σ' H' s'/\D.ct σ' H'
 |.ret u=>∃v σ' H',Inv X pins σ' H' s'/\RelV v u/\D.rt v H'
noncomputable def PE (X:Cx)(e:Expr)(t:TE):Prop:=
 ∀(pins:α7) (s:Shared) (σ:St) (H:Hp) (Q:VK),Inv X pins σ H s->t σ H Q->wpAny (model X.prog X.w) X.A (eval e X.env) (EP X pins σ Q) X.xe s
noncomputable def PT (X:Cx)(e:Expr)(t:TT):Prop:=
 ∀(pins:α7) (s:Shared) (σ:St) (H:Hp) (Q:Bool->Hp->Prop),Inv X pins σ H s->t σ H Q->wpAny (model X.prog X.w) X.A (isTrue e X.env (eval e X.env)) (TP X pins σ Q) X.xe s
noncomputable def PW (X:Cx)(e:Expr)(t:TT):Prop:=
 ∀(whole:Sem Value) (pins:α7) (s:Shared) (σ:St) (H:Hp) (Q:Bool->Hp->Prop),Inv X pins σ H s->t σ H Q->wpAny (model X.prog X.w) X.A (isTrue e X.env whole) (TP X pins σ Q) X.xe s
theorem PW.pt    (h:PW X e t):PT X e t:=h _
noncomputable def PA (X:Cx)(es:List Expr)(t:TA):Prop:=
 ∀(pos:Pos) (pins:α7) (s:Shared) (σ:St) (H:Hp) (Q:List V->Hp->Prop),Inv X pins σ H s->t σ H Q->wpAny (model X.prog X.w) X.A (spliced (backTo pos (starEach es X.env))) (AP X pins σ Q) X.xe s
noncomputable def PS (X:Cx)(st:Stmt)(t:TS):Prop:=
 ∀(pins:α7) (s:Shared) (σ:St) (H:Hp) (D:Ends),Inv X pins σ H s->t D σ H->wpAny (model X.prog X.w) X.A (exec st X.env) (SP X pins D) X.xe s
noncomputable def PSs (X:Cx)(st:List Stmt)(t:TS):Prop:=
 ∀(pins:α7) (s:Shared) (σ:St) (H:Hp) (D:Ends),Inv X pins σ H s->t D σ H->wpAny (model X.prog X.w) X.A (execs st X.env) (SP X pins D) X.xe s
theorem thn        (h:wpAny M A t Q E s)(hQ:∀a s,Q a s->Q' a s):wpAny M A t Q' E s:=qL_ h hQ fun _ _ x=>x
end L2
namespace L2
open PySem PySem.Spec PyProof.Rows
section
variable {X:Cx}
noncomputable def tVar (i:Nat):TE:=fun σ H Q=>∃v,σ[i]?=some (some v)/\Q v H
noncomputable def tC (v:V):TE:=fun _ H Q=>Q v H
theorem Gp_    (hN:X.N[i]?=some x)(hv:Vis X.env.scope x)(hd:(x==("__debug__" : Str))=false:=by decide)(hcd:(x==("__classdict__" : Str))=false:=by decide):PE X (.Name x pos) (tVar i):=by
 intro pins s σ H Q I h
 obtain⟨v,e,h⟩:=h
 obtain⟨m,hn,hl⟩:=I.loc
 obtain⟨u,r,l⟩:=hl i x v hN e hv
 have fin:EP X pins σ Q u s:=⟨v,H,I,r,h⟩
 rcases l with ⟨hk,hm⟩|⟨hk,c,hc,hcell⟩
 ·exact wpAny_Name (wpAny_loadName_local I.ok.kind hk hn hm fin) hd
 ·rcases hk with hk|hk
  ·exact wpAny_Name (wpAny_loadName_cell I.ok.kind hk hc hcell fin) hd
  ·exact wpAny_Name (wpAny_loadName_free I.ok.kind hk hc hcell fin hcd) hd
theorem Ad {i j pos}:PE X (.Constant (.int i) j pos) (tC (.int i)):=fun _ _ _ H _ I h=>wpAny_Constant_int ⟨.int i,H,I.tok _,⟨_,rfl⟩,h⟩
theorem Gu {b j pos}:PE X (.Constant (.bool b) j pos) (tC (.bl b)):=fun _ _ _ H _ I h=>Constant_bool ⟨.bl b,H,I,rfl,h⟩
theorem Gv {j pos}:PE X (.Constant .none j pos) (tC .non):=fun _ _ _ H _ I h=>Constant_none ⟨.non,H,I,rfl,h⟩
theorem X9 {x j pos}:PE X (.Constant (.str x) j pos) (tC (.str x)):=fun _ _ _ H _ I h=>Calls.Constant_str ⟨.str x,H,I.tok _,⟨_,rfl⟩,h⟩
noncomputable def Gl (X:Cx)(x:Str):Prop:=X.env.kindOf x=some .globalImplicit
theorem OH          (I:Inv X pins σ H s)(hg:Gl X x)(hm:X.mg x=some u)(h:Q u s)
  (hd:(x==("__debug__" : Str))=false:=by decide):wpAny (model X.prog X.w) X.A (eval (.Name x pos) X.env) Q E s:=
 Calls.Name_function_global I.ok.kind hg (Calls.loadGlobal_global (by rw[I.ok.glob];exact I.mod.glob.keeps I.bk) hm h) hd
theorem La          (I:Inv X pins σ H s)(hg:Gl X x)(hm:X.mg x=none)(hv:bootBuiltins x=some u)(h:Q u s)
  (hn:x ≠ "__name__" := by decide) (hd:(x==("__debug__" : Str))=false:=by decide):wpAny (model X.prog X.w) X.A (eval (.Name x pos) X.env) Q E s:=by
 obtain⟨mb,h1,h2⟩:=I.mod.blt
 exact Calls.Name_function_global I.ok.kind hg (Calls.loadGlobal_builtin (by rw[I.ok.glob];exact I.mod.glob.keeps I.bk) hm (by rw[I.ok.blt];exact h1.keeps I.bk) ((h2 x hn).trans hv) h) hd
theorem Mm     (hg:Gl X x)(hm:X.mg x=some u)(r:RelV v u)(hd:(x==("__debug__" : Str))=false:=by decide):PE X (.Name x pos) (tC v):=
 fun _ _ _ H _ I h=>OH I hg hm ⟨v,H,I,r,h⟩ hd
theorem Mn     (hg:Gl X x)(hm:X.mg x=none)(hv:bootBuiltins x=some u)(r:RelV v u)(hn:x ≠ "__name__" := by decide)(hd:(x==("__debug__" : Str))=false:=by decide):PE X (.Name x pos) (tC v):=
 fun _ _ _ H _ I h=>La I hg hm hv ⟨v,H,I,r,h⟩ hn hd
variable {a b:Expr} {ta tb:TE} {pos:Pos}
noncomputable def tB (t:TE):TT:=fun σ H Q=>t σ H fun x H1=>∃c,x=.bl c/\Q c H1
theorem Gg   (h:PE X e t)(he:∀whole,isTrue e X.env whole=(do let v <- whole;standAt e.pos;holding [v] (truthy v)):=by intro _;rfl):PT X e (tB t):=by
 intro pins s σ H Q I hw
 refine isTrue_plain (thn (h pins s σ H _ I hw) fun v s1 ⟨x,H1,I1,r1,q1⟩=>?_) (he _)
 obtain⟨d,rfl,q⟩:=q1
 cases r1
 exact q2_ ⟨H1,I1,q⟩
variable {tA tB':TT} {rest:List Expr}
noncomputable def tAnd (t u:TT):TT:=fun σ H Q=>t σ H fun c H1=>if c=true then u σ H1 Q else Q false H1
noncomputable def tOr (t u:TT):TT:=fun σ H Q=>t σ H fun c H1=>if c=true then Q true H1 else u σ H1 Q
noncomputable def tNot (t:TT):TT:=fun σ H Q=>t σ H fun c H1=>Q (!c) H1
theorem Xg (ha:PT X a tA):PW X (.BoolOp .And [a] pos) tA:=by
 intro wh pins s σ H Q I h
 refine isTrue_and (thn (ha pins s σ H Q I h) fun c s1 e=>?_)
 cases c with
 |true=>exact isTrue_and_nil e
 |false=>exact e
theorem Nx (ha:PT X a tA):PW X (.BoolOp .Or [a] pos) tA:=by
 intro wh pins s σ H Q I h
 refine isTrue_or (thn (ha pins s σ H Q I h) fun c s1 e=>?_)
 cases c with
 |false=>exact isTrue_or_nil e
 |true=>exact e
theorem Au_ (ha:PT X a tA)(hb:PW X (.BoolOp .And (b::rest) pos) tB'):PW X (.BoolOp .And (a::b::rest) pos) (tAnd tA tB'):=by
 intro wh pins s σ H Q I h
 refine isTrue_and (thn (ha pins s σ H _ I h) fun c s1 ⟨H1,I1,q1⟩=>?_)
 cases c with
 |true=>exact hb wh pins s1 σ H1 Q I1 q1
 |false=>exact⟨H1,I1,q1⟩
theorem NU (ha:PT X a tA)(hb:PW X (.BoolOp .Or (b::rest) pos) tB'):PW X (.BoolOp .Or (a::b::rest) pos) (tOr tA tB'):=by
 intro wh pins s σ H Q I h
 refine isTrue_or (thn (ha pins s σ H _ I h) fun c s1 ⟨H1,I1,q1⟩=>?_)
 cases c with
 |true=>exact⟨H1,I1,q1⟩
 |false=>exact hb wh pins s1 σ H1 Q I1 q1
theorem Hh (ha:PT X a tA):PT X (.UnaryOp .Not a pos) (tNot tA):=by
 intro pins s σ H Q I h
 exact isTrue_not (ha pins s σ H (fun c H1=>Q (!c) H1) I h)
noncomputable def Gq_ (ta tb:TE):TE:=fun σ H Q=>ta σ H fun x H1=>∃c,x=.bl c/\if c=true then tb σ H1 Q else Q (.bl false) H1
noncomputable def Gr_ (ta:TE):TE:=fun σ H Q=>ta σ H fun x H1=>∃c,x=.bl c/\Q (.bl (!c)) H1
theorem Ya {op}  (h:PE X a t):PE X (.BoolOp op [a] pos) t:=fun pins s σ H Q I hw=>BoolOp_one (h pins s σ H Q I hw)
theorem Vy (ha:PE X a ta)(hb:PE X (.BoolOp .And (b::rest) pos) tb):PE X (.BoolOp .And (a::b::rest) pos) (Gq_ ta tb):=by
 intro pins s σ H Q I h
 refine BoolOp_and (thn (ha pins s σ H _ I h) fun v s1 ⟨x,H1,I1,r1,q1⟩=>?_)
 obtain⟨c,rfl,q1⟩:=q1
 cases r1
 refine q2_ ?_
 cases c with
 |true=>exact hb pins s1 σ H1 Q I1 q1
 |false=>exact⟨.bl false,H1,I1,rfl,q1⟩
theorem DH_ (ha:PE X a ta):PE X (.UnaryOp .Not a pos) (Gr_ ta):=by
 intro pins s σ H Q I h
 refine UnaryOp_ (thn (ha pins s σ H _ I h) fun v s1 ⟨x,H1,I1,r1,q1⟩=>?_)
 obtain⟨c,rfl,q1⟩:=q1
 cases r1
 exact not_of (q2_ ⟨.bl (!c),H1,I1,rfl,q1⟩)
noncomputable def tIf (t:TT)(ta tb:TE):TE:=fun σ H Q=>t σ H fun c H1=>if c=true then ta σ H1 Q else tb σ H1 Q
theorem Sq  (hc:PT X c tA)(ha:PE X a ta)(hb:PE X b tb):PE X (.IfExp c a b pos) (tIf tA ta tb):=by
 intro pins s σ H Q I h
 refine wpAny_IfExp (thn (hc pins s σ H _ I h) fun d s1 ⟨H1,I1,q1⟩=>?_)
 cases d with
 |true=>exact ha pins s1 σ H1 Q I1 q1
 |false=>exact hb pins s1 σ H1 Q I1 q1
end
end L2
namespace L2
open PySem PySem.Spec PyProof.Rows
noncomputable def SqL (K:α3)(H:Hp)(a:Addr)(xs:List V):Prop:=
 Rd H a (.lst xs) \/
  ∃(o:Obj) (its:Array Value) (n:Nat),K.lookup a=some o/\o.cls=.type "list" /\ o.dict=none/\o.data=.seq its n/\its.size<=sizeLine/\Vals xs its.toList
noncomputable def SqT (K:α3)(H:Hp)(a:Addr)(xs:List V):Prop:=
 Rd H a (.tup xs) \/
  ∃(o:Obj) (its:Array Value) (n:Nat),K.lookup a=some o/\o.cls=.type "tuple" /\ o.data=.seq its n/\its.size<=sizeLine/\Vals xs its.toList
noncomputable def absV:Value->Option V
 |.none=>some .non
 |.bool b=>some (.bl b)
 |.int i _=>some (.int i)
 |.str x _=>some (.str x)
 |.bytes b _=>some (.byt b)
 |.float b _=>some (.flt b)
 |.ref a=>some (.ref a)
 |.type n=>some (.ty n)
 |_=>none
theorem RelV.abs   (r:RelV x u):absV u=some x:=by
 cases x with
 |non=>cases r;rfl
 |bl _=>cases r;rfl
 |int _=>obtain⟨t,rfl⟩:=r;rfl
 |str _=>obtain⟨t,rfl⟩:=r;rfl
 |byt _=>obtain⟨t,rfl⟩:=r;rfl
 |flt _=>obtain⟨t,rfl⟩:=r;rfl
 |ref _=>cases r;rfl
 |ty _=>cases r;rfl
theorem RelV.inj   (r:RelV x u)(q:RelV y u):x=y:=jB_ (r.abs.symm.trans q.abs)
theorem Vals.inj:∀{xs ys:List V} {us:List Value},Vals xs us->Vals ys us->xs=ys
 |_,_,_,.nil,.nil=>rfl
 |_,_,_,.cons r t,.cons r' t'=>by rw[r.inj r',Vals.inj t t']
section
variable {X:Cx} {pins:α7} {σ:St} {H:Hp} {s:Shared} {a:Addr} {xs ys:List V}
theorem SqL.of {K:α3}(h:H a=some (.lst xs)):SqL K H a xs:=.inl (.inl h)
theorem SqT.of {K:α3}(h:H a=some (.tup xs)):SqT K H a xs:=.inl (.inl h)
theorem Inv.list (I:Inv X pins σ H s)(h:SqL X.K H a xs):∃its:List Value,Vals xs its/\PlainL s.heap a its.toArray/\xs.length<=sizeLine:=by
 rcases h with h|⟨o,its,n,hk,hc,hd,hs,hz,r⟩
 ·obtain⟨z,its,n,r,e⟩:=h.ok I.hok
  exact⟨its,r,⟨_,n,e,rfl,rfl,rfl⟩,z⟩
 ·refine⟨its.toList,r,⟨o,n,I.kIn a o hk,hc,hd,by simpa using hs⟩,?_⟩
  have e:=r.length
  simp only[qK_]at e
  lia
theorem Inv.tuple (I:Inv X pins σ H s)(h:SqT X.K H a xs):∃its:List Value,Vals xs its/\IsTup s.heap a its.toArray/\xs.length<=sizeLine:=by
 rcases h with h|⟨o,its,n,hk,hc,hs,hz,r⟩
 ·obtain⟨z,its,r,p⟩:=h.ok I.hok
  exact⟨its,r,p,z⟩
 ·refine⟨its.toList,r,⟨o,I.kIn a o hk,hc,n,by simpa using hs⟩,?_⟩
  have e:=r.length
  simp only[qK_]at e
  lia
theorem Inv.list_inj (I:Inv X pins σ H s)(h:SqL X.K H a xs)(h':SqL X.K H a ys):xs=ys:=by
 obtain⟨its,r,⟨o,n,e,_,_,d⟩,_⟩:=I.list h
 obtain⟨its',r',⟨o',n',e',_,_,d'⟩,_⟩:=I.list h'
 rw[e]at e';cases e'
 rw[d]at d'
 injection d' with d1 _
 have:its=its':=by simpa using qY_ Array.toList d1
 subst this
 exact r.inj r'
theorem Inv.tuple_inj (I:Inv X pins σ H s)(h:SqT X.K H a xs)(h':SqT X.K H a ys):xs=ys:=by
 obtain⟨its,r,⟨o,e,_,n,d⟩,_⟩:=I.tuple h
 obtain⟨its',r',⟨o',e',_,n',d'⟩,_⟩:=I.tuple h'
 rw[e]at e';cases e'
 rw[d]at d'
 injection d' with d1 _
 have:its=its':=by simpa using qY_ Array.toList d1
 subst this
 exact r.inj r'
end
noncomputable abbrev Cx.wish (X:Cx)(E:Value->Shared->Prop):Cx:={X with xe:=E}
noncomputable abbrev Cx.nox (X:Cx):Cx:=X.wish fun _ _=>False
theorem Cx.Ok.wish {X:Cx}(ok:X.Ok)(E:Value->Shared->Prop):(X.wish E).Ok:=
 ⟨ok.mod,ok.kind,ok.glob,ok.blt,ok.above,ok.inj,ok.has,ok.cab,ok.hd,ok.frames,ok.stk,ok.exf,ok.bs,ok.bsz,ok.noex,ok.exfs,ok.funs,ok.frf⟩
theorem Cx.Ok.unwish {X:Cx}{E:Value->Shared->Prop}(ok:(X.wish E).Ok):X.Ok:=
 ⟨ok.mod,ok.kind,ok.glob,ok.blt,ok.above,ok.inj,ok.has,ok.cab,ok.hd,ok.frames,ok.stk,ok.exf,ok.bs,ok.bsz,ok.noex,ok.exfs,ok.funs,ok.frf⟩
section
variable {X:Cx} {pins:α7} {σ:St} {H:Hp} {s:Shared} {E:Value->Shared->Prop}
theorem Inv.wish (I:Inv X pins σ H s)(E:Value->Shared->Prop):Inv (X.wish E) pins σ H s:=⟨I.ok.wish E,I.os,I.bare,I.base,I.loc,I.cell,I.free,I.freeC,I.pin,I.hok,I.len⟩
theorem Inv.unwish (I:Inv (X.wish E) pins σ H s):Inv X pins σ H s:=⟨I.ok.unwish,I.os,I.bare,I.base,I.loc,I.cell,I.free,I.freeC,I.pin,I.hok,I.len⟩
theorem SP.unwish    (h:SP (X.wish E) pins D f s'):SP X pins D f s':=by
 cases f with
 |next=>obtain⟨σ',H',I,q⟩:=h;exact⟨σ',H',I.unwish,q⟩
 |brk=>obtain⟨σ',H',I,q⟩:=h;exact⟨σ',H',I.unwish,q⟩
 |cont=>obtain⟨σ',H',I,q⟩:=h;exact⟨σ',H',I.unwish,q⟩
 |ret u=>obtain⟨v,σ',H',I,r,q⟩:=h;exact⟨v,σ',H',I.unwish,r,q⟩
theorem PSs.nox {st:List Stmt}  (h:PSs X.nox st t):PSs X st t:=fun pins s σ H D I hw=>
 qL_ (h pins s σ H D (I.wish _) hw) (fun _ _ q=>q.unwish) fun _ _ z=>False.elim z
end
section
variable {X:Cx} {st:Stmt} {rest:List Stmt} {t u:TS} {e:Expr} {te:TE} {pos:Pos}
noncomputable def Gs_:TS:=fun D σ H=>D.nx σ H
noncomputable def tSeq (t u:TS):TS:=fun D σ H=>t {D with nx:=u D} σ H
theorem AZ:PSs X [] Gs_:=fun _ _ σ H _ I h=>xs_ ⟨σ,H,I,h⟩
theorem Ae (h1:PS X st t)(h2:PSs X rest u):PSs X (st::rest) (tSeq t u):=by
 intro pins s σ H D I h
 refine wpAny_execs_cons (thn (h1 pins s σ H {D with nx:=u D} I h) fun f s1 q=>?_)
 cases f with
 |next=>
  obtain⟨σ',H',I',q⟩:=q
  exact h2 pins s1 σ' H' D I' q
 |ret v=>exact q
 |brk=>exact q
 |cont=>exact q
theorem Ag (h1:PS X st t):PSs X [st] t:=by
 intro pins s σ H D I h
 refine wpAny_execs_cons (thn (h1 pins s σ H D I h) fun f s1 q=>?_)
 cases f with
 |next=>exact xs_ q
 |ret v=>exact q
 |brk=>exact q
 |cont=>exact q
theorem Inv.quiet     (I:Inv X pins σ H s):interactive X.env=false:=by simp[interactive,I.ok.kind]
noncomputable def Gt_ (te:TE):TS:=fun D σ H=>te σ H fun _ H1=>D.nx σ H1
theorem CH (he:PE X e te)(hs:swapsWith e none pos.line X.env=pure false:=by rfl):PS X (.Expr e pos) (Gt_ te):=by
 intro pins s σ H D I h
 exact wpAny_Expr_any (thn (he pins s σ H _ I h) fun v s1 ⟨x,H1,I1,r1,q1⟩=>⟨σ,H1,I1,q1⟩) I.quiet hs
noncomputable def tRet (te:TE):TS:=fun D σ H=>te σ H D.rt
theorem Ay (he:PE X e te):PS X (.Return (some e) pos) (tRet te):=by
 intro pins s σ H D I h
 exact wpAny_Return_some (thn (he pins s σ H _ I h) fun v s1 ⟨x,H1,I1,r1,q1⟩=>⟨x,σ,H1,I1,r1,q1⟩)
noncomputable def tIfS (c:TT)(t u:TS):TS:=fun D σ H=>c σ H fun b H1=>if b=true then t D σ H1 else u D σ H1
theorem CI    (hc:PT X c tc)(ha:PSs X a t)(hb:PSs X b u):PS X (.If c a b pos) (tIfS tc t u):=by
 intro pins s σ H D I h
 refine wpAny_If (thn (hc pins s σ H _ I h) fun d s1 ⟨H1,I1,q1⟩=>?_)
 cases d with
 |true=>exact ha pins s1 σ H1 D I1 q1
 |false=>exact hb pins s1 σ H1 D I1 q1
end
noncomputable abbrev TG:=V->St->Hp->(St->Hp->Prop)->Prop
noncomputable abbrev TGs:=List V->St->Hp->(St->Hp->Prop)->Prop
noncomputable def PG (X:Cx)(target:Expr)(t:TG):Prop:=
 ∀(pins:α7) (s:Shared) (σ:St) (H:Hp) (v:V) (u:Value) (Q:St->Hp->Prop),Inv X pins σ H s->RelV v u->t v σ H Q ->
  wpAny (model X.prog X.w) X.A (assign target X.env u) (fun _ s'=>∃σ' H',Inv X pins σ' H' s'/\Q σ' H') X.xe s
noncomputable def PGs (X:Cx)(ts:List Expr)(t:TGs):Prop:=
 ∀(pins:α7) (s:Shared) (σ:St) (H:Hp) (vs:List V) (us:List Value) (Q:St->Hp->Prop),Inv X pins σ H s->Vals vs us->t vs σ H Q ->
  wpAny (model X.prog X.w) X.A (assignInOrder ((assignEach ts X.env).map (·.2)) us) (fun _ s'=>∃σ' H',Inv X pins σ' H' s'/\Q σ' H') X.xe s
noncomputable abbrev TSet:=V->V->V->Hp->(Hp->Prop)->Prop
noncomputable def PSet (X:Cx)(t:TSet):Prop:=
 ∀(pins:α7) (s:Shared) (σ:St) (H:Hp) (o i v:V) (ov iv u:Value) (Q:Hp->Prop),Inv X pins σ H s->RelV o ov->RelV i iv->RelV v u->t o i v H Q ->
  wpAny (model X.prog X.w) X.A (setItem ov iv u) (fun _ s'=>∃H',Inv X pins σ H' s'/\Q H') X.xe s
noncomputable abbrev TIp:=V->V->Hp->VK->Prop
noncomputable def PIp (X:Cx)(op:Operator)(t:TIp):Prop:=
 ∀(pins:α7) (s:Shared) (σ:St) (H:Hp) (x y:V) (v u:Value) (Q:VK),Inv X pins σ H s->RelV x v->RelV y u->t x y H Q ->
  wpAny (model X.prog X.w) X.A (inplaceOp op v u) (EP X pins σ Q) X.xe s
section
variable {X:Cx} {pos:Pos}
noncomputable def IZ (i:Nat):TG:=fun v σ H Q=>Q (σ.set i (some v)) H
theorem Aw   (hN:X.N.Nodup)(hi:X.N[i]?=some x)(hx:Loc X.env.scope x)(hf:X.fn x=true\/X.env.scope.names.lookup x=some .local:=by first|exact .inl rfl|exact .inr rfl|assumption):PG X (.Name x pos) (IZ i):=by
 intro pins s σ H v u Q I r h
 exact wpAny_assign_Name (Oy I hN hi hx r (fun s' I'=>⟨_,H,I',h⟩) hf)
noncomputable def gNil:TGs:=fun vs σ H Q=>vs=[]/\Q σ H
noncomputable def YY (t:TG)(u:TGs):TGs:=fun vs σ H Q=>∃v r,vs=v::r/\t v σ H fun σ' H'=>u r σ' H' Q
theorem KJ:PGs X [] gNil:=by
 intro pins s σ H vs us Q I r h
 obtain⟨e,h⟩:=h
 subst e
 cases r
 exact assignInOrder_nil ⟨σ,H,I,h⟩
theorem DG     (h1:PG X e t)(h2:PGs X es u)
  (hs:(assignEach (e::es) X.env).map (·.2)=assign e X.env::(assignEach es X.env).map (·.2):=by rfl):PGs X (e::es) (YY t u):=by
 intro pins s σ H vs us Q I r h
 obtain⟨v,vr,e1,h⟩:=h
 subst e1
 cases r with
 |cons r rr=>
  rw[hs]
  refine assignInOrder_cons (thn (h1 pins s σ H _ _ _ I r h) fun _ s1 ⟨σ1,H1,I1,q1⟩=>?_)
  exact h2 pins s1 σ1 H1 _ _ Q I1 rr q1
noncomputable def gTup (K:α3)(n:Nat)(t:TGs):TG:=fun v σ H Q=>∃a xs,v=.ref a/\SqT K H a xs/\xs.length=n/\t xs σ H Q
theorem Yb     (hc:X.calm=true)(h:PGs X es t)
  (hn:(assignEach es X.env).length=n:=by rfl) (hst:(assignEach es X.env).findIdx? (·.1)=none:=by rfl):PG X (.Tuple es k pos) (gTup X.K n t):=by
 intro pins s σ H v u Q I r hw
 obtain⟨a,xs,e1,hq,hl,hw⟩:=hw
 subst e1
 cases r
 obtain⟨its,rv,ht,hz⟩:=I.tuple hq
 refine assign_Tuple_tuple (I.ok.hd hc) ht (by simp[hn,<-hl,rv.length]) hst fun h' hx=>?_
 have I1:Inv X pins σ H {s with heap:=h' }:=I.kept (t':=s.toks) fun b o e=>hx b o (jG_ (jp_ e)) e
 exact h pins _ σ H xs _ Q I1 (by simpa using rv) hw
noncomputable def gSub (to ti:TE)(t:TSet):TG:=fun v σ H Q=>to σ H fun o H1=>ti σ H1 fun i H2=>t o i v H2 fun H3=>Q σ H3
theorem DI_    (ho:PE X o to)(hi:PE X i ti)(hs:PSet X t)
  (ha:∀v,assign (.Subscript o i pos) X.env v=(do
   let ov <- holding [v] (eval o X.env)
   let iv <- holding [v,ov] (eval i X.env)
   standAt pos
   holding [v,ov,iv] (setItem ov iv v)
   release [v,ov,iv] []):=by intro _;rfl):PG X (.Subscript o i pos) (gSub to ti t):=by
 intro pins s σ H v u Q I r h
 rw[ha]
 refine je_ (qS_ (thn (ho pins s σ H _ I h) fun ov s1 ⟨x,H1,I1,r1,q1⟩=>?_))
 refine je_ (qS_ (thn (hi pins s1 σ H1 _ I1 q1) fun iv s2 ⟨y,H2,I2,r2,q2⟩=>?_))
 refine je_ (wpAny_standAt (je_ (qS_ (thn (hs pins s2 σ H2 x y v ov iv u _ I2 r1 r2 r q2) fun _ s3 ⟨H3,I3,q3⟩=>?_))))
 exact wpAny_release ⟨σ,H3,I3,q3⟩
noncomputable def tAsg (te:TE)(g:TG):TS:=fun D σ H=>te σ H fun x H1=>g x σ H1 D.nx
theorem DJ_    (he:PE X e te)(hg:PG X tg g)(hs:swapsWithSole [tg] e pos.line X.env=pure false:=by rfl)(hw:swappedStores [tg] e X.env=pure none:=by rfl)
  (h1:(assignEach [tg] X.env).map (·.2)=[assign tg X.env]:=by rfl):PS X (.Assign [tg] e pos) (tAsg te g):=by
 intro pins s σ H D I h
 refine wpAny_Assign_stores (thn (he pins s σ H _ I h) fun v s1 ⟨x,H1,I1,r1,q1⟩=>?_) hs hw
 rw[h1]
 exact thn (hg pins s1 σ H1 x v _ I1 r1 q1) fun _ s2 q=>q
theorem OI      (hN:X.N.Nodup)(hi:X.N[i]?=some x)(hx:Loc X.env.scope x)(he:PE X e te)(hs:swapsWith e (some (.Name x pos')) pos.line X.env=pure false:=by rfl)(hf:X.fn x=true\/X.env.scope.names.lookup x=some .local:=by first|exact .inl rfl|exact .inr rfl|assumption):
  PS X (.Assign [.Name x pos'] e pos) (tAsg te (IZ i)):=by
 intro pins s σ H D I h
 refine wpAny_Assign_Name (thn (he pins s σ H _ I h) fun v s1 ⟨y,H1,I1,r1,q1⟩=>?_) hs
 exact Oy I1 hN hi hx r1 (fun s2 I2=>⟨_,H1,I2,q1⟩) hf
noncomputable def tAug (i:Nat)(te:TE)(ti:TIp):TS:=fun D σ H=>∃x,σ[i]?=some (some x)/\te σ H fun y H1=>ti x y H1 fun z H2=>D.nx (σ.set i (some z)) H2
theorem Gu_        (hN:X.N.Nodup)(hi:X.N[i]?=some x)(hx:Loc X.env.scope x)(he:PE X e te)(ho:PIp X op ti)(hf:X.fn x=true\/X.env.scope.names.lookup x=some .local:=by first|exact .inl rfl|exact .inr rfl|assumption):
  PS X (.AugAssign (.Name x pos') op e pos) (tAug i te ti):=by
 intro pins s σ H D I h
 obtain⟨v,e1,h⟩:=h
 obtain⟨m,hn,hl⟩:=I.loc
 have vis:Vis X.env.scope x:=by rcases hx with k|k;exact .inl k;exact .inr (.inl k)
 obtain⟨u,r,l⟩:=hl i x v hi e1 vis
 refine wpAny_AugAssign_Name ?_
 have go:wpAny (model X.prog X.w) X.A (eval e X.env) (fun w s₂=>wpAny (model X.prog X.w) X.A (inplaceOp op u w) (fun r s₃=>wpAny (model X.prog X.w) X.A (storeName X.env x r) (fun _=>SP X pins D .next) X.xe s₃) X.xe s₂) X.xe s:=by
  refine thn (he pins s σ H _ I h) fun w s1 ⟨y,H1,I1,r1,q1⟩=>?_
  refine thn (ho pins s1 σ H1 v y u w _ I1 r r1 q1) fun z s2 ⟨zv,H2,I2,r2,q2⟩=>?_
  exact Oy I2 hN hi hx r2 (fun s3 I3=>⟨_,H2,I3,q2⟩) hf
 rcases l with ⟨hk,hm⟩|⟨hk,c,hc,hcell⟩
 ·exact wpAny_loadName_local I.ok.kind hk hn hm go
 ·rcases hk with hk|hk
  ·exact wpAny_loadName_cell I.ok.kind hk hc hcell go
  ·rcases hx with k|k
   ·have:X.env.scope.names.lookup x=some .free:=hk
    rw[k]at this;cases this
   ·have:X.env.scope.names.lookup x=some .free:=hk
    rw[k]at this;cases this
noncomputable def ipI (f:Int->Int->Int):TIp:=fun x y H Q=>∃i j,x=.int i/\y=.int j/\Q (.int (f i j)) H
theorem Gv_:PIp X .Add (ipI fun i j=>i+j):=by
 intro pins s σ H x y v u Q I r1 r2 h
 obtain⟨i,j,e1,e2,q⟩:=h
 subst e1;subst e2
 obtain⟨t,rfl⟩:=r1
 obtain⟨t',rfl⟩:=r2
 exact iadd_int ⟨.int _,H,I.tok _,⟨_,rfl⟩,q⟩
end
section
variable {X:Cx} {pos:Pos}
noncomputable def DK_ (c:TT)(tb:TS):TS:=fun D σ H=>∃W:Nat->St->Hp->Prop,(∃m,W m σ H)/\∀m σ H,W m σ H ->
 c σ H fun b H1=>if b=true then ∃N:St->Hp->Prop,(∀σ' H',N σ' H'->∃m',m'<m/\W m' σ' H')/\tb {D with nx:=N,ct:=N,bk:=D.nx} σ H1 else D.nx σ H1
theorem Sr     (hp:PassesOwn (model X.prog X.w) X.A X.env X.xe)(hc:PT X c tc)(hb:PSs X body tb):PS X (.While c body [] pos) (DK_ tc tb):=by
 intro pins s σ H D I h
 obtain⟨W,⟨m0,w0⟩,turn⟩:=h
 refine wpAny_While (codeAny_whileLoop (fun n s'=>∃σ' H',Inv X pins σ' H' s'/\W n σ' H') ?_ m0 ⟨σ,H,I,w0⟩)
 rintro n s1 ⟨σ1,H1,I1,w1⟩
 refine xd_ hp (thn (hc pins s1 σ1 H1 _ I1 (turn n σ1 H1 w1)) fun b s2 ⟨H2,I2,q2⟩=>?_)
 cases b with
 |true=>
  obtain⟨N,hN,q2⟩:=q2
  rw[if_pos rfl]
  refine xd_ hp (thn (hb pins s2 σ1 H2 _ I2 q2) fun f s3 q3=>?_)
  cases f with
  |next=>
   obtain⟨σ3,H3,I3,n3⟩:=q3
   obtain⟨m',hm,w3⟩:=hN σ3 H3 n3
   exact⟨m',hm,σ3,H3,I3,w3⟩
  |cont=>
   obtain⟨σ3,H3,I3,n3⟩:=q3
   obtain⟨m',hm,w3⟩:=hN σ3 H3 n3
   exact⟨m',hm,σ3,H3,I3,w3⟩
  |brk=>exact q3
  |ret v=>exact q3
 |false=>
  rw[if_neg jo_]
  exact xs_ ⟨σ1,H2,I2,q2⟩
end
structure It where
 go:Nat->Hp->Prop
 yld:Nat->Hp->V->Hp->Prop
 stop:Nat->Hp->Prop
noncomputable def FpOk (X:Cx)(pins:α7)(H:Hp)(b:Addr):Prop:=
 H b=none/\b≠X.env.locals/\b∉X.fs/\(b∈X.ex\/X.s₀.heap.objs.size<=b)/\(∀x c,X.env.cells.lookup x=some c->c≠b)/\∀p∈X.pn++pins,p.1≠b
theorem Inv.fpOk       (I:Inv X pins σ H s)(hb:s.heap.objs.size<=b)(hn:H' b=none):FpOk X pins H' b:=by
 refine⟨hn,xh_ (jw_ I.lt hb),I.nofs hb,.inr (jV_ I.sz hb),fun x c e z=>?_,fun p hp z=>?_⟩
 ·obtain⟨v,q⟩:=I.cell x c e
  exact absurd (jw_ q.lt (by rw[z];exact hb)) (jW_ _)
 ·exact absurd (jw_ (jp_ (I.pin p hp).1) (by rw[z];exact hb)) (jW_ _)
structure Turn (P:Program)(w:World)(K:α3)(tg:Expr)(J:It)(fp:List Addr)(it:Addr)(tn:Nat->Heap->Prop):Prop where
 mem:it∈fp
 obj:∀i h,tn i h->∀b∈fp,∃o,h.get? b=some o/\∀v,o.data ≠ .cell v
 keep:∀i h h',tn i h->(∀b∈fp,∀o,h.get? b=some o->h'.get? b=some o)->tn i h'
 item:∀(X:Cx),X.prog=P->X.w=w->X.K=K->X.calm=true->∀(i:Nat) (pins:α7) (s:Shared) (σ:St) (H:Hp) (E:Value->Shared->Prop),Inv X pins σ H s->(∀b∈fp,FpOk X pins H b)->tn i s.heap->J.go i H ->
  wpAny (model P w) X.A (pyNext (.ref it)) (fun r s1=>∃u,r=some u /\
   wpAny (model P w) X.A (letOwnedTupleGo tg (.ref it) u) (fun _ s2=>∃x H',Inv X pins σ H' s2/\RelV x u/\J.yld i H x H'/\tn (i+1) s2.heap/\∀b∈fp,H' b=none) E s1) E s
 done:∀(X:Cx),X.prog=P->X.w=w->X.K=K->X.calm=true->∀(i:Nat) (pins:α7) (s:Shared) (σ:St) (H:Hp) (E:Value->Shared->Prop),Inv X pins σ H s->(∀b∈fp,FpOk X pins H b)->tn i s.heap->J.stop i H ->
  wpAny (model P w) X.A (pyNext (.ref it)) (fun r s1=>r=none/\Inv X pins σ H s1) E s
 self:∀(A:Around) (i:Nat) (s:Shared) (Q:Value->Shared->Prop) (E:Value->Shared->Prop),tn i s.heap->Q (.ref it) s->wpAny (model P w) A (pyIter (.ref it)) Q E s
noncomputable abbrev TI:=St->Hp->(It->Hp->Prop)->Prop
noncomputable def PIE (X:Cx)(pins:α7)(σ:St)(tg:Expr)(R:It->Hp->Prop)(itv:Value)(s2:Shared):Prop:=
 ∃(it:Addr) (fp:List Addr) (tn:Nat->Heap->Prop) (J:It) (H':Hp),itv=.ref it/\Inv X pins σ H' s2/\Turn X.prog X.w X.K tg J fp it tn/\tn 0 s2.heap/\(∀b∈fp,FpOk X pins H' b)/\R J H'
noncomputable def PI (X:Cx)(tg iter:Expr)(wi:TI):Prop:=
 ∀(pins:α7) (s:Shared) (σ:St) (H:Hp) (R:It->Hp->Prop),Inv X pins σ H s->wi σ H R ->
  wpAny (model X.prog X.w) X.A (eval iter X.env) (fun v s1=>wpAny (model X.prog X.w) X.A (pyIter v) (PIE X pins σ tg R) X.xe s1) X.xe s
theorem Av_      {it:Addr}      (ho:s.heap.get? it=some o)(hc:o.cls=.type n)(hd:o.data=.fields vs)
    (hn:["enumerate","zip","dict_itemiterator","dict_reverseitemiterator","odict_iterator","itertools.zip_longest","itertools.pairwise"].contains n=false) (hQ:Q () s):wpAny M A (letOwnedTupleGo tg (.ref it) u) Q E s:=by
  unfold letOwnedTupleGo
  cases tg<;>first
    | exact js_ hQ
    | (cases u<;>first
        | exact js_ hQ
        | (refine je_ (wpAny_load ho ?_)
           rw[hc,hd]
           show wpAny M A (if (["enumerate","zip","dict_itemiterator","dict_reverseitemiterator","odict_iterator","itertools.zip_longest","itertools.pairwise"].contains n&&vs[0]? == some (rawInt _))=true then _ else _) Q E s
           rw[if_neg (by intro h;rw[hn,Bool.false_and]at h;cases h)]
           exact js_ hQ))
noncomputable def Itl (K:α3)(a:Addr):It:=
 ⟨fun i H=>∃xs x,SqL K H a xs/\xs[i]?=some x,fun i H x H'=>H'=H/\∀xs,SqL K H a xs->xs[i]?=some x,fun i H=>∃xs,SqL K H a xs/\xs.length<=i⟩
noncomputable def Itt (K:α3)(a:Addr):It:=
 ⟨fun i H=>∃xs x,SqT K H a xs/\xs[i]?=some x,fun i H x H'=>H'=H/\∀xs,SqT K H a xs->xs[i]?=some x,fun i H=>∃xs,SqT K H a xs/\xs.length<=i⟩
noncomputable def Itr (lo:Int)(n:Nat):It:=⟨fun i _=>i<n,fun i H x H'=>H'=H/\x=.int (lo+i),fun i _=>n<=i⟩
theorem Vz {P:Program}{w:World}{K:α3}{tg:Expr}(a it:Addr):Turn P w K tg (Itl K a) [it] it (fun i h=>h.IsListIter it a i) where
 mem:=by simp
 obj:=fun i h st b hb=>by
  have e:b=it:=by simpa using hb
  subst e
  obtain⟨o,e,c,d⟩:=st
  exact⟨o,e,fun v z=>by rw[d]at z;cases z⟩
 keep:=fun i h h' st k=>st.at fun o e=>k it (by simp) o e
 item:=by
  intro X hP hw hK hc i pins s σ H E I hf st hg
  subst hP hw hK
  obtain⟨xs,x,hq,hx⟩:=hg
  obtain⟨its,rv,p,hz⟩:=I.list hq
  obtain⟨u,hu,ru⟩:=rv.get hx
  obtain⟨f0,f1,f2,f3,f4,f5⟩:=hf it (by simp)
  refine wpAny_pyNext_list_item st p.isList (x:=u) (by simpa using hu) fun h' st' sb=>?_
  have I1:Inv X pins σ H {s with heap:=h' }:=I.turned (t':=s.toks) (fun b o hb e=>(sb.2 b hb).trans e) f0 f1 f3 f4 f5
  obtain⟨o,e,c,d⟩:=id st'
  exact⟨u,rfl,Av_ (s:={s with heap:=h' }) e c d (by decide) ⟨x,H,I1,ru,⟨rfl,fun ys hy=>by rw[I.list_inj hy hq];exact hx⟩,st',fun b hb=>(hf b hb).1⟩⟩
 done:=by
  intro X hP hw hK hc i pins s σ H E I hf st hg
  subst hP hw hK
  obtain⟨xs,hq,hx⟩:=hg
  obtain⟨its,rv,p,hz⟩:=I.list hq
  obtain⟨f0,f1,f2,f3,f4,f5⟩:=hf it (by simp)
  have hl:=rv.length
  exact wpAny_pyNext_list_end (I.ok.hd hc) st p.isList (by simp;lia) fun h' eb=>⟨rfl,I.turned (t':=s.toks) (fun b o hb e=>eb b o hb e) f0 f1 f3 f4 f5⟩
 self:=fun _ _ _ _ _ st h=>wpAny_pyIter_listiter st h
theorem RL {P:Program}{w:World}{K:α3}{tg:Expr}(a it:Addr):Turn P w K tg (Itt K a) [it] it (fun i h=>h.IsTupleIter it a i) where
 mem:=by simp
 obj:=fun i h st b hb=>by
  have e:b=it:=by simpa using hb
  subst e
  obtain⟨o,e,c,d⟩:=st
  exact⟨o,e,fun v z=>by rw[d]at z;cases z⟩
 keep:=fun i h h' st k=>st.at fun o e=>k it (by simp) o e
 item:=by
  intro X hP hw hK hc i pins s σ H E I hf st hg
  subst hP hw hK
  obtain⟨xs,x,hq,hx⟩:=hg
  obtain⟨its,rv,p,hz⟩:=I.tuple hq
  obtain⟨u,hu,ru⟩:=rv.get hx
  obtain⟨f0,f1,f2,f3,f4,f5⟩:=hf it (by simp)
  refine wpAny_pyNext_tuple_item st (show s.heap.IsTuple a its.toArray from p) (x:=u) (by simpa using hu) fun h' st' sb=>?_
  have I1:Inv X pins σ H {s with heap:=h' }:=I.turned (t':=s.toks) (fun b o hb e=>(sb.2 b hb).trans e) f0 f1 f3 f4 f5
  obtain⟨o,e,c,d⟩:=id st'
  exact⟨u,rfl,Av_ (s:={s with heap:=h' }) e c d (by decide) ⟨x,H,I1,ru,⟨rfl,fun ys hy=>by rw[I.tuple_inj hy hq];exact hx⟩,st',fun b hb=>(hf b hb).1⟩⟩
 done:=by
  intro X hP hw hK hc i pins s σ H E I hf st hg
  subst hP hw hK
  obtain⟨xs,hq,hx⟩:=hg
  obtain⟨its,rv,p,hz⟩:=I.tuple hq
  obtain⟨f0,f1,f2,f3,f4,f5⟩:=hf it (by simp)
  have hl:=rv.length
  exact wpAny_pyNext_tuple_end (I.ok.hd hc) st (show s.heap.IsTuple a its.toArray from p) (by simp;lia) fun h' eb=>⟨rfl,I.turned (t':=s.toks) (fun b o hb e=>eb b o hb e) f0 f1 f3 f4 f5⟩
 self:=fun _ _ _ _ _ st h=>wpAny_pyIter_tupleiter st h
theorem YZ {P:Program}{w:World}{K:α3}{tg:Expr}(it:Addr)(lo:Int)(n:Nat):Turn P w K tg (Itr lo n) [it] it (fun i h=>IsRangeIter h it (lo+(i:Nat)*1) ((n:Int)-(i:Nat)) 1) where
 mem:=by simp
 obj:=fun i h st b hb=>by
  have e:b=it:=by simpa using hb
  subst e
  exact⟨_,st,fun v z=>by
   have z':Data.fields _=Data.cell v:=z
   cases z'⟩
 keep:=fun i h h' st k=>k it (by simp) _ st
 item:=by
  intro X hP hw hK hc i pins s σ H E I hf st hg
  subst hP hw hK
  obtain⟨f0,f1,f2,f3,f4,f5⟩:=hf it (by simp)
  have W:=Walks.range (prog:=X.prog) (w:=X.w) (I.ok.hd hc) it lo 1 n
  refine W.item i s _ _ hg st fun v h' tk hv st' kk=>?_
  obtain⟨t,rfl⟩:=hv
  have I1:Inv X pins σ H {s with heap:=h',toks:=tk}:=I.turned (fun b o hb e=>kk b o (by simpa using hb) e) f0 f1 f3 f4 f5
  refine⟨_,rfl,Av_ (s:={s with heap:=h',toks:=tk}) (n := "range_iterator") st' rfl rfl (by decide) ⟨.int (lo+i),H,I1,⟨t,?_⟩,⟨rfl,rfl⟩,st',fun b hb=>(hf b hb).1⟩⟩
  rw[zD_]
 done:=by
  intro X hP hw hK hc i pins s σ H E I hf st hg
  subst hP hw hK
  obtain⟨f0,f1,f2,f3,f4,f5⟩:=hf it (by simp)
  exact wpAny_pyNext_range_end (I.ok.hd hc) st (by have:n<=i:=hg;lia) fun h' eb=>⟨rfl,I.turned (t':=s.toks) (fun b o hb e=>eb b o hb e) f0 f1 f3 f4 f5⟩
 self:=fun _ _ _ _ _ st h=>wpAny_pyIter_rangeiter st h
end L2
namespace L2
open PySem PySem.Spec PyProof.Rows
section
variable {X:Cx} {tg:Expr}
noncomputable def Gw_ (K:α3)(tl:TE):TI:=fun σ H R=>tl σ H fun x H1=>∃a,x=.ref a/\(∃xs,SqL K H1 a xs)/\R (Itl K a) H1
noncomputable def iTup (K:α3)(tl:TE):TI:=fun σ H R=>tl σ H fun x H1=>∃a,x=.ref a/\(∃xs,SqT K H1 a xs)/\R (Itt K a) H1
theorem Mo   (hl:PE X l tl):PI X tg l (Gw_ X.K tl):=by
 intro pins s σ H R I h
 refine thn (hl pins s σ H _ I h) fun v s1 ⟨x,H1,I1,r1,q1⟩=>?_
 obtain⟨a,e,⟨xs,hq⟩,q⟩:=q1
 subst e
 cases r1
 obtain⟨its,rv,p,hz⟩:=I1.list hq
 refine x2_ p.isList ?_
 refine⟨s1.heap.objs.size,[s1.heap.objs.size],_,_,H1,rfl,I1.kept (t':=s1.toks) fun b o e=>jm_ _ e,Vz a _,⟨_,jy_ _ rfl,rfl,rfl⟩,fun b hb=>?_,q⟩
 have e:b=s1.heap.objs.size:=by simpa using hb
 subst e
 exact I1.fpOk (jf_ _) (I1.hok.fresh (jf_ _))
theorem Kf   (hl:PE X l tl):PI X tg l (iTup X.K tl):=by
 intro pins s σ H R I h
 refine thn (hl pins s σ H _ I h) fun v s1 ⟨x,H1,I1,r1,q1⟩=>?_
 obtain⟨a,e,⟨xs,hq⟩,q⟩:=q1
 subst e
 cases r1
 obtain⟨its,rv,p,hz⟩:=I1.tuple hq
 refine xp_ (show s1.heap.IsTuple a its.toArray from p) ?_
 refine⟨s1.heap.objs.size,[s1.heap.objs.size],_,_,H1,rfl,I1.kept (t':=s1.toks) fun b o e=>jm_ _ e,RL a _,⟨_,jy_ _ rfl,rfl,rfl⟩,fun b hb=>?_,q⟩
 have e:b=s1.heap.objs.size:=by simpa using hb
 subst e
 exact I1.fpOk (jf_ _) (I1.hok.fresh (jf_ _))
theorem Yc       {lo hi:Int}   (I:Inv X pins σ H s)(h1 : -(2 ^ 62)<=lo)(h2:lo<2 ^ 62)(h3 : -(2 ^ 62)<=hi)(h4:hi<2 ^ 62)
  (q:R (Itr lo (hi-lo).toNat) H):wpAny (model X.prog X.w) X.A (pyIter (.ref s.heap.objs.size)) (PIE X pins σ tg R) E {s with heap:=s.heap.push {cls:=.type "range",data:=.fields #[.int lo t,.int hi u,.int 1 v]},toks:=tk}:=by
 refine wpAny_pyIter_range (IsRange.new ..) (small_one h1 h2 h3 h4) ?_
 have I1:Inv X pins σ H {s with heap:=s.heap.push {cls:=.type "range",data:=.fields #[.int lo t,.int hi u,.int 1 v]},toks:=tk}:=I.kept fun b o e=>jm_ _ e
 refine⟨(s.heap.push {cls:=.type "range",data:=.fields #[.int lo t,.int hi u,.int 1 v]}).objs.size,[(s.heap.push {cls:=.type "range",data:=.fields #[.int lo t,.int hi u,.int 1 v]}).objs.size],_,_,H,rfl,
  I1.kept (t':=tk) fun b o e=>jm_ _ e,YZ _ lo (hi-lo).toNat,?_,fun b hb=>?_,q⟩
 ·have e1:lo+((0:Nat):Int)*1=lo:=by simp
  have e2:(((hi-lo).toNat:Nat):Int)-((0:Nat):Int)=Builtin.Range.rangeSize lo hi 1:=by rw[rangeSize_one];split<;>lia
  show IsRangeIter _ _ (lo+((0:Nat):Int)*1) ((((hi-lo).toNat:Nat):Int)-((0:Nat):Int)) 1
  rw[e1,e2]
  exact jy_ _ rfl
 ·have e:b=(s.heap.push {cls:=.type "range",data:=.fields #[.int lo t,.int hi u,.int 1 v]}).objs.size:=by simpa using hb
  subst e
  exact I1.fpOk (jf_ _) (I1.hok.fresh (jf_ _))
noncomputable def Gx_ (ta:TA):TI:=fun σ H R=>ta σ H fun vs H1=>∃j:Int,vs=[.int j] /\ -(2 ^ 62)<=j/\j<2 ^ 62/\R (Itr 0 j.toNat) H1
noncomputable def Gy_ (ta:TA):TI:=fun σ H R=>ta σ H fun vs H1=>∃i j:Int,vs=[.int i,.int j]/\(-(2 ^ 62)<=i/\i<2 ^ 62 /\ -(2 ^ 62)<=j/\j<2 ^ 62)/\R (Itr i (j-i).toNat) H1
theorem A3    (hg:Gl X "range")(hm:X.mg "range"=none)(ha:PA X [a] ta)(hs:starEach [a] X.env=[(false,eval a X.env)]:=by rfl):PI X tg (.Call (.Name "range" p) [a] [] pos) (Gx_ ta):=by
 intro pins s σ H R I h
 refine Call_ (La I hg hm boot_range (qw_ (thn (ha pos pins s σ H _ I h) fun us s1 ⟨vs,H1,I1,r1,q1⟩=>?_) hs rfl))
 obtain⟨j,e,q1,q2,q⟩:=q1
 subst e
 cases r1 with
 |cons r rr=>
  cases rr
  obtain⟨t,rfl⟩:=r
  exact call_range_1 (Yc I1 s!"" s!"" q1 q2 (by simpa using q))
theorem Aw_    (hg:Gl X "range")(hm:X.mg "range"=none)(ha:PA X [a,b] ta)(hs:starEach [a,b] X.env=[(false,eval a X.env),(false,eval b X.env)]:=by rfl)(hs2:starEach [b] X.env=[(false,eval b X.env)]:=by rfl):
  PI X tg (.Call (.Name "range" p) [a,b] [] pos) (Gy_ ta):=by
 intro pins s σ H R I h
 refine Call_ (La I hg hm boot_range (qw_ (thn (ha pos pins s σ H _ I h) fun us s1 ⟨vs,H1,I1,r1,q1⟩=>?_) (by rw[hs,hs2]) (by rw[hs2];rfl)))
 obtain⟨i,j,e,⟨q1,q2,q3,q4⟩,q⟩:=q1
 subst e
 cases r1 with
 |cons r rr=>
  cases rr with
  |cons r' rr=>
   cases rr
   obtain⟨t,rfl⟩:=r
   obtain⟨t',rfl⟩:=r'
   exact call_range_2 (Yc I1 q1 q2 q3 q4 q)
noncomputable def tFor (wi:TI)(g:TG)(tb:TS):TS:=fun D σ H=>wi σ H fun J H1=>∃W:Nat->Nat->St->Hp->Prop,(∃m,W 0 m σ H1)/\∀i m σ H,W i m σ H ->
 (J.stop i H/\D.nx σ H)\/(J.go i H/\∃N:St->Hp->Prop,(∀σ' H',N σ' H'->∃m',m'<m/\W (i+1) m' σ' H')/\∀x H',J.yld i H x H'->g x σ H' fun σ2 H2=>tb {D with nx:=N,ct:=N,bk:=D.nx} σ2 H2)
noncomputable def RM (fp:List Addr)(h:Heap):α7:=fp.filterMap fun b=>(h.get? b).map fun o=>(b,o)
theorem Gp     (hb:b∈fp)(e:h.get? b=some o):(b,o)∈RM fp h:=zv_.mpr ⟨b,hb,by rw[e];rfl⟩
theorem Ax_    (hp:p∈RM fp h):p.1∈fp/\h.get? p.1=some p.2:=by
 obtain⟨b,hb,e⟩:=zv_.mp hp
 cases q:h.get? b with
 |none=>rw[q]at e;cases e
 |some o=>
  rw[q]at e
  have e':(b,o)=p:=jB_ e
  subst e'
  exact⟨hb,q⟩
theorem Inv.pinned      (I:Inv X pins σ H s)(hf:∀b∈fp,FpOk X pins H b)(ho:∀b∈fp,∃o,s.heap.get? b=some o/\∀v,o.data ≠ .cell v):Inv X (pins++RM fp s.heap) σ H s:=
 I.pins_of fun p hp=>(jx_.mp hp).elim (fun z=>I.pin p (jP_ _ z)) fun z=>by
  obtain⟨hb,e⟩:=Ax_ z
  obtain⟨f0,f1,f2,_⟩:=hf p.1 hb
  obtain⟨o,e',d⟩:=ho p.1 hb
  rw[e]at e';cases e'
  exact⟨e,f0,f1,f2,d⟩
theorem Inv.unpinned     (I:Inv X (pins++pl) σ H s):Inv X pins σ H s:=I.pins_of fun p hp=>I.pin p (jP_ _ (jY_ _ hp))
theorem Cg {iter:Expr}  {wi:TI}    (hp:PassesOwn (model X.prog X.w) X.A X.env X.xe)(hc:X.calm=true)(hi:PI X tg iter wi)(hg:PG X tg g)(hb:PSs X body tb)
  (hs:∀x,foldedSetIterable iter X.env x=pure x:=by intro _;rfl):PS X (.For tg iter body [] pos) (tFor wi g tb):=by
 intro pins s σ H D I h
 refine wpAny_For (thn (hi pins s σ H _ I h) fun v s1 h1=>thn h1 fun itv s2 h2=>?_) hs
 obtain⟨it,fp,tn,J,H2,e,I2,T,st2,f2,W,⟨m0,w0⟩,turn⟩:=h2
 subst e
 -- what stays true of the iterator's objects through the loop
 have stat:∀{H':Hp},(∀b∈fp,H' b=none)->∀b∈fp,FpOk X pins H' b:=fun hn b hb=>⟨hn b hb,(f2 b hb).2⟩
 refine codeAny_forLoop_any (fun n s'=>∃i σ' H',Inv X pins σ' H' s'/\tn i s'.heap/\(∀b∈fp,H' b=none)/\W i n σ' H') ?_ m0 ⟨0,σ,H2,I2,st2,fun b hb=>(f2 b hb).1,w0⟩
 rintro n s3 ⟨i,σ3,H3,I3,st3,fr3,w3⟩
 rcases turn i n σ3 H3 w3 with ⟨stop,qn⟩|⟨go,N,hN,step⟩
 ·refine xd_ hp (thn (T.done X rfl rfl rfl hc i pins s3 σ3 H3 X.xe I3 (stat fr3) st3 stop) fun r s4 ⟨hr,I4⟩=>?_)
  subst hr
  exact xs_ ⟨σ3,H3,I4,qn⟩
 ·refine xd_ hp (thn (T.item X rfl rfl rfl hc i pins s3 σ3 H3 X.xe I3 (stat fr3) st3 go) fun r s4 ⟨u,hr,h4⟩=>?_)
  subst hr
  refine xd_ hp (thn h4 fun _ s5 ⟨x,H5,I5,r5,y5,st5,fr5⟩=>?_)
  have I5':=I5.pinned (stat fr5) (T.obj _ _ st5)
  refine xd_ hp (thn (hg _ s5 σ3 H5 x u _ I5' r5 (step x H5 y5)) fun _ s6 ⟨σ6,H6,I6,q6⟩=>?_)
  refine xd_ hp (thn (hb _ s6 σ6 H6 _ I6 q6) fun f s7 q7=>?_)
  have again:∀{σ7:St} {H7:Hp},Inv X (pins++RM fp s5.heap) σ7 H7 s7->N σ7 H7->∃m,m<n/\∃i σ' H',Inv X pins σ' H' s7/\tn i s7.heap/\(∀b∈fp,H' b=none)/\W i m σ' H':=fun {σ7 H7} I7 n7=>by
   obtain⟨m',hm,w7⟩:=hN σ7 H7 n7
   refine⟨m',hm,i+1,σ7,H7,I7.unpinned,T.keep _ _ _ st5 fun b hb o e=>(I7.pin (b,o) (jP_ _ (jP_ _ (Gp hb e)))).1,fun b hb=>?_,w7⟩
   obtain⟨o,e,d⟩:=T.obj _ _ st5 b hb
   exact (I7.pin (b,o) (jP_ _ (jP_ _ (Gp hb e)))).2.1
  cases f with
  |next=>obtain⟨σ7,H7,I7,n7⟩:=q7;exact again I7 n7
  |cont=>obtain⟨σ7,H7,I7,n7⟩:=q7;exact again I7 n7
  |brk=>obtain⟨σ7,H7,I7,q7⟩:=q7;exact⟨σ7,H7,I7.unpinned,q7⟩
  |ret v=>obtain⟨x7,σ7,H7,I7,r7,q7⟩:=q7;exact⟨x7,σ7,H7,I7.unpinned,r7,q7⟩
end
theorem Cp_ {K:α3}{a:Addr}{xs:List V}{g:TG}{tb:TS}{D:Ends}{σ:St}{H:Hp}(Pv:Nat->St->Hp->Prop)(h0:Pv 0 σ H)(hl:∀i σ H,i<=xs.length->Pv i σ H->SqL K H a xs)
  (hs:∀i x σ H,xs[i]?=some x->Pv i σ H->g x σ H fun σ2 H2=>tb {D with nx:=Pv (i+1),ct:=Pv (i+1),bk:=D.nx} σ2 H2) (hd:∀σ H,Pv xs.length σ H->D.nx σ H):
  ∃W:Nat->Nat->St->Hp->Prop,(∃m,W 0 m σ H)/\∀i m σ H,W i m σ H ->
   ((Itl K a).stop i H/\D.nx σ H)\/((Itl K a).go i H/\∃N:St->Hp->Prop,(∀σ' H',N σ' H'->∃m',m'<m/\W (i+1) m' σ' H')/\∀x H',(Itl K a).yld i H x H'->g x σ H' fun σ2 H2=>tb {D with nx:=N,ct:=N,bk:=D.nx} σ2 H2):=by
 refine⟨fun i m σ H=>m=xs.length-i/\i<=xs.length/\Pv i σ H,⟨xs.length,by simp,qt_ _,h0⟩,?_⟩
 rintro i m σ H ⟨rfl,hi,p⟩
 have q:=hl i σ H hi p
 by_cases hlt:i<xs.length
 ·refine .inr ⟨⟨xs,xs[i],q,by simp[hlt]⟩,Pv (i+1),fun σ' H' p'=>⟨xs.length-(i+1),by lia,rfl,hlt,p'⟩,fun x H' y=>?_⟩
  obtain⟨e,y⟩:=y
  subst e
  exact hs i x σ _ (y xs q) p
 ·have e:i=xs.length:=by lia
  subst e
  exact .inl ⟨⟨xs,q,jf_ _⟩,hd σ H p⟩
theorem Ff_ {K:α3}{a:Addr}{xs:List V}{g:TG}{tb:TS}{D:Ends}{σ:St}{H:Hp}(Pv:Nat->St->Hp->Prop)(h0:Pv 0 σ H)(hl:∀i σ H,i<=xs.length->Pv i σ H->SqT K H a xs)
  (hs:∀i x σ H,xs[i]?=some x->Pv i σ H->g x σ H fun σ2 H2=>tb {D with nx:=Pv (i+1),ct:=Pv (i+1),bk:=D.nx} σ2 H2) (hd:∀σ H,Pv xs.length σ H->D.nx σ H):
  ∃W:Nat->Nat->St->Hp->Prop,(∃m,W 0 m σ H)/\∀i m σ H,W i m σ H ->
   ((Itt K a).stop i H/\D.nx σ H)\/((Itt K a).go i H/\∃N:St->Hp->Prop,(∀σ' H',N σ' H'->∃m',m'<m/\W (i+1) m' σ' H')/\∀x H',(Itt K a).yld i H x H'->g x σ H' fun σ2 H2=>tb {D with nx:=N,ct:=N,bk:=D.nx} σ2 H2):=by
 refine⟨fun i m σ H=>m=xs.length-i/\i<=xs.length/\Pv i σ H,⟨xs.length,by simp,qt_ _,h0⟩,?_⟩
 rintro i m σ H ⟨rfl,hi,p⟩
 have q:=hl i σ H hi p
 by_cases hlt:i<xs.length
 ·refine .inr ⟨⟨xs,xs[i],q,by simp[hlt]⟩,Pv (i+1),fun σ' H' p'=>⟨xs.length-(i+1),by lia,rfl,hlt,p'⟩,fun x H' y=>?_⟩
  obtain⟨e,y⟩:=y
  subst e
  exact hs i x σ _ (y xs q) p
 ·have e:i=xs.length:=by lia
  subst e
  exact .inl ⟨⟨xs,q,jf_ _⟩,hd σ H p⟩
theorem Ay_ {lo:Int}{n:Nat}{g:TG}{tb:TS}{D:Ends}{σ:St}{H:Hp}(Pv:Nat->St->Hp->Prop)(h0:Pv 0 σ H)
  (hs:∀i σ H,i<n->Pv i σ H->g (.int (lo+i)) σ H fun σ2 H2=>tb {D with nx:=Pv (i+1),ct:=Pv (i+1),bk:=D.nx} σ2 H2) (hd:∀σ H,Pv n σ H->D.nx σ H):
  ∃W:Nat->Nat->St->Hp->Prop,(∃m,W 0 m σ H)/\∀i m σ H,W i m σ H ->
   ((Itr lo n).stop i H/\D.nx σ H)\/((Itr lo n).go i H/\∃N:St->Hp->Prop,(∀σ' H',N σ' H'->∃m',m'<m/\W (i+1) m' σ' H')/\∀x H',(Itr lo n).yld i H x H'->g x σ H' fun σ2 H2=>tb {D with nx:=N,ct:=N,bk:=D.nx} σ2 H2):=by
 refine⟨fun i m σ H=>m=n-i/\i<=n/\Pv i σ H,⟨n,by simp,qt_ _,h0⟩,?_⟩
 rintro i m σ H ⟨rfl,hi,p⟩
 by_cases hlt:i<n
 ·refine .inr ⟨hlt,Pv (i+1),fun σ' H' p'=>⟨n-(i+1),by lia,rfl,hlt,p'⟩,fun x H' y=>?_⟩
  obtain⟨e,y⟩:=y
  subst e y
  exact hs i σ _ hlt p
 ·have e:i=n:=by lia
  subst e
  exact .inl ⟨jf_ _,hd σ H p⟩
end L2
namespace L2
open PySem PySem.Spec PyProof.Rows
noncomputable abbrev R2:=V->V->Hp->VK->Prop
noncomputable def OpR (X:Cx)(f:Value->Value->Sem Value)(r:R2):Prop:=
 ∀(pins:α7) (s:Shared) (σ:St) (H:Hp) (x y:V) (v u:Value) (Q:VK),Inv X pins σ H s->RelV x v->RelV y u->r x y H Q ->
  wpAny (model X.prog X.w) X.A (f v u) (EP X pins σ Q) X.xe s
noncomputable def UnR (X:Cx)(f:Value->Sem Value)(r:V->Hp->VK->Prop):Prop:=
 ∀(pins:α7) (s:Shared) (σ:St) (H:Hp) (x:V) (v:Value) (Q:VK),Inv X pins σ H s->RelV x v->r x H Q ->
  wpAny (model X.prog X.w) X.A (f v) (EP X pins σ Q) X.xe s
noncomputable def Hi (X:Cx)(f:Value)(r:List V->Hp->VK->Prop):Prop:=
 ∀(pins:α7) (s:Shared) (σ:St) (H:Hp) (xs:List V) (us:List Value) (Q:VK),Inv X pins σ H s->Vals xs us->r xs H Q ->
  wpAny (model X.prog X.w) X.A (call f us) (EP X pins σ Q) X.xe s
noncomputable def tOp (r:R2)(ta tb:TE):TE:=fun σ H Q=>ta σ H fun x H1=>tb σ H1 fun y H2=>r x y H2 Q
noncomputable def tUn (r:V->Hp->VK->Prop)(ta:TE):TE:=fun σ H Q=>ta σ H fun x H1=>r x H1 Q
noncomputable def rI (C:Int->Int->Prop)(g:Int->Int->V):R2:=fun x y H Q=>∃i j,x=.int i/\y=.int j/\C i j/\Q (g i j) H
noncomputable def rI0 (g:Int->Int->V):R2:=fun x y H Q=>∃i j,x=.int i/\y=.int j/\Q (g i j) H
noncomputable def rU (g:Int->V):V->Hp->VK->Prop:=fun x H Q=>∃i,x=.int i/\Q (g i) H
section
variable {X:Cx} {a b c:Expr} {ta tb tc:TE} {pos:Pos}
theorem binT (ha:PE X a ta)(hb:PE X b tb){pins:α7}{s:Shared}{σ:St}{H:Hp}{R:V->V->Hp->Prop}(I:Inv X pins σ H s)
  (h:ta σ H fun x H1=>tb σ H1 fun y H2=>R x y H2) {Q:Value->Shared->Prop} {f:Value->Value->Sem Value}
  (hf:∀v u s2 x y H2,Inv X pins σ H2 s2->RelV x v->RelV y u->R x y H2->wpAny (model X.prog X.w) X.A (f v u) Q X.xe s2):
  wpAny (model X.prog X.w) X.A (eval a X.env) (fun v s₁=>wpAny (model X.prog X.w) X.A (eval b X.env) (fun u s₂=>wpAny (model X.prog X.w) X.A (f v u) Q X.xe s₂) X.xe s₁) X.xe s:=by
 refine thn (ha pins s σ H _ I h) fun v s1 ⟨x,H1,I1,r1,q1⟩=>?_
 refine thn (hb pins s1 σ H1 _ I1 q1) fun u s2 ⟨y,H2,I2,r2,q2⟩=>?_
 exact hf v u s2 x y H2 I2 r1 r2 q2
theorem Al   (ho:OpR X (binaryOp op) r)(ha:PE X a ta)(hb:PE X b tb):PE X (.BinOp a op b pos) (tOp r ta tb):=by
 intro pins s σ H Q I h
 exact wpAny_BinOp (binT ha hb I h fun v u s2 x y H2 I2 rx ry q=>ho pins s2 σ H2 x y v u Q I2 rx ry q)
theorem Y0   (ho:UnR X (unaryOp op) r)(ha:PE X a ta):PE X (.UnaryOp op a pos) (tUn r ta):=by
 intro pins s σ H Q I h
 exact UnaryOp_ (thn (ha pins s σ H _ I h) fun v s1 ⟨x,H1,I1,r1,q1⟩=>ho pins s1 σ H1 x v Q I1 r1 q1)
theorem opI {f:Value->Value->Sem Value}{C:Int->Int->Prop}{g:Int->Int->Int}
  (rule:∀(i j:Int) (t u:Tok) (s:Shared) (Q:Value->Shared->Prop) (E:Value->Shared->Prop),C i j->Q (.int (g i j) s.toks) {s with toks:=s.toks+1}->wpAny (model X.prog X.w) X.A (f (.int i t) (.int j u)) Q E s):
  OpR X f (rI C fun i j=>.int (g i j)):=by
 intro pins s σ H x y v u Q I rx ry h
 obtain⟨i,j,rfl,rfl,hc,q⟩:=h
 obtain⟨t,rfl⟩:=rx
 obtain⟨t',rfl⟩:=ry
 exact rule i j t t' s _ _ hc ⟨.int (g i j),H,I.tok _,⟨_,rfl⟩,q⟩
theorem opI0 {f:Value->Value->Sem Value}{g:Int->Int->Int}
  (rule:∀(i j:Int) (t u:Tok) (s:Shared) (Q:Value->Shared->Prop) (E:Value->Shared->Prop),Q (.int (g i j) s.toks) {s with toks:=s.toks+1}->wpAny (model X.prog X.w) X.A (f (.int i t) (.int j u)) Q E s):
  OpR X f (rI0 fun i j=>.int (g i j)):=by
 intro pins s σ H x y v u Q I rx ry h
 obtain⟨i,j,rfl,rfl,q⟩:=h
 obtain⟨t,rfl⟩:=rx
 obtain⟨t',rfl⟩:=ry
 exact rule i j t t' s _ _ ⟨.int (g i j),H,I.tok _,⟨_,rfl⟩,q⟩
theorem opB0 {f:Value->Value->Sem Value}{g:Int->Int->Bool}
  (rule:∀(i j:Int) (t u:Tok) (s:Shared) (Q:Value->Shared->Prop) (E:Value->Shared->Prop),Q (.bool (g i j)) s->wpAny (model X.prog X.w) X.A (f (.int i t) (.int j u)) Q E s):
  OpR X f (rI0 fun i j=>.bl (g i j)):=by
 intro pins s σ H x y v u Q I rx ry h
 obtain⟨i,j,rfl,rfl,q⟩:=h
 obtain⟨t,rfl⟩:=rx
 obtain⟨t',rfl⟩:=ry
 exact rule i j t t' s _ _ ⟨.bl (g i j),H,I,rfl,q⟩
noncomputable def CDiv (i j:Int):Prop:=0<j/\j<1073741824
noncomputable def CMul (i j:Int):Prop:=(-(2 ^ 64)<i/\i<2 ^ 64)\/(-(2 ^ 64)<j/\j<2 ^ 64)
theorem CMul.ok  (h:CMul i j):IntMulOk i j:=by
 rcases h with ⟨h1,h2⟩|⟨h1,h2⟩
 ·exact .of_left (intBits_le_64 h1 h2)
 ·exact .of_right (intBits_le_64 h1 h2)
theorem Bw:OpR X (binaryOp .Add) (rI0 fun i j=>.int (i+j)):=opI0 fun _ _ _ _ _ _ _ q=>add_int q
theorem Kg:OpR X (binaryOp .Sub) (rI0 fun i j=>.int (i-j)):=opI0 fun _ _ _ _ _ _ _ q=>sub_int q
theorem DH:OpR X (binaryOp .Mult) (rI CMul fun i j=>.int (i*j)):=opI fun _ _ _ _ _ _ _ hc q=>mul_int q hc.ok
theorem Gb:OpR X (binaryOp .FloorDiv) (rI CDiv fun i j=>.int (i / j)):=opI fun i j _ _ _ _ _ hc q=>by
 have h1:(0:Int)<j:=hc.1
 have h2:j<1073741824:=hc.2
 exact floordiv_int s!"" (by rw[Int.fdiv_eq_ediv_of_nonneg i s!""];exact q) (.inl (PyProof.noPylong_small s!""))
theorem Bb:OpR X (binaryOp .Mod) (rI (fun _ j=>0<j) fun i j=>.int (i%j)):=opI fun i j _ _ _ _ _ hc q=>by
 have h1:(0:Int)<j:=hc
 exact mod_int' s!"" (by rw[Int.fmod_eq_emod_of_nonneg i s!""];exact q)
theorem unI {f:Value->Sem Value}{g:Int->Int}
  (rule:∀(i:Int) (t:Tok) (s:Shared) (Q:Value->Shared->Prop) (E:Value->Shared->Prop),Q (.int (g i) s.toks) {s with toks:=s.toks+1}->wpAny (model X.prog X.w) X.A (f (.int i t)) Q E s):
  UnR X f (rU fun i=>.int (g i)):=by
 intro pins s σ H x v Q I rx h
 obtain⟨i,rfl,q⟩:=h
 obtain⟨t,rfl⟩:=rx
 exact rule i t s _ _ ⟨.int (g i),H,I.tok _,⟨_,rfl⟩,q⟩
theorem RO:UnR X (unaryOp .USub) (rU fun i=>.int (-i)):=unI fun _ _ _ _ _ q=>neg_int q
end
noncomputable def scal:V->V->Bool
 |.non,.non=>true | .non,.int _=>true | .int _,.non=>true | .non,.bl _=>true | .bl _,.non=>true | .non,.str _=>true | .str _,.non=>true
 |.int _,.int _=>true | .bl _,.bl _=>true | .str _,.str _=>true | .byt _,.byt _=>true
 |.int _,.str _=>true | .str _,.int _=>true | .bl _,.str _=>true | .str _,.bl _=>true
 |_,_=>false
noncomputable def rEq:R2:=fun x y H Q=>scal x y=true/\Q (.bl (decide (x=y))) H
noncomputable def rNe:R2:=fun x y H Q=>scal x y=true/\Q (.bl (!decide (x=y))) H
theorem Az_  : decide (V.int i=V.int j)=(i==j):=by
 rw[xe_]
 simp
theorem DL_  : decide (V.bl i=V.bl j)=(i==j):=by
 rw[xe_]
 simp
theorem AA_  : decide (V.str i=V.str j)=(i==j):=by
 rw[xe_]
 simp
theorem AB_  : decide (V.byt i=V.byt j)=(i.toList==j.toList):=by
 rw[xe_]
 cases i
 cases j
 simp
section
variable {X:Cx} {a b c:Expr} {ta tb tc:TE} {pos:Pos}
theorem BS       (I:Inv X pins σ H s)(q:Q (.bl k) H)(e:k=k'):EP X pins σ Q (.bool k') s:=by
 subst e
 exact⟨.bl k,H,I,rfl,q⟩
theorem I0:OpR X (compareOp .Eq) rEq:=by
 intro pins s σ H x y v u Q I rx ry h
 obtain⟨hs,q⟩:=h
 cases x with
 |non=>
  cases rx
  cases y with
  |non=>cases ry;exact PySem.EqNone.eq_none_none (BS I q (by simp))
  |bl j=>cases ry;exact PySem.EqNone.eq_none_bool (BS I q (by simp))
  |int j=>obtain⟨t',rfl⟩:=ry;exact PySem.EqNone.eq_none_int (BS I q (by simp))
  |str j=>obtain⟨t',rfl⟩:=ry;exact PySem.EqNone.eq_none_str (BS I q (by simp))
  |_=>exact absurd (show false=true from hs) jo_
 |bl i=>
  cases rx
  cases y with
  |non=>cases ry;exact PySem.EqNone.eq_bool_none (BS I q (by simp))
  |bl j=>cases ry;exact eq_bool (BS I q DL_)
  |str j=>obtain⟨t',rfl⟩:=ry;exact PySem.EqMixed.eq_bool_str (BS I q (by simp))
  |_=>exact absurd (show false=true from hs) jo_
 |int i=>
  obtain⟨t,rfl⟩:=rx
  cases y with
  |non=>cases ry;exact PySem.EqNone.eq_int_none (BS I q (by simp))
  |int j=>obtain⟨t',rfl⟩:=ry;exact eq_int (BS I q Az_)
  |str j=>obtain⟨t',rfl⟩:=ry;exact PySem.EqMixed.eq_int_str (BS I q (by simp))
  |_=>exact absurd (show false=true from hs) jo_
 |str i=>
  obtain⟨t,rfl⟩:=rx
  cases y with
  |non=>cases ry;exact PySem.EqNone.eq_str_none (BS I q (by simp))
  |bl j=>cases ry;exact PySem.EqMixed.eq_str_bool (BS I q (by simp))
  |int j=>obtain⟨t',rfl⟩:=ry;exact PySem.EqMixed.eq_str_int (BS I q (by simp))
  |str j=>obtain⟨t',rfl⟩:=ry;exact eq_str (BS I q AA_)
  |_=>exact absurd (show false=true from hs) jo_
 |byt i=>
  obtain⟨t,rfl⟩:=rx
  cases y with
  |byt j=>obtain⟨t',rfl⟩:=ry;exact PySem.W.eq_bytes (BS I q AB_)
  |_=>exact absurd (show false=true from hs) jo_
 |_=>cases y<;>exact absurd (show false=true from hs) jo_
theorem OJ:OpR X (compareOp .NotEq) rNe:=by
 intro pins s σ H x y v u Q I rx ry h
 obtain⟨hs,q⟩:=h
 cases x with
 |non=>
  cases rx
  cases y with
  |non=>cases ry;exact PySem.EqNone.ne_none_none (BS I q (by simp))
  |bl j=>cases ry;exact PySem.EqNone.ne_none_bool (BS I q (by simp))
  |int j=>obtain⟨t',rfl⟩:=ry;exact PySem.EqNone.ne_none_int (BS I q (by simp))
  |str j=>obtain⟨t',rfl⟩:=ry;exact PySem.EqNone.ne_none_str (BS I q (by simp))
  |_=>exact absurd (show false=true from hs) jo_
 |bl i=>
  cases rx
  cases y with
  |non=>cases ry;exact PySem.EqNone.ne_bool_none (BS I q (by simp))
  |bl j=>cases ry;exact ne_bool (BS I q (qY_ not DL_))
  |str j=>obtain⟨t',rfl⟩:=ry;exact PySem.EqMixed.ne_bool_str (BS I q (by simp))
  |_=>exact absurd (show false=true from hs) jo_
 |int i=>
  obtain⟨t,rfl⟩:=rx
  cases y with
  |non=>cases ry;exact PySem.EqNone.ne_int_none (BS I q (by simp))
  |int j=>obtain⟨t',rfl⟩:=ry;exact ne_int (BS I q (qY_ not Az_))
  |str j=>obtain⟨t',rfl⟩:=ry;exact PySem.EqMixed.ne_int_str (BS I q (by simp))
  |_=>exact absurd (show false=true from hs) jo_
 |str i=>
  obtain⟨t,rfl⟩:=rx
  cases y with
  |non=>cases ry;exact PySem.EqNone.ne_str_none (BS I q (by simp))
  |bl j=>cases ry;exact PySem.EqMixed.ne_str_bool (BS I q (by simp))
  |int j=>obtain⟨t',rfl⟩:=ry;exact PySem.EqMixed.ne_str_int (BS I q (by simp))
  |str j=>obtain⟨t',rfl⟩:=ry;exact ne_str (BS I q (qY_ not AA_))
  |_=>exact absurd (show false=true from hs) jo_
 |byt i=>
  obtain⟨t,rfl⟩:=rx
  cases y with
  |byt j=>obtain⟨t',rfl⟩:=ry;exact PySem.W.ne_bytes (BS I q (qY_ not AB_))
  |_=>exact absurd (show false=true from hs) jo_
 |_=>cases y<;>exact absurd (show false=true from hs) jo_
theorem VA:OpR X (compareOp .Lt) (rI0 fun i j=>.bl (decide (i<j))):=opB0 fun _ _ _ _ _ _ _ q=>lt_int q
theorem Ih_:OpR X (compareOp .LtE) (rI0 fun i j=>.bl (decide (i<=j))):=opB0 fun _ _ _ _ _ _ _ q=>le_int q
theorem Fg_:OpR X (compareOp .Gt) (rI0 fun i j=>.bl (decide (j<i))):=opB0 fun _ _ _ _ _ _ _ q=>gt_int q
theorem Gz_:OpR X (compareOp .GtE) (rI0 fun i j=>.bl (decide (j<=i))):=opB0 fun _ _ _ _ _ _ _ q=>ge_int q
theorem RP:OpR X (compareOp .Is) (fun x y H Q=>y=.non/\Q (.bl (decide (x=.non))) H):=by
 intro pins s σ H x y v u Q I rx ry h
 obtain⟨rfl,q⟩:=h
 cases ry
 refine is_none_gen (BS I q ?_)
 cases x<;>first
  | (cases rx;rfl)
  | (obtain⟨t,rfl⟩:=rx;rfl)
theorem Ss:OpR X (compareOp .IsNot) (fun x y H Q=>y=.non/\Q (.bl (!decide (x=.non))) H):=by
 intro pins s σ H x y v u Q I rx ry h
 obtain⟨rfl,q⟩:=h
 cases ry
 refine isnot_none_gen (BS I q ?_)
 cases x<;>first
  | (cases rx;rfl)
  | (obtain⟨t,rfl⟩:=rx;rfl)
theorem AQ (b:Expr)  (h:op ≠ .In:=by decide)(h2:op ≠ .NotIn:=by decide):behindInMarks op b=false:=by
 have e1:(op==CmpOp.In)=false:=by cases op<;>first|rfl|exact absurd rfl h
 have e2:(op==CmpOp.NotIn)=false:=by cases op<;>first|rfl|exact absurd rfl h2
 cases b<;>simp[behindInMarks,e1,e2]
theorem HS   (ho:OpR X (compareOp op) r)(ha:PE X a ta)(hb:PE X b tb)(hm:behindInMarks op b=false):PE X (.Compare a [op] [b] pos) (tOp r ta tb):=by
 intro pins s σ H Q I h
 exact wpAny_Compare1 (binT ha hb I h fun v u s2 x y H2 I2 rx ry q=>ho pins s2 σ H2 x y v u Q I2 rx ry q) hm
noncomputable def Cq_ (t:TE):TT:=fun σ H Q=>t σ H fun x H'=>∃k,x=.bl k/\Q k H'
theorem AK   (ho:OpR X (compareOp op) r)(ha:PE X a ta)(hb:PE X b tb)(hm:behindInMarks op b=false):PT X (.Compare a [op] [b] pos) (Cq_ (tOp r ta tb)):=by
 intro pins s σ H Q I h
 refine wpAny_isTrue_Compare1 (thn (ha pins s σ H _ I h) fun v s1 ⟨x,H1,I1,r1,q1⟩=>thn (hb pins s1 σ H1 _ I1 q1) fun u s2 ⟨y,H2,I2,r2,q2⟩ =>
  thn (ho pins s2 σ H2 x y v u _ I2 r1 r2 q2) fun c s3 ⟨z,H3,I3,r3,k,e,q3⟩=>?_) hm
 subst e
 cases r3
 exact q2_ ⟨H3,I3,q3⟩
noncomputable def DM_ (r r':R2)(ta tb tc:TE):TE:=fun σ H Q=>ta σ H fun x H1=>tb σ H1 fun y H2=>r x y H2 fun z H3=>∃k,z=.bl k /\
 (if k=true then tc σ H3 fun w' H4=>r' y w' H4 Q else Q (.bl false) H3)
theorem Cr_   (ho:OpR X (compareOp op) r)(ho':OpR X (compareOp op') r')(ha:PE X a ta)(hb:PE X b tb)(hc:PE X c tc)
  (hm:lastMarks [op,op'] [b,c]=false:=by with_unfolding_all rfl):PE X (.Compare a [op,op'] [b,c] pos) (DM_ r r' ta tb tc):=by
 intro pins s σ H Q I h
 refine Compare_chain (thn (ha pins s σ H _ I h) fun v s1 ⟨x,H1,I1,r1,q1⟩=>chain_link (thn (hb pins s1 σ H1 _ I1 q1) fun u s2 ⟨y,H2,I2,r2,q2⟩ =>
  thn (ho pins s2 σ H2 x y v u _ I2 r1 r2 q2) fun d s3 ⟨z,H3,I3,r3,k,e,q3⟩=>?_)) hm
 subst e
 cases r3
 refine q2_ ?_
 cases k with
 |false=>exact ite_ff ⟨.bl false,H3,I3,rfl,q3⟩
 |true=>exact ite_tt (chain_last (thn (hc pins s3 σ H3 _ I3 q3) fun w' s4 ⟨z',H4,I4,r4,q4⟩=>ho' pins s4 σ H4 y z' u w' Q I4 r2 r4 q4))
theorem Yd:(sizeLine:Nat)<2 ^ 63:=by rw[sizeLine_eq];decide
theorem vals1   (r:Vals [x] us):∃u,us=[u]/\RelV x u:=by
 cases r with
 |cons r1 r2=>cases r2;exact⟨_,rfl,r1⟩
theorem vals2   (r:Vals [x,y] us):∃u w',us=[u,w']/\RelV x u/\RelV y w':=by
 cases r with
 |cons r1 r2=>
  cases r2 with
  |cons r3 r4=>cases r4;exact⟨_,_,rfl,r1,r3⟩
theorem OK (hc:X.calm=true):Hi X (.builtin "max") (fun xs H Q=>∃i j,xs=[.int i,.int j]/\Q (.int (if j > i then j else i)) H):=by
 intro pins s σ H xs us Q I r h
 obtain⟨i,j,rfl,q⟩:=h
 obtain⟨u,w',rfl,⟨t,rfl⟩,⟨t',rfl⟩⟩:=vals2 r
 refine max_two_ints (I.ok.hd hc) fun h' tk k=>⟨_,H,I.kept k,?_,q⟩
 by_cases hj:j > i
 ·rw[if_pos hj,if_pos hj];exact⟨_,rfl⟩
 ·rw[if_neg hj,if_neg hj];exact⟨_,rfl⟩
theorem AC_:Hi X (.type "int") (fun xs H Q=>(∃i,xs=[.int i]/\Q (.int i) H) \/ ∃k,xs=[.bl k]/\Q (.int (if k then 1 else 0)) H):=by
 intro pins s σ H xs us Q I r h
 rcases h with ⟨i,rfl,q⟩|⟨k,rfl,q⟩
 ·obtain⟨u,rfl,t,rfl⟩:=vals1 r
  exact call_int_int ⟨.int i,H,I,⟨_,rfl⟩,q⟩
 ·obtain⟨u,rfl,r1⟩:=vals1 r
  cases r1
  exact call_int_bool ⟨.int (if k then 1 else 0),H,I.tok _,⟨_,rfl⟩,q⟩
end
end L2
namespace L2
open PySem PySem.Spec PyProof.Rows
structure ObjM (h:Heap)(x dx C:Addr)(mA:Str->α5):Prop where
 obj:h.get? x=some (PySem.W.instObj C dx)
 ns:h.Ns1 dx mA
 ne:dx≠x
theorem AD_ {h:Heap}{dx:Addr}{mA:Str->α5}(n:h.Ns1 dx mA):∃od,h.get? dx=some od/\∀name,PySem.W.lookIn name od=some (mA name):=by
 obtain⟨o,es,ep,ho,hd,hk,_,hm⟩:=n
 refine⟨o,ho,fun name=>?_⟩
 have e:=hm name
 unfold nsFind findBy at e
 rw[<-Array.find?_toList]at e
 unfold PySem.W.lookIn
 rw[hd]
 dsimp only
 split
 ·rename_i y q
  rw[q]at e
  exact qY_ some e
 ·rename_i q
  rw[q]at e
  have a:es.toList.any (·.refKey)=false:=by
   rw[List.any_eq_false]
   intro y hy
   obtain⟨z,t,hkey⟩:=hk y (Array.mem_toList_iff.mp hy)
   simp[DictEntry.refKey,hkey]
  have a':¬ es.toList.any (·.refKey)=true:=by rw[a];exact jo_
  rw[if_neg a']
  exact qY_ some e
theorem ObjM.look    (I:ObjM h x dx C mA):∃od,PySem.W.InstAt h x (PySem.W.instObj C dx) C (some od)/\∀name,PySem.W.lookIn name od=some (mA name):=
 let ⟨od,ho,hl⟩:=AD_ I.ns
 ⟨od,⟨I.obj,rfl,rfl,ho⟩,hl⟩
theorem RelO.some_of   (r:RelO (some v) o):∃u,o=some u/\RelV v u:=by
 cases o with
 |none=>exact (show False from r).elim
 |some u=>exact⟨u,rfl,r⟩
section
variable {P:Program} {w:World} {H H':Hp} {h h':Heap} {a C dx:Addr} {fs fs':List (Str×V)}
theorem Fh_ (hok:HOk P w H h)(e:H a=some (.ins C dx fs)):∃mA,ObjM h a dx C mA/\(∀f,RelO (fs.lookup f) (mA f))/\PySem.Within mA (fs.map (·.1))/\fs.length<=1000/\H dx=some (.own a):=by
 obtain⟨d,z,ne,ob,mA,n,r,q⟩:=(show Bz P w H h a (.ins C dx fs) from hok a _ e)
 exact⟨mA,⟨ob,n,ne⟩,r,q,z,d⟩
end
structure Cls (K:α3)(C:Addr):Prop where
 pg:PySem.W.plainGet K C Str.empty=true
 hd:PySem.W.hasDictIn K C=true
 po:PySem.W.plainOver K C=true
 sa:PySem.W.findIn K (.ref C) "__setattr__"=some (some (.builtin "object.__setattr__"))
theorem Cls.get {K:α3}  (c:Cls K C)(f:Str):PySem.W.plainGet K C f=true:=c.pg
section
variable {X:Cx} {pins:α7} {σ:St} {H:Hp} {s:Shared} {A:Around} {E:Value->Shared->Prop} {Q:Value->Shared->Prop} {c:Value} {b:Bool}
inductive TyOf (K:α3)(H:Hp):V->Value->Prop where
 | non:TyOf K H .non (.type "NoneType")
 | bl (x:Bool):TyOf K H (.bl x) (.type "bool")
 | int (i:Int):TyOf K H (.int i) (.type "int")
 | str (x:Str):TyOf K H (.str x) (.type "str")
 | flt (x:UInt64):TyOf K H (.flt x) (.type "float")
 | lst {a:Addr} {xs:List V} (e:H a=some (.lst xs)):TyOf K H (.ref a) (.type "list")
 | frz {a:Addr} {o:Obj} {xs:List V} (e:H a=some (.frz o (.lst xs))):TyOf K H (.ref a) (.type "list")
 | tup {a:Addr} {xs:List V} (e:H a=some (.tup xs)):TyOf K H (.ref a) (.type "tuple")
 | dK {a:Addr} {kvs:List (Key×V)} (e:H a=some (.dK kvs)):TyOf K H (.ref a) (.type "dict")
 | dT {a:Addr} {kvs:List (List Key×V)} (e:H a=some (.dT kvs)):TyOf K H (.ref a) (.type "dict")
 | ins {a C dx:Addr} {fs:List (Str×V)} (e:H a=some (.ins C dx fs)) (cl:Cls K C) (ha:PySem.W.findIn K (.ref C) "__class__"=some (some (.builtin "object.__class__")))
   (hn:PySem.W.specialIn K (.builtin "object.__class__") "__get__"=some (some (.builtin "getset_descriptor.__get__"))) (htk:PySem.W.takesIn K (.builtin "object.__class__")=some true)
   (hm:PySem.W.mroIn K C (.type "object")=some true):TyOf K H (.ref a) (.ref C)
theorem AE_   (I:Inv X pins σ H s)(rx:RelV x u)(ty:TyOf X.K H x t)(e:kitOne X.K t c=some b)(h:∀tk,Q (.bool b) {s with toks:=tk}):
  wpAny (model X.prog X.w) A (call (.builtin "isinstance") [u,c]) Q E s:=by
 cases ty with
 |non=>cases (show u=Value.none from rx);exact qn_ PySem.W.kitx_none I.kIn True.intro e (fun z=>nomatch z) h
 |bl y=>cases (show u=Value.bool y from rx);exact qn_ PySem.W.kitx_bool I.kIn True.intro e (fun z=>nomatch z) h
 |int i=>obtain⟨t,q⟩:=(show ∃t,u=Value.int i t from rx);cases q;exact qn_ PySem.W.kitx_int I.kIn True.intro e (fun z=>nomatch z) h
 |str y=>obtain⟨t,q⟩:=(show ∃t,u=Value.str y t from rx);cases q;exact qn_ PySem.W.kitx_str I.kIn True.intro e (fun z=>nomatch z) h
 |flt y=>obtain⟨t,q⟩:=(show ∃t,u=Value.float y t from rx);cases q;exact qn_ PySem.W.kitx_float I.kIn True.intro e (fun z=>nomatch z) h
 |@lst a xs ea=>
  cases (show u=Value.ref a from rx)
  obtain⟨_,_,n,_,h1⟩:=(show Bz X.prog X.w H s.heap a (.lst xs) from I.hok a _ ea)
  exact qn_ zz_ I.kIn ⟨_,h1,rfl⟩ e (fun z=>nomatch z) h
 |@frz a ob xs ea=>
  cases (show u=Value.ref a from rx)
  obtain⟨_,_,_,n,_,h1⟩:=(show Bz X.prog X.w H s.heap a (.frz ob (.lst xs)) from I.hok a _ ea)
  exact qn_ zz_ I.kIn ⟨_,h1,rfl⟩ e (fun z=>nomatch z) h
 |@tup a xs ea=>
  cases (show u=Value.ref a from rx)
  obtain⟨_,_,_,p⟩:=(show Bz X.prog X.w H s.heap a (.tup xs) from I.hok a _ ea)
  obtain⟨o,h1,h2,_⟩:=p
  exact qn_ PySem.W.kitx_tuple I.kIn ⟨o,h1,h2⟩ e (fun z=>nomatch z) h
 |@dK a kvs ea=>
  cases (show u=Value.ref a from rx)
  obtain⟨_,_,vs,_,p⟩:=(show Bz X.prog X.w H s.heap a (.dK kvs) from I.hok a _ ea)
  obtain⟨o,es,ep,h1,h2,_⟩:=p
  exact qn_ PySem.W.kitx_dict I.kIn ⟨o,h1,h2.1⟩ e (fun z=>nomatch z) h
 |@dT a kvs ea=>
  cases (show u=Value.ref a from rx)
  obtain⟨_,_,xs,_,o,es,ep,h1,h2,_⟩:=(show Bz X.prog X.w H s.heap a (.dT kvs) from I.hok a _ ea)
  exact qn_ PySem.W.kitx_dict I.kIn ⟨o,h1,h2.1⟩ e (fun z=>nomatch z) h
 |@ins a C dx fs ea cl ha hn htk hm=>
  cases (show u=Value.ref a from rx)
  obtain⟨mA,O,_⟩:=Fh_ I.hok ea
  obtain⟨od,J,_⟩:=O.look
  exact qn_ (PySem.W.kitx_own (cl.get _) cl.hd ha hn htk hm) I.kIn J e (fun z=>nomatch z) h
end
end L2
namespace L2
open PySem PySem.Spec PyProof.Rows
structure Room (k:Nat)(A:Around):Prop where
 hd:A.handled=none
 dp:A.depth+3*k+5<recursionLimit
 un:A.units+16*k+200<cLine
theorem Room.mono   (r:Room k A)(h:j<=k):Room j A:=⟨r.hd,by have:=r.dp;lia,by have:=r.un;lia⟩
theorem Room.deeper   (r:Room (k+1) A)(env:Env):Room k (A.deeper env):=
 ⟨r.hd,by have:=r.dp;show A.depth+1+3*k+5<_;lia,by have:=r.un;show A.units+3+16*k+200<_;lia⟩
theorem Room.depth   (r:Room k A):A.depth<recursionLimit:=by have:=r.dp;lia
theorem Room.units   (r:Room k A):A.units+64<cLine:=by have:=r.un;lia
noncomputable def tNil:TA:=fun _ H Q=>Q [] H
noncomputable def GA_ (ta:TE)(tr:TA):TA:=fun σ H Q=>ta σ H fun x H1=>tr σ H1 fun xs H2=>Q (x::xs) H2
section
variable {X:Cx} {e:Expr} {es:List Expr} {te:TE} {t:TA} {pos:Pos}
theorem Ab:PA X [] tNil:=fun _ _ _ _ H Q I h=>Calls.spliced_nil ⟨[],H,I,.nil,h⟩
theorem Aa (ha:PE X e te)(hr:PA X es t)(hs:starEach (e::es) X.env=(false,eval e X.env)::starEach es X.env:=by rfl):PA X (e::es) (GA_ te t):=by
 intro pos pins s σ H Q I h
 rw[hs]
 show wpAny _ _ (spliced ((false,eval e X.env)::backTo pos (starEach es X.env))) _ _ s
 refine Calls.spliced_cons (thn (ha pins s σ H _ I h) fun u s1 ⟨x,H1,I1,r1,q1⟩=>?_)
 exact thn (hr pos pins s1 σ H1 _ I1 q1) fun us s2 ⟨xs,H2,I2,r2,q2⟩=>⟨x::xs,H2,I2,.cons r1 r2,q2⟩
noncomputable def tTup (t:TA):TE:=fun σ H Q=>t σ H fun xs H1=>xs.length<=sizeLine/\∀p,H1 p=none->Q (.ref p) (upd H1 p (.tup xs))
noncomputable def tLst (t:TA):TE:=fun σ H Q=>t σ H fun xs H1=>xs.length<=sizeLine/\∀p,H1 p=none->Q (.ref p) (upd H1 p (.lst xs))
theorem A4 {x1}(h:PA X es t):PE X (.Tuple es x1 pos) (tTup t):=by
 intro pins s σ H Q I hq
 refine wpAny_Tuple_spliced (thn (h pos pins s σ H _ I hq) fun us s1 ⟨xs,H1,I1,r,z,q⟩=>⟨by rw[<-r.length];exact z,?_⟩)
 have hf:H1 s1.heap.objs.size=none:=I1.hok.fresh (jf_ _)
 refine⟨.ref s1.heap.objs.size,upd H1 s1.heap.objs.size (.tup xs),I1.laid (t':=s1.toks) (fun b u e=>jm_ _ e) (jf_ _) ?_,rfl,q _ hf⟩
 exact⟨z,us,r,⟨_,jy_ _ rfl,rfl,_,rfl⟩⟩
theorem Ex (h:PA X es t):PE X (.List es pos) (tLst t):=by
 intro pins s σ H Q I hq
 refine wpAny_List_spliced (thn (h pos pins s σ H _ I hq) fun us s1 ⟨xs,H1,I1,r,z,q⟩=>⟨by rw[<-r.length];exact z,?_⟩)
 have hf:H1 s1.heap.objs.size=none:=I1.hok.fresh (jf_ _)
 refine⟨.ref s1.heap.objs.size,upd H1 s1.heap.objs.size (.lst xs),I1.laid (t':=s1.toks) (fun b u e=>jm_ _ e) (jf_ _) ?_,rfl,q _ hf⟩
 exact⟨z,us,0,r,jy_ _ rfl⟩
end
noncomputable abbrev Sp:=List V->Hp->VK->XK->Prop
noncomputable abbrev CXT:=List Env->Hp->Shared->XK->Value->Shared->Prop
structure Env0 (P:Program)(w:World)(K:α3)(mg:Str->α5)(base:Heap)(A:Around)(outer:List Env)(s:Shared)(H:Hp):Prop where
 frames:A.frames=some outer
 mod:Mod K mg base
 bs:∀b o,base.get? b=some o->s.heap.get? b=some o/\H b=none
 bsz:base.objs.size<=s.heap.objs.size
 funs:s.heap.FunFrames base outer
 frf:∀b∈frs outer,H b=none
 hok:HOk P w H s.heap
 bare:AllBare s.gens
noncomputable def CE (outer:List Env)(P:Program)(w:World)(H:Hp)(s:Shared)(Q:VK)(u:Value)(s':Shared):Prop:=
 ∃v H',s'.os=s.os/\AllBare s'.gens/\Un (frs outer) [] H H' s.heap s'.heap/\HOk P w H' s'.heap/\RelV v u/\Q v H'
noncomputable def CR (CX:CXT)(outer:List Env)(P:Program)(w:World)(H:Hp)(s:Shared)(Q:VK)(E:XK)(r:Result)(s':Shared):Prop:=
 match r with
 |.ok (.ret u)=>CE outer P w H s Q u s'
 |.ok _=>False
 |.error e=>CX outer H s E e s'
structure FnOk (P:Program)(w:World)(K:α3)(mg:Str->α5)(base:Heap)(CX:CXT)(k:Nat)(f:Addr)(fd:α6)(ps:List Str)(sp:Sp):Prop where
 len:∀vs H Q E,sp vs H Q E->vs.length=ps.length
 run:∀(A:Around) (outer:List Env) (s:Shared) (H:Hp) (args:Args) (us:List Value) (vs:List V) (Q:VK) (E:XK),Room k A->Env0 P w K mg base A outer s H->BindsTo s fd args (ps.zip us)->Vals vs us->sp vs H Q E ->
  codeAny (model P w) A (.call (.ref f) args) (CR CX outer P w H s Q E) s
section
variable {X:Cx} {pins:α7} {σ:St} {H:Hp} {s s':Shared}
theorem Inv.env0 (I:Inv X pins σ H s):Env0 X.prog X.w X.K X.mg X.base X.A X.stack s H:=
 ⟨I.ok.frames,I.ok.mod,I.bs,jV_ I.ok.bsz I.sz,I.stack,I.stkFree,I.hok,I.bare⟩
theorem Inv.after   (I:Inv X pins σ H s)(h:CE X.stack X.prog X.w H s Q u s'):EP X pins σ Q u s':=by
 obtain⟨v,H',os,bare,un,hok,r,q⟩:=h
 obtain⟨hh,g,d,t,os'⟩:=s'
 obtain rfl:os'=s.os:=os
 exact⟨v,H',I.call (h':=hh) (g':=g) (d':=d) (t':=t) (ch:=[]) un hok bare (fun b z=>absurd z (by simp)),r,q⟩
end
noncomputable def GB_ (sp:Sp)(dvs:List V)(E:XK)(t:TA):TE:=fun σ H Q=>t σ H fun vs H1=>sp (vs++dvs) H1 Q E
noncomputable def AI (K:α3)(fd:α6)(ps:List Str)(ds:List Value):Prop:=
 ∀(s:Shared) (us:List Value),K.In s.heap->(us++ds).length=ps.length->BindsTo s fd ⟨us,[]⟩ (ps.zip (us++ds))
theorem AI.all {K:α3}   (h:∀us:List Value,us.length=ps.length->bindArgs fd ⟨us,[]⟩=pure (ps.zip us)):AI K fd ps []:=fun s us _ hl=>by
 rw[zp_]at hl ⊢
 exact .of_eq (h us hl)
noncomputable def VB (CX:CXT)(X:Cx)(E:XK):Prop:=∀(pins:α7) (σ:St) (H:Hp) (s:Shared) (e:Value) (s':Shared),Inv X pins σ H s->CX X.stack H s E e s'->X.xe e s'
section
variable {X:Cx} {CX:CXT} {k:Nat} {f C:Addr} {fd:α6} {ps:List Str} {sp:Sp} {dvs:List V} {ds:List Value} {E:XK} {x m:Str} {p pos apos:Pos} {e o:Expr} {es:List Expr} {ta:TE} {t:TA}
theorem GC_        (F:FnOk X.prog X.w X.K X.mg X.base CX k f fd ps sp)(hr:Room k X.A)(hb:AI X.K fd ps ds)(hd:Vals dvs ds)(hx:VB CX X E)
  (I:Inv X pins σ H s) (r:Vals vs us) (h:sp (vs++dvs) H Q E):wpAny (model X.prog X.w) X.A (call (.ref f) us) (EP X pins σ Q) X.xe s:=by
 have r2:Vals (vs++dvs) (us++ds):=r.append hd
 have hl:(us++ds).length=ps.length:=by rw[<-r2.length];exact F.len _ _ _ _ h
 refine wpAny_call (codeAny_mono (F.run X.A X.stack s H ⟨us,[]⟩ (us++ds) (vs++dvs) Q E hr I.env0 (hb s us I.kIn hl) r2 h) fun r s' hq=>?_)
 cases r with
 |error e=>exact hx pins σ H s e s' I hq
 |ok fl=>
  cases fl with
  |ret u=>exact I.after hq
  |next=>exact False.elim hq
  |brk=>exact False.elim hq
  |cont=>exact False.elim hq
theorem Ai (F:FnOk X.prog X.w X.K X.mg X.base CX k f fd ps sp)(hr:Room k X.A)(hg:Gl X x)(hm:X.mg x=some (.ref f))(hk:keepIn X.K (.ref f)=true)(hb:AI X.K fd ps ds)(hd:Vals dvs ds)(hx:VB CX X E)
  (ha:PA X (e::es) t) (hdb:(x==("__debug__" : Str))=false:=by decide) (he:starEach (e::es) X.env=(false,eval e X.env)::starEach es X.env:=by rfl) (hpl:(backTo pos (starEach es X.env)).any (·.1)=false:=by rfl):
  PE X (.Call (.Name x p) (e::es) [] pos) (GB_ sp dvs E t):=by
 intro pins s σ H Q I h
 refine xq_ (OH I hg hm ?_ hdb)
 refine zw_ (h₀:=X.base) I.ok.mod.kin hk (thn (ha pos pins s σ H _ I h) fun us s1 ⟨vs,H1,I1,r,q⟩=>⟨I1.kIn,?_⟩) he hpl
 exact GC_ F hr hb hd hx I1 r q
end
structure FnScope (N P:List Str)(sc:Scope):Prop where
 kind:sc.kind=.function
 co:sc.isCoroutine=false
 gen:sc.isGenerator=false
 nd:N.Nodup
 pre:N.take P.length=P
 par:∀x∈P,sc.names.lookup x=some .local\/sc.names.lookup x=some .cell
 nofree:∀y∈sc.names,y.2 ≠ .free
theorem VC {kindOf:Str->Option NameKind}{x:Str}:∀{binds:List (Str×Value)} {m:Str->α5},(∀v,(x,v)∉binds)->bindL kindOf binds m x=m x
 |[],_,_=>rfl
 | (n,v)::r,m,h=>by
  unfold bindL
  rw[VC fun w hw=>h w (jt_ _ hw)]
  split
  ·have:x≠n:=by rintro rfl;exact h v jC_
   simp[this]
  ·rfl
theorem VD {kindOf:Str->Option NameKind}{x:Str}:∀{binds:List (Str×Value)} {m:Str->α5},(∀v,(x,v)∉binds)->bindC kindOf binds m x=m x
 |[],_,_=>rfl
 | (n,v)::r,m,h=>by
  unfold bindC
  rw[VD fun w hw=>h w (jt_ _ hw)]
  split
  ·rfl
  ·have:x≠n:=by rintro rfl;exact h v jC_
   simp[this]
theorem VE {kindOf:Str->Option NameKind}{x:Str}{v:Value}:∀{P:List Str} {vs:List Value} {i:Nat} {m:Str->α5},P.Nodup->P[i]?=some x->vs[i]?=some v->kindOf x=some .local ->
  bindL kindOf (P.zip vs) m x=some v
 |[],_,_,_,_,h,_,_=>by simp at h
 |_::_,[],_,_,_,_,h,_=>by simp at h
 |p::P,w::vs,0,m,nd,h1,h2,hk=>by
  simp at h1 h2;subst h1;subst h2
  show bindL kindOf ((p,w)::P.zip vs) m p=_
  unfold bindL
  rw[VC fun v hv=>(zq_.mp nd).1 (List.of_mem_zip hv).1,if_pos hk]
  simp
 |p::P,w::vs,i+1,m,nd,h1,h2,hk=>by
  show bindL kindOf ((p,w)::P.zip vs) m x=_
  unfold bindL
  exact VE (i:=i) (zq_.mp nd).2 (by simpa using h1) (by simpa using h2) hk
theorem VF {kindOf:Str->Option NameKind}{x:Str}{v:Value}:∀{P:List Str} {vs:List Value} {i:Nat} {m:Str->α5},P.Nodup->P[i]?=some x->vs[i]?=some v->kindOf x≠some .local ->
  bindC kindOf (P.zip vs) m x=some v
 |[],_,_,_,_,h,_,_=>by simp at h
 |_::_,[],_,_,_,_,h,_=>by simp at h
 |p::P,w::vs,0,m,nd,h1,h2,hk=>by
  simp at h1 h2;subst h1;subst h2
  show bindC kindOf ((p,w)::P.zip vs) m p=_
  unfold bindC
  rw[VD fun v hv=>(zq_.mp nd).1 (List.of_mem_zip hv).1,if_neg hk]
  simp
 |p::P,w::vs,i+1,m,nd,h1,h2,hk=>by
  show bindC kindOf ((p,w)::P.zip vs) m x=_
  unfold bindC
  exact VF (i:=i) (zq_.mp nd).2 (by simpa using h1) (by simpa using h2) hk
noncomputable def start (N:List Str)(vs:List V):St:=vs.map some++List.replicate (N.length-vs.length) none
noncomputable def cxOf (CX:CXT)(P:Program)(w:World)(K:α3)(mg:Str->α5)(base:Heap)(N:List Str)(qual:Str)(scope:Scope)(f:Addr)(cd:Value)(A:Around)(outer:List Env)(s:Shared)(H:Hp)(E:XK):Cx where
 prog:=P
 w:=w
 K:=K
 mg:=mg
 base:=base
 A:=A.deeper (envOfC qual scope s.heap.objs.size f cd)
 N:=N
 s₀:=s
 H₀:=H
 env:=envOfC qual scope s.heap.objs.size f cd
 outer:=outer
 stack:=envOfC qual scope s.heap.objs.size f cd::outer
 ex:=[]
 calm:=true
 fn:=fun _=>true
 pn:=[]
 xe:=fun e s'=>wpAny (model P w) (A.deeper (envOfC qual scope s.heap.objs.size f cd)) (leaving (envOfC qual scope s.heap.objs.size f cd) e) (fun _ s''=>CX outer H s E e s'') (fun e' s''=>CX outer H s E e' s'') s'
theorem Ye {sc:Scope}{n:Nat}{x:Str}(h:sc.names.lookup x=some .cell):∃c,(cellsFrom n sc.names []).lookup x=some c:=by
 have q:=xY_ sc.names n [] (.inl h)
 exact Option.isSome_iff_exists.mp q
theorem AF_    {K:α3}
  (S:FnScope N ps scope) (hd:A.handled=none) (e0:Env0 P w K mg base A outer s H) (hl:vs.length=ps.length) (r:Vals vs us)
  (x:InCallC s s.heap.objs.size (bindL (envOfC qual scope s.heap.objs.size f cd).kindOf (ps.zip us) fun _=>none) (cellsFrom (s.heap.objs.size+1) scope.names []) (bindC (envOfC qual scope s.heap.objs.size f cd).kindOf (ps.zip us) fun _=>none) s1):
  Inv (cxOf CX P w K mg base N qual scope f cd A outer s H E) [] (start N vs) H s1:=by
 have hpl:ps.length<=N.length:=by have:=qY_ List.length S.pre;rw[jR_]at this;lia
 obtain⟨h1,tk,rfl,hk⟩:=x.done
 have noA:∀b:Addr,b∉(cxOf CX P w K mg base N qual scope f cd A outer s H E).ex:=fun b z=>absurd (show b∈([]:List Addr) from z) (by simp)
 refine⟨⟨e0.mod,S.kind,rfl,rfl,jf_ _,fun y z c h1 h2=>?_,fun y hy=>?_,fun y c _ h=>?_,fun _=>hd,Around.frames_deeper e0.frames,.inr ⟨rfl,rfl⟩,fun b z=>absurd z (noA b),e0.bs,e0.bsz,fun b _ _=>noA b,fun b z=>absurd z (noA b),e0.funs,e0.frf⟩,
  rfl,e0.bare,Un.kept hk,⟨_,x.toInCall.ns,fun i y v h1 h2 h3=>?_⟩,fun y c h=>⟨_,x.cell y c h⟩,e0.hok.fresh (jf_ _),fun y c h=>?_,fun p hp=>absurd (show p∈([]:α7) from hp) (by simp),e0.hok.kept hk,?_⟩
 ·exact name_of_addr x.apart (qd_ h1) (qd_ h2)
 ·have hy:scope.names.lookup y=some .cell\/scope.names.lookup y=some .free:=hy
  rcases hy with hy|hy
  ·exact Ye hy
  ·exact absurd rfl (S.nofree _ (qd_ hy))
 ·exact x9_ (x.above y c (qd_ h))
 ·have hi:i<vs.length:=by
   unfold start at h2
   by_cases hi:i<vs.length
   ·exact hi
   ·rw[jq_ (by simpa using hi)]at h2
    rw[j8_]at h2
    split at h2<;>cases h2
  have ha:vs[i]?=some v:=by
   unfold start at h2
   rw[jn_ (by simpa using hi),jh_]at h2
   cases e:vs[i]? with
   |none=>rw[e]at h2;cases h2
   |some a=>rw[e]at h2;cases h2;rfl
  obtain⟨u,hu,rv⟩:=r.get ha
  have hp:ps[i]?=some y:=by
   rw[<-S.pre,List.getElem?_take_of_lt s!""];exact h1
  have ndP:ps.Nodup:=by rw[<-S.pre];exact S.nd.sublist (List.take_sublist _ _)
  refine⟨u,rv,?_⟩
  rcases S.par y (jj_ hp) with k|k
  ·exact .inl ⟨k,VE ndP hp hu k⟩
  ·obtain⟨c,e⟩:=Ye (n:=s.heap.objs.size+1) k
   refine .inr ⟨.inl k,c,e,?_⟩
   have q:=x.cell y c e
   rw[VF ndP hp hu (by show scope.names.lookup y≠_;rw[k];decide)]at q
   exact q
 ·exact e0.hok.fresh (x9_ (x.above y c (qd_ h)))
 ·unfold start
  show _=N.length
  rw[jk_,jb_,qa_]
  lia
theorem GD_    {K:α3}         {dV kV doc pm cdv ct oc:Value}
       (lk:K.lookup f=some ⟨oc,od,.func (fnOf name qual params body scope dV kV doc pm an cdv ct),osl⟩) (hcd:codeIn K cdv qual=true) (S:FnScope N ps scope)
    (len:∀vs H Q E,sp vs H Q E->vs.length=ps.length)
    (hbody:∀(A:Around) (outer:List Env) (s:Shared) (H:Hp) (vs:List V) (Q:VK) (E:XK),Room k (A.deeper (envOfC qual scope s.heap.objs.size f cdv))->sp vs H Q E ->
      ∃t,PSs (cxOf CX P w K mg base N qual scope f cdv A outer s H E) body t/\t {nx:=fun _ H'=>Q .non H',rt:=Q} (start N vs) H):
    FnOk P w K mg base CX (k+1) f (fnOf name qual params body scope dV kV doc pm an cdv ct) ps sp:=by
  refine⟨len,fun A outer s H args us vs Q E hr e0 hb r hsp=>?_⟩
  have hl:=len _ _ _ _ hsp
  have KX:K.In s.heap:=e0.mod.kin.keeps fun b o e=>(e0.bs b o e).1
  have lim:s.heap.NoLimit:=e0.mod.nolimit.keeps fun b o e=>(e0.bs b o e).1
  have hkind:∀y∈ps.zip us,scope.names.lookup y.1=some .local\/(scope.names.lookup y.1=some .cell/\((cellsFrom (s.heap.objs.size+1) scope.names []).lookup y.1).isSome=true):=fun ⟨n,v⟩ hy=>by
    rcases S.par n (List.of_mem_zip hy).1 with q|q
    . exact .inl q
    . exact .inr ⟨q,xY_ _ _ _ (.inl q)⟩
  refine codeAny_call_function hr.depth (KX _ _ lk) rfl S.co S.gen rfl (PySem.W.codeRec_of KX hcd) (hb _ _ _ _ ?_)
  refine wpAny_newFunctionEnv_cells S.kind hkind fun env he s1 x=>?_
  subst he
  refine⟨lim.keeps x.toInCall.keep,codeAny_func ?_⟩
  obtain⟨t,ht,hq⟩:=hbody A outer s H vs Q E (hr.deeper _) hsp
  have I:Inv (cxOf CX P w K mg base N qual scope f cdv A outer s H E) [] (start N vs) H s1:=AF_ S hr.hd e0 hl r x
  refine qL_ (ht [] s1 (start N vs) H _ I hq) (fun fl s' hs=>?_) fun e s' hs=>hs
  have fin:∀{σ':St} {H':Hp} {v:V} {u:Value},Inv (cxOf CX P w K mg base N qual scope f cdv A outer s H E) [] σ' H' s'->RelV v u->Q v H'->CE outer P w H s Q u s' :=
    fun {σ' H' v u} J rv q=>⟨v,H',J.os,J.bare,J.base,J.hok,rv,q⟩
  cases fl with
  |ret u=>
    obtain⟨v,σ',H',J,rv,q⟩:=hs
    exact fin J rv q
  |next=>
    obtain⟨σ',H',J,q⟩:=hs
    exact fin (v:=V.non) (u:=Value.none) J rfl q
  |brk=>
    obtain⟨_,_,_,q⟩:=hs
    exact False.elim q
  |cont=>
    obtain⟨_,_,_,q⟩:=hs
    exact False.elim q
end L2
namespace L2
open PySem PySem.Spec PyProof.Rows
section
variable {X:Cx} {x:Str} {p pos:Pos} {e:Expr} {es:List Expr} {t:TA} {id T:String} {r:List V->Hp->VK->Prop}
noncomputable def tCB (r:List V->Hp->VK->Prop)(t:TA):TE:=fun σ H Q=>t σ H fun vs H1=>r vs H1 Q
theorem Az (hc:Hi X (.builtin id) r)(hg:Gl X x)(hm:X.mg x=none)(hv:bootBuiltins x=some (.builtin id))(ha:PA X (e::es) t)(hn:x ≠ "__name__" := by decide)(hdb:(x==("__debug__" : Str))=false:=by decide)
  (he:starEach (e::es) X.env=(false,eval e X.env)::starEach es X.env:=by rfl) (hpl:(backTo pos (starEach es X.env)).any (·.1)=false:=by rfl):PE X (.Call (.Name x p) (e::es) [] pos) (tCB r t):=by
 intro pins s σ H Q I h
 refine xq_ (La I hg hm hv ?_ hn hdb)
 exact PyProof.Rows.callWith_builtin1 (thn (ha pos pins s σ H _ I h) fun us s1 ⟨vs,H1,I1,r1,q1⟩=>hc pins s1 σ H1 vs us Q I1 r1 q1) he hpl
theorem AR (hc:Hi X (.type T) r)(hg:Gl X x)(hm:X.mg x=none)(hv:bootBuiltins x=some (.type T))(ha:PA X (e::es) t)(hn:x ≠ "__name__" := by decide)(hdb:(x==("__debug__" : Str))=false:=by decide)
  (he:starEach (e::es) X.env=(false,eval e X.env)::starEach es X.env:=by rfl) (hpl:(backTo pos (starEach es X.env)).any (·.1)=false:=by rfl):PE X (.Call (.Name x p) (e::es) [] pos) (tCB r t):=by
 intro pins s σ H Q I h
 refine xq_ (La I hg hm hv ?_ hn hdb)
 exact qw_ (thn (ha pos pins s σ H _ I h) fun us s1 ⟨vs,H1,I1,r1,q1⟩=>hc pins s1 σ H1 vs us Q I1 r1 q1) he hpl
end
end L2
namespace HT
open PySem PyProof.Rows
section
variable {prog:Program} {w:World} {A:Around} {E:Value->Shared->Prop} {s:Shared}
theorem cat_tup    (ht:IsTup s.heap t vs.toArray)(hb:IsTup s.heap b ws.toArray)(hv:vs ≠ [])
  (h1:ws=[]->Q (.ref t) s) (h2:ws ≠ []->Q (.ref s.heap.objs.size) {s with heap:=s.heap.push {cls:=.type "tuple",data:=.seq (vs++ws).toArray} })
  (hsz:vs.length+ws.length<=sizeLine):wpAny (model prog w) A (binaryOp .Add (.ref t) (.ref b)) Q E s:=by
 obtain⟨⟨cls,dd,data,sl⟩,ho,hc,n,hd⟩:=id ht
 obtain⟨⟨cls2,dd2,data2,sl2⟩,ho2,hc2,n2,hd2⟩:=id hb
 simp only at hc hd hc2 hd2
 subst hc hd hc2 hd2
 have e:vs.toArray++ws.toArray=(vs++ws).toArray:=by simp
 by_cases hw:ws=[]
 ·exact concat_meets ⟨_,ho,rfl⟩ ⟨_,ho2,rfl⟩ noFill_tuple_add seq_tuple_add xZ_ xO_ (xJ_ _ _)
   (tuple_addW1 t b vs.toArray ws.toArray n n2 dd dd2 sl sl2 (by simpa using hv) (by simp[hw])) ⟨ho,ho2,h1 hw⟩
 ·refine concat_meets ⟨_,ho,rfl⟩ ⟨_,ho2,rfl⟩ noFill_tuple_add seq_tuple_add xZ_ xO_ (xJ_ _ _)
   (tuple_addW2 t b vs.toArray ws.toArray n n2 dd dd2 sl sl2 (by simpa using hv) (by simpa using hw) (by rw[jl_,jl_];exact hsz)) ⟨ho,ho2,?_⟩
  rw[e]
  exact h2 hw
noncomputable def sIx (n d:Nat):Option Int->Nat
 |none=>d
 |some v=>if v<0 then (v+(n:Int)).toNat else min v.toNat n
theorem sIx_none (n d:Nat):sIx n d none=d:=rfl
theorem sIx_nat (n d k:Nat):sIx n d (some (k:Int))=min k n:=by
 show (if (k:Int)<0 then ((k:Int)+(n:Int)).toNat else min (k:Int).toNat n)=min k n
 rw[if_neg s!"",jA_]
theorem GE_ (n d:Nat)(hd:d<=n)(o:Option Int):sIx n d o<=n:=by
 cases o with
 |none=>exact hd
 |some v=>
  show (if v<0 then (v+(n:Int)).toNat else min v.toNat n)<=n
  by_cases hv:v<0
  ·rw[if_pos hv];lia
  ·rw[if_neg hv];exact Nat.min_le_right _ _
theorem AG_ (v:Int)(n d:Nat):(if v<0 then max (v+(n:Int)) 0 else min v (n:Int))=((sIx n d (some v):Nat):Int):=by
 show (if v<0 then max (v+(n:Int)) 0 else min v (n:Int))=(((if v<0 then (v+(n:Int)).toNat else min v.toNat n):Nat):Int)
 by_cases hv:v<0
 ·simp only[if_pos hv];lia
 ·simp only[if_neg hv];lia
theorem Y1 (lo hi:Option Int)(n:Nat):Builtin.Slice.sliceAdjust lo hi 1 (n:Int)=(((sIx n 0 lo:Nat):Int),((sIx n n hi:Nat):Int)):=by
 have h1:¬ ((1:Int)<0):=by lia
 unfold Builtin.Slice.sliceAdjust
 simp only[h1,xP_]
 refine Prod.ext ?_ ?_
 ·cases lo with
  |none=>rfl
  |some v=>exact AG_ v n 0
 ·cases hi with
  |none=>rfl
  |some v=>exact AG_ v n n
theorem Y2 (i j:Nat):Builtin.Slice.slicePlaces (i:Int) (j:Int) 1=j-i:=by
 unfold Builtin.Slice.slicePlaces
 have h1:(1:Int) > 0:=by lia
 simp only[h1,zE_,Int.ediv_one]
 split<;>lia
theorem RQ    (p:IsPart v o)(h:Q o s):wpAny (model prog w) A (Builtin.Slice.slicePartIndex v) Q E s:=by
 cases p with
 |none=>exact slicePart_none h
 |int i t=>exact slicePart_int h
theorem IE {sl:Addr}{vl vu:Value}{lo hi:Option Int}{n:Nat}{Q:Int×Int×Nat->Shared->Prop}(hs:s.heap.IsSliceOf sl vl vu .none)(pl:IsPart vl lo)(pu:IsPart vu hi)
  (h:Q (((sIx n 0 lo:Nat):Int),1,sIx n n hi-sIx n 0 lo) s):wpAny (model prog w) A (Builtin.Slice.sliceApplied (.ref sl) (pure (n:Int))) Q E s:=by
 obtain⟨os,hos,hcs,hds⟩:=id hs
 unfold Builtin.Slice.sliceApplied Builtin.Slice.sliceFields
 refine je_ (je_ (wpAny_field hos hds (x:=vl) rfl (je_ (wpAny_field hos hds (x:=vu) rfl (je_ (wpAny_field hos hds (x:=.none) rfl (js_ ?_)))))))
 refine je_ (slicePart_none ?_)
 show wpAny _ _ (if ((1:Int)==0)=true then _ else _) _ _ s
 rw[if_neg (by decide)]
 refine je_ (RQ pl (je_ (RQ pu (je_ (js_ ?_)))))
 show wpAny _ _ (match Builtin.Slice.sliceAdjust lo hi 1 (n:Int) with|(lo,hi)=>pure (lo,(1:Int),Builtin.Slice.slicePlaces lo hi 1)) _ _ s
 rw[Y1 lo hi n]
 show wpAny _ _ (pure (((sIx n 0 lo:Nat):Int),(1:Int),Builtin.Slice.slicePlaces ((sIx n 0 lo:Nat):Int) ((sIx n n hi:Nat):Int) 1)) _ _ s
 rw[Y2]
 exact js_ h
theorem Cs_ (xs:Array Value)(i k:Nat):((List.range k).filterMap fun (m:Nat)=>xs[((i:Int)+(m:Int)*1).toNat]?).toArray=((xs.toList.drop i).take k).toArray:=by
 have e:(fun (m:Nat)=>xs[((i:Int)+(m:Int)*1).toNat]?)=fun m=>xs[i+m]?:=by
  funext m
  have:((i:Int)+(m:Int)*1).toNat=i+m:=by lia
  rw[this]
 rw[e]
 have:=pick_run xs i k
 rw[List.filterMap_map]at this
 have e2:((fun x=>xs[x]?) ∘ fun x=>i+x)=fun m=>xs[i+m]?:=rfl
 rw[e2]at this
 rw[this]
theorem getItem_tuple_cut {t sl:Addr}   {lo hi:Option Int}  (ht:IsTup s.heap t items)(hs:s.heap.IsSliceOf sl vl vu .none)(pl:IsPart vl lo)(pu:IsPart vu hi)
  (hw:¬ (sIx items.size 0 lo=0/\sIx items.size items.size hi=items.size))
  (h:Q (.ref s.heap.objs.size) {s with heap:=s.heap.push {cls:=.type "tuple",data:=.seq ((items.toList.drop (sIx items.size 0 lo)).take (sIx items.size items.size hi-sIx items.size 0 lo)).toArray} })
  (hsz:items.size<=sizeLine):wpAny (model prog w) A (getItem (.ref t) (.ref sl)) Q E s:=by
 have htake:sizeOk (.seq ((items.toList.drop (sIx items.size 0 lo)).take (sIx items.size items.size hi-sIx items.size 0 lo)).toArray):=by
  show ((items.toList.drop (sIx items.size 0 lo)).take (sIx items.size items.size hi-sIx items.size 0 lo)).toArray.size<=sizeLine
  rw[jl_,jR_,xD_,qK_]
  lia
 have hj:sIx items.size items.size hi<=items.size:=GE_ _ _ (jf_ _) hi
 obtain⟨os,hos,hcs,hds⟩:=id hs
 have hTs:s.TypeIs (.ref sl) "slice" := ⟨os,hos,hcs⟩
 unfold getItem
 try with_reducible refine qS_ ?_
 first|refine je_ (js_ ?_)|skip
 refine je_ (wpAny_sequenceKey ht.typeIs (by decide) ?_)
 refine je_ (qB_ (name:=Str.ofString "__getitem__") ht.typeIs qo_
  (qy_ qo_ ht.typeIs entry_tuple_getitem ?_ (args_tuple_getitem _ _)))
 show wpAny _ _ (Builtin.Tuple.tupleItemsOf (.ref t) >>= _) _ _ s
 refine je_ (tupleItemsOf_ ht ?_)
 refine je_ (wpAny_typeOf hTs ?_)
 rw[if_pos (by decide)]
 refine je_ (IE hs pl pu ?_)
 have hno:¬ ((((sIx items.size 0 lo:Nat):Int)==0&&(1:Int)==1&&(sIx items.size items.size hi-sIx items.size 0 lo)==items.size)=true):=by
  intro q
  rw[qh_,qh_]at q
  have q1:((sIx items.size 0 lo:Nat):Int)=0:=eq_of_beq q.1.1
  have q2:sIx items.size items.size hi-sIx items.size 0 lo=items.size:=eq_of_beq q.2
  exact hw ⟨by lia,by lia⟩
 show wpAny _ _ (if (((sIx items.size 0 lo:Nat):Int)==0&&(1:Int)==1&&(sIx items.size items.size hi-sIx items.size 0 lo)==items.size)=true then _ else _) _ _ s
 rw[if_neg hno,Cs_]
 first
  | exact je_ (m:=Builtin.Tuple.tupleExact _) (qq_ (js_ ⟨_,rfl,js_ h⟩) htake)
  | exact je_ (m:=Builtin.Tuple.tupleExact _) (qq_ (je_ (js_ (js_ ⟨_,rfl,js_ h⟩))) htake)
  | exact je_ (je_ (m:=Builtin.Tuple.tupleExact _) (qq_ (js_ (js_ ⟨_,rfl,js_ h⟩)) htake))
  | exact je_ (je_ (m:=Builtin.Tuple.tupleExact _) (qq_ (js_ ⟨_,rfl,js_ h⟩) htake))
end
end HT
namespace L2
open PySem PySem.Spec PyProof.Rows
noncomputable abbrev TO:=St->Hp->(Option Int->Hp->Prop)->Prop
noncomputable def PO (X:Cx)(e:Option Expr)(t:TO):Prop:=
 ∀(pins:α7) (s:Shared) (σ:St) (H:Hp) (Q:Option Int->Hp->Prop),Inv X pins σ H s->t σ H Q ->
  wpAny (model X.prog X.w) X.A (evalPart e X.env) (fun u s'=>∃o H',Inv X pins σ H' s'/\IsPart u o/\Q o H') X.xe s
noncomputable def AH_:TO:=fun _ H Q=>Q none H
noncomputable def GF_ (t:TE):TO:=fun σ H Q=>t σ H fun x H1=>∃i,x=.int i/\Q (some i) H1
theorem intsAre_of  : ∀{us:List Value},Vals (ns.map V.int) us->IntsAre us ns:=by
 induction ns with
 |nil=>intro us r;rw[q1_]at r;cases r;exact .nil
 |cons n ns ih=>
  intro us r
  rw[j4_]at r
  cases r with
  |cons r1 r2=>
   obtain⟨t,e⟩:=r1
   subst e
   exact .cons n t (ih r2)
section
variable {X:Cx} {e:Expr} {te:TE} {lo hi:Option Expr} {tl th:TO} {pos p2:Pos}
theorem Ft:PO X none AH_:=by
 intro pins s σ H Q I h
 rw[evalPart_none]
 exact js_ ⟨none,H,I,.none,h⟩
theorem Fu (h:PE X e te):PO X (some e) (GF_ te):=by
 intro pins s σ H Q I hw
 rw[evalPart_some]
 refine thn (h pins s σ H _ I hw) fun u s1 ⟨x,H1,I1,r1,q1⟩=>?_
 obtain⟨i,rfl,q⟩:=q1
 obtain⟨t,rfl⟩:=r1
 exact⟨some i,H1,I1,.int i t,q⟩
noncomputable def SlR (X:Cx)(r:V->Option Int->Option Int->Hp->VK->Prop):Prop:=
 ∀(pins:α7) (s:Shared) (σ:St) (H:Hp) (x:V) (v vl vu:Value) (lo hi:Option Int) (sl:Addr) (Q:VK),Inv X pins σ H s->RelV x v->s.heap.IsSliceOf sl vl vu .none->IsPart vl lo->IsPart vu hi->r x lo hi H Q ->
  ∃T id,typeLookup (.type T) "__getitem__"=pure (some (.builtin id))/\s.TypeIs v T/\wpAny (model X.prog X.w) X.A (getItem v (.ref sl)) (EP X pins σ Q) X.xe s
noncomputable def tSl (r:V->Option Int->Option Int->Hp->VK->Prop)(te:TE)(tl th:TO):TE:=fun σ H Q=>te σ H fun x H1=>tl σ H1 fun l H2=>th σ H2 fun u H3=>r x l u H3 Q
theorem Ea  (hr:SlR X r)(he:PE X e te)(hl:PO X lo tl)(hu:PO X hi th):PE X (.Subscript e (.Slice lo hi none p2) pos) (tSl r te tl th):=by
 intro pins s σ H Q I h
 refine Subscript_ (thn (he pins s σ H _ I h) fun v s1 ⟨x,H1,I1,r1,q1⟩=>?_)
 refine wpAny_Slice (thn (hl pins s1 σ H1 _ I1 q1) fun vl s2 ⟨l,H2,I2,pl,q2⟩=>thn (hu pins s2 σ H2 _ I2 q2) fun vu s3 ⟨u,H3,I3,pu,q3⟩=>?_)
 rw[evalPart_none]
 refine js_ ?_
 have I4:Inv X pins σ H3 {s3 with heap:=s3.heap.push {cls:=.type "slice",data:=.fields #[vl,vu,.none]} }:=I3.kept (t':=s3.toks) fun b ob q=>jm_ _ q
 obtain⟨T,id,hT,ht,hg⟩:=hr pins {s3 with heap:=s3.heap.push {cls:=.type "slice",data:=.fields #[vl,vu,.none]} } σ H3 x v vl vu l u s3.heap.objs.size Q I4 r1 (Heap.IsSliceOf.new ..) pl pu q3
 show wpAny (model X.prog X.w) X.A (subscriptTail e (.Slice lo hi none p2) v (.ref s3.heap.objs.size)) (EP X pins σ Q) X.xe {s3 with heap:=s3.heap.push {cls:=.type "slice",data:=.fields #[vl,vu,.none]} }
 exact tail_any (ops:=[.ref s3.heap.objs.size,v]) ht hT hg (by with_unfolding_all rfl)
noncomputable def cutV (xs:List V)(lo hi:Option Int):List V:=(xs.drop (HT.sIx xs.length 0 lo)).take (HT.sIx xs.length xs.length hi-HT.sIx xs.length 0 lo)
theorem OL (xs:List V)(lo hi:Option Int):(cutV xs lo hi).length<=xs.length:=by
 unfold cutV
 rw[jR_,xD_]
 lia
noncomputable def rSlT (K:α3):V->Option Int->Option Int->Hp->VK->Prop:=fun x lo hi H Q=>∃a xs,x=.ref a/\SqT K H a xs /\
 ¬ (HT.sIx xs.length 0 lo=0/\HT.sIx xs.length xs.length hi=xs.length)/\∀p,H p=none->Q (.ref p) (upd H p (.tup (cutV xs lo hi)))
theorem GG_:SlR X (rSlT X.K):=by
 intro pins s σ H x v vl vu lo hi sl Q I rx hs pl pu h
 obtain⟨a,xs,rfl,hx,hw,q⟩:=h
 cases rx
 obtain⟨its,r,ht,hz⟩:=I.tuple hx
 have hlen:its.toArray.size=xs.length:=by rw[jl_];exact r.length.symm
 refine⟨"tuple",_,qo_.lookup,ht.typeIs,?_⟩
 refine HT.getItem_tuple_cut ht hs pl pu (by rw[hlen];exact hw) ?_ (by rw[hlen];exact hz)
 rw[hlen]
 refine⟨.ref s.heap.objs.size,_,I.laid (t':=s.toks) (o:=.tup (cutV xs lo hi)) (fun b ob q=>jm_ _ q) (jf_ _) ?_,rfl,q _ (I.hok.fresh (jf_ _))⟩
 exact⟨jV_ (OL xs lo hi) hz,_,(r.drop (HT.sIx xs.length 0 lo)).take (HT.sIx xs.length xs.length hi-HT.sIx xs.length 0 lo),IsTup.new _ _⟩
noncomputable def Ii_ (K:α3):R2:=fun x y H Q=>∃a b xs ys,x=.ref a/\y=.ref b/\SqT K H a xs/\SqT K H b ys/\xs ≠ []/\xs.length+ys.length<=sizeLine /\
 (ys=[]->Q (.ref a) H)/\(ys ≠ []->∀p,H p=none->Q (.ref p) (upd H p (.tup (xs++ys))))
theorem Vals.nil_iff   (r:Vals xs us):us=[]↔xs=[]:=by
 cases r with
 |nil=>simp
 |cons _ _=>simp
theorem Fi_:OpR X (binaryOp .Add) (Ii_ X.K):=by
 intro pins s σ H x y v u Q I rx ry h
 obtain⟨a,b,xs,ys,rfl,rfl,ha,hb,hx,hz,q1,q2⟩:=h
 cases rx
 cases ry
 obtain⟨its,r1,p1,_⟩:=I.tuple ha
 obtain⟨its2,r2,p2,_⟩:=I.tuple hb
 refine HT.cat_tup p1 p2 (fun z=>hx (r1.nil_iff.mp z)) (fun z=>⟨.ref a,H,I,rfl,q1 (r2.nil_iff.mp z)⟩) (fun z=>?_) (by rw[<-r1.length,<-r2.length];exact hz)
 refine⟨.ref s.heap.objs.size,_,I.laid (t':=s.toks) (o:=.tup (xs++ys)) (fun b ob q=>jm_ _ q) (jf_ _) ?_,rfl,q2 (fun w=>z (r2.nil_iff.mpr w)) _ (I.hok.fresh (jf_ _))⟩
 exact⟨by rw[jk_];exact hz,_,r1.append r2,IsTup.new _ _⟩
end
end L2
namespace L2
open PySem PySem.Spec PyProof.Rows
noncomputable def ixN (n:Nat)(i:Int):Option Nat:=if 0<=i then (if i<n then some i.toNat else none) else if -(n:Int)<=i then some (i+n).toNat else none
noncomputable def atI {α:Type}(xs:List α)(i:Int):Option α:=(ixN xs.length i).bind fun j=>xs[j]?
theorem AI_    (h:ixN n i=some j):seqIndex? i n=some j/\j<n /\ -(n:Int)<=i/\i<n:=by
 unfold ixN at h
 by_cases h0:0<=i
 ·rw[if_pos h0]at h
  by_cases h1:i<n
  ·rw[if_pos h1]at h
   have e:i.toNat=j:=jB_ h
   exact⟨by rw[seqIndex_of h0 h1,e],by lia,by lia,h1⟩
  ·rw[if_neg h1]at h;cases h
 ·rw[if_neg h0]at h
  by_cases h1 : -(n:Int)<=i
  ·rw[if_pos h1]at h
   have e:(i+n).toNat=j:=jB_ h
   exact⟨by rw[seqIndex_neg s!"" h1,e],by lia,h1,by lia⟩
  ·rw[if_neg h1]at h;cases h
theorem AJ_     (h:atI xs i=some v):∃j,seqIndex? i xs.length=some j/\xs[j]?=some v/\j<xs.length /\ -(xs.length:Int)<=i/\i<xs.length:=by
 unfold atI at h
 cases e:ixN xs.length i with
 |none=>rw[e]at h;cases h
 |some j=>
  rw[e]at h
  obtain⟨h1,h2,h3,h4⟩:=AI_ e
  exact⟨j,h1,h,h2,h3,h4⟩
theorem AY {α:Type}{xs:List α}{j:Nat}{v:α}(h:xs[j]?=some v):atI xs (j:Int)=some v:=by
 have hj:j<xs.length:=(jd_.mp h).1
 have e:ixN xs.length (j:Int)=some j:=by
  unfold ixN
  rw[if_pos s!"",if_pos s!""];simp
 unfold atI;rw[e];exact h
noncomputable def AK_ (b:Expr):Prop:=∀o i,subscripted b false o i=operate [o,i] (getItem o i)
noncomputable def IxR (X:Cx)(r:R2):Prop:=
 ∀(value slice:Expr) (pins:α7) (s:Shared) (σ:St) (H:Hp) (x y:V) (v u:Value) (Q:VK),Inv X pins σ H s->RelV x v->RelV y u->r x y H Q ->
  subscripted slice false v u=operate [v,u] (getItem v u)->wpAny (model X.prog X.w) X.A (subscriptTail value slice v u) (EP X pins σ Q) X.xe s
noncomputable def MtR (X:Cx)(id:String)(r:V->List V->Hp->VK->Prop):Prop:=
 ∀(pins:α7) (s:Shared) (σ:St) (H:Hp) (x:V) (xs:List V) (v:Value) (us:List Value) (Q:VK),Inv X pins σ H s->RelV x v->Vals xs us->r x xs H Q ->
  wpAny (model X.prog X.w) X.A (call (.builtin id) (v::us)) (EP X pins σ Q) X.xe s
section
variable {X:Cx} {a b:Expr} {ta tb:TE} {pos:Pos}
theorem IxR.or  (h:IxR X r)(h':IxR X r'):IxR X (fun x y H Q=>r x y H Q\/r' x y H Q):=by
 intro value slice pins s σ H x y v u Q I rx ry q hs
 rcases q with q|q
 ·exact h value slice pins s σ H x y v u Q I rx ry q hs
 ·exact h' value slice pins s σ H x y v u Q I rx ry q hs
theorem Fj_  (hr:IxR X r)(ha:PE X a ta)(hb:PE X b tb)(hs:AK_ b):PE X (.Subscript a b pos) (tOp r ta tb):=by
 intro pins s σ H Q I h
 exact Subscript_ (binT ha hb I h fun v u s2 x y H2 I2 rx ry q=>hr a b pins s2 σ H2 x y v u Q I2 rx ry q (hs _ _))
noncomputable def rIxL (K:α3):R2:=fun x y H Q=>∃p xs i v,x=.ref p/\y=.int i/\SqL K H p xs/\atI xs i=some v/\Q v H
noncomputable def rIxT (K:α3):R2:=fun x y H Q=>∃p xs i v,x=.ref p/\y=.int i/\SqT K H p xs/\atI xs i=some v/\Q v H
theorem BM:IxR X (rIxL X.K):=by
 intro value slice pins s σ H x y v u Q I rx ry h hs
 obtain⟨p,xs,i,z,rfl,rfl,hq,he,q⟩:=h
 cases rx
 obtain⟨t,rfl⟩:=ry
 obtain⟨its,r,pl,hz⟩:=I.list hq
 obtain⟨j,h1,h2,h3,h4,h5⟩:=AJ_ he
 obtain⟨w,ew,rw'⟩:=r.get h2
 have hl:=r.length
 have hn:=Yd
 have fin:EP X pins σ Q w s:=⟨z,H,I,rw',q⟩
 by_cases h0:0<=i
 ·have hj:i.toNat=j:=by
   rw[seqIndex_of h0 h5]at h1
   exact jB_ h1
  exact item_listR pl.isList h0 s!"" (by rw[hj];simpa using ew) fin hs
 ·have hj:(i+(its.toArray.size:Int)).toNat=j:=by
   rw[seqIndex_neg s!"" h4]at h1
   rw[jl_,<-hl]
   exact jB_ h1
  exact subscriptTail_builtinR (x:=w) pl.isList.typeIs slot_list_getitem.lookup
   (wpAny_getItem_list_neg (Q:=fun r s'=>r=w/\EP X pins σ Q r s') pl.isList s!"" (by rw[jl_]<;>lia) s!"" (by rw[hj];simpa using ew) ⟨rfl,fin⟩) hs
theorem Am:IxR X (rIxT X.K):=by
 intro value slice pins s σ H x y v u Q I rx ry h hs
 obtain⟨p,xs,i,z,rfl,rfl,hq,he,q⟩:=h
 cases rx
 obtain⟨t,rfl⟩:=ry
 obtain⟨its,r,pl,hz⟩:=I.tuple hq
 obtain⟨j,h1,h2,h3,h4,h5⟩:=AJ_ he
 obtain⟨w,ew,rw'⟩:=r.get h2
 have hl:=r.length
 have hn:=Yd
 have fin:EP X pins σ Q w s:=⟨z,H,I,rw',q⟩
 exact subscriptTail_builtinR (x:=w) pl.typeIs slot_tuple_getitem.lookup
  (getItem_tuple (j:=j) (Q:=fun r s'=>r=w/\EP X pins σ Q r s') pl s!"" s!"" (by rw[jl_,<-hl];exact h1) (by simpa using ew) ⟨rfl,fin⟩) hs
theorem Y3 (its:List Value)(n j:Nat)(u:Value):Obj.mapSeq (·.setIfInBounds j u) {cls:=.type "list",data:=.seq its.toArray n}={cls:=.type "list",data:=.seq (its.set j u).toArray n}:=by
 simp[Obj.mapSeq]
theorem Inv.lst {pins:α7}{σ:St}{H:Hp}{s:Shared}{p:Addr}{xs:List V}(I:Inv X pins σ H s)(h:H p=some (.lst xs)):
  ∃(its:List Value) (n:Nat),Vals xs its/\s.heap.get? p=some {cls:=.type "list",data:=.seq its.toArray n}/\xs.length<=sizeLine:=by
 obtain⟨z,its,n,r,e⟩:=I.hok p _ h
 exact⟨its,n,r,e,z⟩
theorem Inv.lstUpd       {its its':List Value}   (I:Inv X pins σ H s)(h:H p=some (.lst xs))
  (ho:s.heap.get? p=some {cls:=.type "list",data:=.seq its.toArray n}) (hf:f {cls:=.type "list",data:=.seq its.toArray n}={cls:=.type "list",data:=.seq its'.toArray n' }) (r:Vals ys its') (hz:ys.length<=sizeLine) (t:Nat):
  Inv X pins σ (upd H p (.lst ys)) {s with heap:=s.heap.update p f,toks:=t}:=by
 have e:(s.heap.update p f).get? p=some {cls:=.type "list",data:=.seq its'.toArray n' }:=by
  rw[xt_ f ho (by rw[hf]<;>rfl),hf]
 refine I.write (x:=p) (e:=p) (by rw[h];trivial) (.inl rfl) (fun b u hb q=>(qu_ _ _ (qT_ hb)).trans q) ⟨_,e⟩ ?_
 exact⟨hz,its',n',r,e⟩
noncomputable def GH_:V->V->V->Hp->(Hp->Prop)->Prop:=fun o i v H Q=>∃p xs k j,o=.ref p/\i=.int k/\H p=some (.lst xs)/\ixN xs.length k=some j/\Q (upd H p (.lst (xs.set j v)))
theorem set_list:PSet X GH_:=by
 intro pins s σ H o i v ov iv u Q I ro ri rv h
 obtain⟨p,xs,k,j,rfl,rfl,hp,hj,q⟩:=h
 cases ro
 obtain⟨t,rfl⟩:=ri
 obtain⟨its,n,r,ho,hz⟩:=I.lst hp
 obtain⟨h1,h2,h3,h4⟩:=AI_ hj
 have hl:=r.length
 have hn:=Yd
 have I':Inv X pins σ (upd H p (.lst (xs.set j v))) {s with heap:=s.heap.update p (Obj.mapSeq (·.setIfInBounds j u))}:=
  I.lstUpd hp ho (Y3 its n j u) (r.set rv j) (by rw[q5_];exact hz) s.toks
 by_cases h0:0<=k
 ·have hk:k.toNat=j:=by
   rw[seqIndex_of h0 h4]at h1
   exact jB_ h1
  exact PySem.W.ki_setAt ho h0 s!"" (by rw[jl_,<-hl];exact h4) (by rw[hk];exact⟨_,I',q⟩)
 ·have hk:(k+(its.toArray.size:Int)).toNat=j:=by
   rw[seqIndex_neg s!"" h3]at h1
   rw[jl_,<-hl]
   exact jB_ h1
  exact PySem.W.ki_setBack ho s!"" (by rw[jl_,<-hl];exact h3) s!"" (by rw[hk];exact⟨_,I',q⟩)
theorem VG (lo hi:Option Int)(n:Nat):(sliceBounds lo hi none n).1=((HT.sIx n 0 lo:Nat):Int)/\(sliceBounds lo hi none n).2.1=((HT.sIx n n hi:Nat):Int)/\(sliceBounds lo hi none n).2.2=1:=by
 refine⟨?_,?_,rfl⟩
 ·cases lo with
  |none=>simp[sliceBounds,HT.sIx]
  |some i=>
   simp only[sliceBounds,HT.sIx,Option.getD_none,show (1:Int) > 0 by decide,zE_]
   by_cases h:i<0
   ·simp only[h,zE_]<;>lia
   ·simp only[h,xP_]<;>lia
 ·cases hi with
  |none=>simp[sliceBounds,HT.sIx]
  |some i=>
   simp only[sliceBounds,HT.sIx,Option.getD_none,show (1:Int) > 0 by decide,zE_]
   by_cases h:i<0
   ·simp only[h,zE_]<;>lia
   ·simp only[h,xP_]<;>lia
theorem Su (its:List Value)(lo hi:Option Int):slicePick its.toArray lo hi none=((its.drop (HT.sIx its.length 0 lo)).take (HT.sIx its.length its.length hi-HT.sIx its.length 0 lo)).toArray:=by
 obtain⟨h1,h2,h3⟩:=VG lo hi its.toArray.size
 unfold slicePick
 rw[h1,h2,h3]
 simp only[sliceRange_one,pick_run,jl_]<;>rfl
noncomputable def rSlL (K:α3):V->Option Int->Option Int->Hp->VK->Prop:=fun x lo hi H Q=>∃a xs,x=.ref a/\SqL K H a xs/\∀p,H p=none->Q (.ref p) (upd H p (.lst (cutV xs lo hi)))
theorem AL_:SlR X (rSlL X.K):=by
 intro pins s σ H x v vl vu lo hi sl Q I rx hs pl pu h
 obtain⟨a,xs,rfl,hx,q⟩:=h
 cases rx
 obtain⟨its,r,ht,hz⟩:=I.list hx
 have hlen:=r.length
 refine⟨"list",_,slot_list_getitem.lookup,ht.isList.typeIs,?_⟩
 refine wpAny_getItem_list_slice ht.isList hs pl pu .none (by simp) ?_ (by rw[jl_]<;>lia)
 rw[Su,<-hlen]
 refine⟨.ref s.heap.objs.size,_,I.laid (t':=s.toks) (o:=.lst (cutV xs lo hi)) (fun b ob q=>jm_ _ q) (jf_ _) ?_,rfl,q _ (I.hok.fresh (jf_ _))⟩
 exact⟨jV_ (OL xs lo hi) hz,_,0,(r.drop (HT.sIx xs.length 0 lo)).take (HT.sIx xs.length xs.length hi-HT.sIx xs.length 0 lo),jy_ _ rfl⟩
noncomputable def Sv:V->Bool
 |.non=>true
 |.bl _=>true
 |.int _=>true
 |.str _=>true
 |_=>false
noncomputable def eqV:V->V->Bool
 |.non,.non=>true
 |.bl a,.bl b=>a==b
 |.bl a,.int b=>(if a then 1 else 0)==b
 |.int a,.bl b=>a==(if b then 1 else 0)
 |.int a,.int b=>a==b
 |.str a,.str b=>a==b
 |_,_=>false
theorem DN_     (ry:RelV y u)(rx:RelV x v)(fy:Sv y=true)(fx:Sv x=true):SeqAt.EqAt A s u v (eqV y x):=by
 cases y with
 |non=>
  cases ry
  cases x with
  |non=>cases rx;exact SeqAt.EqAt.same _
  |bl b=>cases rx;exact SeqAt.EqAt.none_bool b
  |int b=>obtain⟨t,rfl⟩:=rx;exact SeqAt.EqAt.none_int b t
  |str b=>obtain⟨t,rfl⟩:=rx;exact SeqAt.EqAt.none_str b t
  |_=>exact absurd (show false=true from fx) jo_
 |bl a=>
  cases ry
  cases x with
  |non=>cases rx;exact SeqAt.EqAt.bool_none a
  |bl b=>cases rx;exact SeqAt.EqAt.bool_bool a b
  |int b=>obtain⟨t,rfl⟩:=rx;exact SeqAt.EqAt.bool_int a b t
  |str b=>obtain⟨t,rfl⟩:=rx;exact SeqAt.EqAt.bool_str a b t
  |_=>exact absurd (show false=true from fx) jo_
 |int a=>
  obtain⟨t',rfl⟩:=ry
  cases x with
  |non=>cases rx;exact SeqAt.EqAt.int_none a t'
  |bl b=>cases rx;exact SeqAt.EqAt.int_bool a t' b
  |int b=>obtain⟨t,rfl⟩:=rx;exact SeqAt.EqAt.int_int a t' b t
  |str b=>obtain⟨t,rfl⟩:=rx;exact SeqAt.EqAt.int_str a t' b t
  |_=>exact absurd (show false=true from fx) jo_
 |str a=>
  obtain⟨t',rfl⟩:=ry
  cases x with
  |non=>cases rx;exact SeqAt.EqAt.str_none a t'
  |bl b=>cases rx;exact SeqAt.EqAt.str_bool a t' b
  |int b=>obtain⟨t,rfl⟩:=rx;exact SeqAt.EqAt.str_int a t' b t
  |str b=>obtain⟨t,rfl⟩:=rx;exact SeqAt.EqAt.str_str a t' b t
  |_=>exact absurd (show false=true from fx) jo_
 |_=>exact absurd (show false=true from fy) jo_
theorem Ao:Hi X (.builtin "len") (fun xs H Q=>∃p ys,xs=[.ref p]/\(SqL X.K H p ys\/SqT X.K H p ys)/\Q (.int ys.length) H):=by
 intro pins s σ H xs us Q I r h
 obtain⟨p,ys,rfl,hq,q⟩:=h
 obtain⟨u,rfl,rx⟩:=vals1 r
 cases rx
 have hn:=Yd
 rcases hq with hq|hq
 ·obtain⟨its,r',pl,hz⟩:=I.list hq
  have hlen:=r'.length
  exact Calls.call_len_list pl.isList (by simp only[jl_]<;>lia) ⟨.int ys.length,H,I.tok _,⟨s.toks+1,by rw[jl_,hlen]⟩,q⟩
 ·obtain⟨its,r',pl,hz⟩:=I.tuple hq
  have hlen:=r'.length
  exact len_tuple pl (by simp only[jl_]<;>lia) ⟨.int ys.length,H,I.tok _,⟨s.toks+1,by rw[jl_,hlen]⟩,q⟩
theorem VH:Hi X (.type "list") (fun xs H Q=>∃p ys,xs=[.ref p]/\(SqL X.K H p ys\/SqT X.K H p ys)/\∀l,H l=none->Q (.ref l) (upd H l (.lst ys))):=by
 intro pins s σ H xs us Q I r h
 obtain⟨p,ys,rfl,hq,q⟩:=h
 obtain⟨u,rfl,rx⟩:=vals1 r
 cases rx
 have fin:∀(its:List Value),Vals ys its->ys.length<=sizeLine->∀(h':Heap) (c':Nat),(∀b o',s.heap.get? b=some o'->h'.get? b=some o') ->
   h'.get? s.heap.objs.size=some {cls:=.type "list",dict:=none,data:=.seq its.toArray c',slots := #[]}->EP X pins σ Q (.ref s.heap.objs.size) {s with heap:=h' }:=fun its r' hz h' c' kp e=>
  ⟨.ref s.heap.objs.size,_,I.laid (t':=s.toks) kp (jf_ _) (show Bz X.prog X.w _ h' _ (.lst ys) from ⟨hz,its,c',r',e⟩),rfl,q _ (I.hok.fresh (jf_ _))⟩
 rcases hq with hq|hq
 ·obtain⟨its,r',pl,hz⟩:=I.list hq
  have hlen:=r'.length
  obtain⟨o,ho,hc,n,hd⟩:=pl.isList
  exact call_list_seq p (.inl rfl) ho hc hd (fun h' c' kp e=>fin its r' hz h' c' kp e) (by simp only[jl_]<;>lia)
 ·obtain⟨its,r',pl,hz⟩:=I.tuple hq
  have hlen:=r'.length
  obtain⟨o,ho,hc,n,hd⟩:=pl
  exact call_list_seq p (.inr rfl) ho hc hd (fun h' c' kp e=>fin its r' hz h' c' kp e) (by simp only[jl_]<;>lia)
theorem Lb:Hi X (.type "tuple") (fun xs H Q=>∃p ys,xs=[.ref p]/\((SqL X.K H p ys/\∀l,H l=none->Q (.ref l) (upd H l (.tup ys)))\/(SqT X.K H p ys/\Q (.ref p) H))):=by
 intro pins s σ H xs us Q I r h
 obtain⟨p,ys,rfl,h⟩:=h
 obtain⟨u,rfl,rx⟩:=vals1 r
 cases rx
 rcases h with ⟨hq,q⟩|⟨hq,q⟩
 ·obtain⟨its,r',pl,hz⟩:=I.list hq
  have hlen:=r'.length
  refine call_tuple_list pl.isList (fun h' kp=>?_) (by simp only[jl_]<;>lia)
  have I1:Inv X pins σ H {s with heap:=h' }:=I.kept (t':=s.toks) kp
  have I2:Inv X pins σ (upd H h'.objs.size (.tup ys)) {s with heap:=h'.push {cls:=.type "tuple",data:=.seq its.toArray} }:=
   I1.laid (t':=s.toks) (fun b o e=>jm_ _ e) (jf_ _) (show Bz X.prog X.w _ _ _ (.tup ys) from ⟨hz,its,r',IsTup.new _ _⟩)
  exact⟨.ref h'.objs.size,_,I2,rfl,q _ (I1.hok.fresh (jf_ _))⟩
 ·obtain⟨its,r',pl,hz⟩:=I.tuple hq
  exact call_tuple_same pl ⟨.ref p,H,I,rfl,q⟩
noncomputable def tyV (K:α3)(T:String)(x:V)(H:Hp):Prop:=match x with
 |.str _=>T = "str"
 |.int _=>T = "int"
 |.ref p=>(T = "list" /\ ∃xs,SqL K H p xs)\/(T = "tuple" /\ ∃o,K.lookup p=some o/\o.cls=.type "tuple" /\ o.dict=none) \/
   (T = "dict" /\ ((∃kvs,H p=some (.dK kvs)) \/ ∃kvs,H p=some (.dT kvs)))\/(T = "set" /\ ∃S n,H p=some (.set S n))
 |_=>False
theorem GI_        (I:Inv X pins σ H s)(r:RelV x v)(ty:tyV X.K T x H):
  s.TypeIs v T/\∀a,v=.ref a->∃ob,s.heap.get? a=some ob/\ob.dict=none:=by
 cases x with
 |str z=>
  obtain⟨t,rfl⟩:=r
  cases (show T = "str" from ty)
  exact⟨typeIs_str s z t,fun _ e=>nomatch e⟩
 |int i=>
  obtain⟨t,rfl⟩:=r
  cases (show T = "int" from ty)
  exact⟨typeIs_int s i t,fun _ e=>nomatch e⟩
 |ref p=>
  cases r
  rcases ty with ⟨rfl,xs,hq⟩|⟨rfl,o,hk,hc,hd⟩|⟨rfl,hk⟩|⟨rfl,S,n,hk⟩
  ·obtain⟨its,_,pl,_⟩:=I.list hq
   refine⟨pl.isList.typeIs,fun a e=>?_⟩
   cases e
   obtain⟨o,n,e,c,hd,_⟩:=pl
   exact⟨o,e,hd⟩
  ·refine⟨⟨o,I.kIn p o hk,hc⟩,fun a e=>?_⟩
   cases e
   exact⟨o,I.kIn _ o hk,hd⟩
  ·have z:∃o,s.heap.get? p=some o/\o.ExactDict:=by
    rcases hk with ⟨kvs,hk⟩|⟨kvs,hk⟩
    ·obtain⟨_,_,_,_,o,_,_,e,ex,_⟩:=I.hok p _ hk
     exact⟨o,e,ex⟩
    ·obtain⟨_,_,_,_,o,_,_,e,ex,_⟩:=I.hok p _ hk
     exact⟨o,e,ex⟩
   obtain⟨o,e,ex⟩:=z
   refine⟨⟨o,e,ex.1⟩,fun a e2=>?_⟩
   cases e2
   exact⟨o,e,ex.2.1⟩
  ·obtain⟨o,_,_,_,e,ex,_⟩:=I.hok p _ hk
   refine⟨⟨o,e,ex.1⟩,fun a e2=>?_⟩
   cases e2
   exact⟨o,e,ex.2.1⟩
 |_=>exact False.elim ty
noncomputable def tBM (K:α3)(T:String)(r:V->List V->Hp->VK->Prop)(to:TE)(t:TA):TE:=fun σ H Q=>to σ H fun x H1=>tyV K T x H1/\t σ H1 fun xs H2=>r x xs H2 Q
variable {o e:Expr} {es:List Expr} {to:TE} {t:TA} {name:Str} {apos cpos:Pos} {T id:String} {r:V->List V->Hp->VK->Prop}
theorem Lc (pa:PlainAttrs T)(slot:Slot T name id)(hty:typeOf (.builtin id)=pure (.type "method_descriptor"))(hm:MtR X id r)(ho:PE X o to)(ha:PA X (e::es) t)
  (hbase:attributeBase o name X.env (eval o X.env)=eval o X.env:=by rfl)
  (hfew:((backTo cpos (starEach (e::es) X.env)).all (fun x => !x.1)&&(backToKw cpos (keywordEach [] X.env)).all (fun x=>x.1.isSome)
   && decide ((e::es).length+([]:List Keyword).length+(if ([]:List Keyword).isEmpty then 0 else 1)<30))=true:=by rfl)
  (hline:(apos.endLine==cpos.line)=true:=by rfl) (hs:starEach (e::es) X.env=(false,eval e X.env)::starEach es X.env:=by rfl) (hplain:(backTo cpos (starEach es X.env)).any (·.1)=false:=by rfl):
  PE X (.Call (.Attribute o name apos) (e::es) [] cpos) (tBM X.K T r to t):=by
 intro pins s σ H Q I h
 refine wpAny_Call_method_late hbase hfew hline rfl (thn (ho pins s σ H _ I h) fun v s1 ⟨x,H1,I1,r1,ty,q1⟩=>?_)
 obtain⟨h1,h2⟩:=GI_ I1 r1 ty
 refine⟨T,id,pa,slot,hty,h1,h2,?_⟩
 have hA:=ha cpos pins s1 σ H1 _ I1 q1
 rw[hs]at hA ⊢
 refine x0_ (by show (false||(backTo cpos (starEach es X.env)).any (·.1))=false;rw[hplain]<;>rfl) (Calls.evalArgs_plain ?_)
 exact thn hA fun us s2 ⟨vs,H2,I2,r2,q2⟩=>hm pins s2 σ H2 x vs v us Q I2 r1 r2 q2
/- xs.append(e),list.index on a module's tuple .. are MtR facts of 06m -/
end
end L2
namespace L2
open PySem PySem.Spec PyProof.Rows
noncomputable def MtM (X:Cx)(id:String)(r:V->List V->Hp->VK->Prop):Prop:=
 ∀(pins:α7) (s:Shared) (σ:St) (H:Hp) (x:V) (xs:List V) (v:Value) (us:List Value) (Q:VK),Inv X pins σ H s->RelV x v->Vals xs us->r x xs H Q ->
  wpAny (model X.prog X.w) X.A (call (.builtin id) (v::us)) (EP X pins σ Q) X.xe s
theorem Vals.one:∀{x:V} {us:List Value},Vals [x] us->∃u,us=[u]/\RelV x u
 |_,_,.cons r .nil=>⟨_,rfl,r⟩
theorem Vals.rep {xs:List V}{us:List Value}(h:Vals xs us):∀k:Nat,Vals (List.replicate k xs).flatten (List.replicate k us).flatten
 |0=>.nil
 |k+1=>by
  rw[qe_,qe_,q3_,q3_]
  exact Vals.append h (Vals.rep h k)
theorem foldl_rep (its:List Value):∀(k:Nat) (acc:List Value),
  List.foldl (fun x1 x2=>x1++x2) acc.toArray (List.replicate k its.toArray)=(acc++(List.replicate k its).flatten).toArray
 |0,acc=>by simp
 |k+1,acc=>by
  have e:acc.toArray++its.toArray=(acc++its).toArray:=by simp
  have e2:(acc++its)++(List.replicate k its).flatten=acc++(List.replicate (k+1) its).flatten:=by
   rw[qe_,q3_,zA_]
  rw[<-e2,<-foldl_rep its k (acc++its),<-e,qe_,List.foldl_cons]
section
variable {X:Cx} {pins:α7} {σ:St} {H:Hp} {s:Shared} {l b:Addr} {xs ys zs:List V}
theorem Inv.lset {its its':List Value}    (I:Inv X pins σ H s)(hH:H l=some (.lst xs))
  (e:s.heap.get? l=some {cls:=.type "list",data:=.seq its.toArray n}) (hf:f its.toArray=its'.toArray) (hv:Vals ys its') (hz:ys.length<=sizeLine):
  Inv X pins σ (upd H l (.lst ys)) {s with heap:=s.heap.update l (Obj.mapSeq f),toks:=t' }:=by
 have q:=PySem.IsL.update e f
 rw[hf]at q
 refine I.write (x:=l) (e:=l) (by rw[hH];exact trivial) (.inl rfl) (fun b' u hb hu=>(qu_ s.heap (Obj.mapSeq f) (qT_ hb)).trans hu) ⟨_,q⟩ ?_
 exact⟨hz,its',_,hv,q⟩
theorem Inv.lnew {its:List Value}  (I:Inv X pins σ H s)(hv:Vals ys its)(hz:ys.length<=sizeLine):
  Inv X pins σ (upd H s.heap.objs.size (.lst ys)) {s with heap:=s.heap.push {cls:=.type "list",data:=.seq its.toArray},toks:=t' }:=
 I.laid (fun _ _ q=>jm_ _ q) (jf_ _) ⟨hz,its,0,hv,jy_ _ rfl⟩
theorem Inv.fresh (I:Inv X pins σ H s):H s.heap.objs.size=none:=I.hok.fresh (jf_ _)
theorem Inv.lstM (I:Inv X pins σ H s)(hH:H l=some (.lst xs)):xs.length<=sizeLine/\∃(its:List Value) (n:Nat),Vals xs its/\xs.length=its.length/\s.heap.get? l=some {cls:=.type "list",data:=.seq its.toArray n}:=by
 obtain⟨z,its,n,r,e⟩:=I.hok l _ hH
 exact⟨z,its,n,r,r.length,e⟩
theorem Ct_  (h:n<=sizeLine):Builtin.List.listTooLong n=false:=by
 unfold Builtin.List.listTooLong
 exact qj_ s!""
end
section
variable {X:Cx}
noncomputable def AM_:V->List V->Hp->VK->Prop:=fun x vs H Q=>∃l xs y,x=.ref l/\vs=[y]/\H l=some (.lst xs)/\xs.length<sizeLine/\Q .non (upd H l (.lst (xs++[y])))
theorem Ci:MtM X "list.append" AM_:=by
 intro pins s σ H x vs v us Q I rx rv h
 obtain⟨l,xs,y,rfl,rfl,hH,hz,q⟩:=h
 cases rx
 obtain⟨u,rfl,ru⟩:=rv.one
 obtain⟨z,its,n,r,hl,e⟩:=I.lstM hH
 refine xK_ F.slot_list_append ⟨_,e,rfl⟩ F.entry_list_append (zk_ _ _) (zB_ l its.toArray n u (by rw[jl_];lia)) ⟨e,?_⟩
 refine⟨.non,_,I.lset (its':=its++[u]) hH e (by simp) (r.append (.cons ru .nil)) ?_,rfl,q⟩
 rw[jk_,jZ_]
 lia
noncomputable def rCat:R2:=fun x y H Q=>∃l b xs zs,x=.ref l/\y=.ref b/\H l=some (.lst xs)/\H b=some (.lst zs)/\xs.length+zs.length<=sizeLine/\∀p,H p=none->Q (.ref p) (upd H p (.lst (xs++zs)))
theorem VI:OpR X (binaryOp .Add) rCat:=by
 intro pins s σ H x y v u Q I rx ry h
 obtain⟨l,b,xs,zs,rfl,rfl,hH,hB,hz,q⟩:=h
 cases rx
 cases ry
 obtain⟨z,its,n,r,hl,e⟩:=I.lstM hH
 obtain⟨z2,its2,n2,r2,hl2,e2⟩:=I.lstM hB
 refine PySem.P.add_list e e2 ?_ (by rw[jl_,jl_];lia)
 have ea:its.toArray++its2.toArray=(its++its2).toArray:=by simp
 rw[ea]
 exact⟨.ref _,_,I.lnew (t':=s.toks) (r.append r2) (by rw[jk_];lia),rfl,q _ I.fresh⟩
noncomputable def rRep:R2:=fun x y H Q=>∃l k xs,x=.ref l/\y=.int k/\H l=some (.lst xs) /\ -(2 ^ 63)<=k/\k<2 ^ 63/\xs.length*k.toNat<=sizeLine /\
 ∀p,H p=none->Q (.ref p) (upd H p (.lst (List.replicate k.toNat xs).flatten))
theorem len_rep {α:Type}(xs:List α)(k:Nat):(List.replicate k xs).flatten.length=k*xs.length:=by
 induction k with
 |zero=>simp
 |succ k ih=>rw[qe_,q3_,jk_,ih,Nat.succ_mul,Nat.add_comm]
theorem DO_:OpR X (binaryOp .Mult) rRep:=by
 intro pins s σ H x y v u Q I rx ry h
 obtain⟨l,k,xs,rfl,rfl,hH,h1,h2,hz,q⟩:=h
 cases rx
 obtain⟨t,rfl⟩:=ry
 obtain⟨z,its,n,r,hl,e⟩:=I.lstM hH
 have hlen:its.toArray.size*k.toNat<=sizeLine:=by rw[jl_,<-hl];exact hz
 have hcap:¬ its.toArray.size*k.toNat > (2 ^ 63-1) / 8:=by
  have:(sizeLine:Nat)<=(2 ^ 63-1) / 8:=by decide
  lia
 have hfit:¬ (!Builtin.List.listFitsIndex k)=true:=by
  rw[fitsIndex_both h1 h2]
  exact jo_
 have hlong:¬ Builtin.List.listTooLong (its.toArray.size*k.toNat)=true:=by
  rw[Ct_ hlen]
  exact jo_
 have hnew:List.foldl (fun x1 x2=>x1++x2) #[] (List.replicate (if its.toArray.isEmpty=true then 0 else k.toNat) its.toArray)=(List.replicate k.toNat its).flatten.toArray:=by
  have f0:∀m:Nat,List.foldl (fun x1 x2=>x1++x2) #[] (List.replicate m its.toArray)=(List.replicate m its).flatten.toArray:=fun m=>by
   have:=foldl_rep its m []
   rw[xQ_]at this
   exact this
  rw[f0]
  cases its with
  |nil=>simp
  |cons a r'=>rw[if_neg (by simp)]
 refine wpAny_binaryOp_repeat_ref (T := "list") (U := "int") (by decide) ⟨_,e,rfl⟩ (fun s'=>typeIs_int s' k t) noFill_list_mul F.fills_int_mul zr_ repeat_list F.slot_int_index.lookup
  (xK_ zr_ (typeIs_int s k t) F.entry_int_rmul (F.args_int_rmul_2 _ _) (int___rmul___int_list k t l its.toArray n)
   ⟨e,rfl,⟨_,e,rfl⟩,xK_ F.slot_list_mul ⟨_,e,rfl⟩ F.entry_list_mul (F.args_list_mul_2 _ _) (AutoListH.list___mul___list_int_3 l its.toArray n k t hfit hcap hlong) ⟨e,?_⟩⟩)
 rw[hnew]
 exact⟨.ref _,_,I.lnew (t':=s.toks) (r.rep k.toNat) (by rw[len_rep,Nat.mul_comm];exact hz),rfl,q _ I.fresh⟩
end
end L2
namespace Att
open PySem PySem.W PySem.Calls PyProof.Rows
theorem OM   : ∀(ns:α2) (vs:List Value),WellAll P h vs (ns.map WData.int)->IntsAre vs ns:=by
 intro ns
 induction ns with
 |nil=>
  intro vs w
  rw[q1_]at w
  cases w
  exact .nil
 |cons n ns ih=>
  intro vs w
  rw[j4_]at w
  cases w with
  |cons a b=>
   cases a
   exact .cons _ _ (ih _ b)
theorem AN_ {l:OpenLaw}{n:Nat}(hn:l.most=some n){P:Params}{h:Heap}{args:List WData}{vals:List Value}
  (hpre:l.row.toRowW.claim.pre args=true) (hwl:WellAll P h vals args):
  ∃a vs ns,vals=[Value.ref a]/\args=[WData.list (ns.map WData.int)]/\h.get? a=some {cls:=.type "list",data:=.seq vs.toArray}/\IntsAre vs ns/\ns.length<=n:=by
 have hsh:WShape.hasAll [] args [.list .int]=true:=(pre_splitW hpre).1
 have hc:l.pre.holds [] {args:=args}=true:=(pre_splitW hpre).2
 obtain⟨d,r,rfl,h1,h2⟩:=hasAllW_cons hsh
 obtain rfl:=hasAllW_nil h2
 obtain⟨xs,rfl,h3⟩:=hasW_list h1
 obtain⟨ns,rfl⟩:=items_int h3
 have hlen:ns.length<=n:=by
  unfold OpenLaw.pre at hc
  have h4:(WTm.not (.lt (.lit (.int (n:Int))) (.len (.arg 0)))).holds [] {args:=[.list (ns.map .int)]}=true:=by
   have h4:=(holds_andW hc).1
   rw[hn]at h4
   exact h4
  have h5:=condW_of h4 (w_not (w_lt w_lit (w_len_list (w_arg rfl))))
  rw[jb_]at h5
  refine xE_ fun q=>?_
  have q':(n:Int)<((ns.length:Nat):Int):=by lia
  first
   | (rw[qg_ q']at h5;exact absurd h5 (by decide))
   | (simp at h5;lia)
 cases hwl with
 |cons w1 w2=>
  cases w2
  cases w1 with
  |list ho hall=>exact⟨_,_,ns,rfl,rfl,ho,OM ns _ hall,hlen⟩
theorem AO_ (l:OpenLaw)(args:List WData):l.row.toRowW.claim.post args (.bool true) args=true:=
 postW_of (r:=l.row.toRowW) (X:=(true==true))
  (show WShape.has [] (.bool true) .bool=true by first|rfl|decide|simp[WShape.has,WShape.arms,WShape.armsAll])
  (show (WTm.eq .res (.lit (.bool true))).value [] {args:=args,res:=some (.bool true),after:=args}=some (.bool (true==true)) from w_eq_bool (w_res rfl) w_lit) rfl
theorem attach_call {l:OpenLaw}{n:Nat}{q:Program}{loose:List Str}{XP:(Str->α5)->Heap->Prop}{YP:World->Heap->Prop}{d:DefRec}
  (hn:l.most=some n) (hdf:d.params.defaults=[])
  (call:∀(w:World) (s₀ s₁:Shared) (mg mb:Str->α5) (fa:Addr) (o:Obj) (pm cd doc:Value) (a:Addr) (vs:List Value) (ns:α2),
   Ground q loose [] XP w s₀ mg mb s₁.heap->YP w s₁.heap ->
   s₁.heap.get? fa=some o->o.data=.func (docDef d.name d.params d.body d.scope pm cd doc)->s₁.heap.CodeRec cd d.name->mg d.name=some (.ref fa) ->
   s₁.heap.get? a=some {cls:=.type "list",data:=.seq vs.toArray}->IntsAre vs ns->ns.length<=n->s₁.gens = #[] ->
   codeAny (model l.prog w) callerA (.call (.ref fa) ⟨[.ref a],[]⟩) (fun r s'=>r=.ok (.ret (.bool true))/\OldK s₁.heap s'.heap/\s'.os=s₁.os/\AllBare s'.gens) s₁):
  WalkO q loose XP YP l.row.toRowW d [] (fun f vs=>PySem.call f vs):=by
 intro w s₀ s₁ mg mb G Y fa o pm cd doc dV kV ho hd hcd hD hmg hg args vals as hpre hlay hrd hwl hlo
 obtain rfl:dV=.none:=Dflts.none hD hdf
 obtain rfl:kV=.none:=Dflts.noKw hD
 obtain⟨a,vs,ns,rfl,rfl,hobj,hints,hlen⟩:=AN_ hn hpre hwl
 refine enter_call (codeAny_mono (call w s₀ s₁ mg mb fa o pm cd doc a vs ns G Y ho (fd_plain hd) hcd hmg hobj hints hlen hg) fun r s' hq=>?_)
 obtain⟨rfl,h2,h3,h4⟩:=hq
 exact⟨.inl ⟨.bool true,.bool true,[],rfl,fun _=>rfl,.bool true,AO_ l _,fun _=>⟨List.Pairwise.nil,fun _ hm=>(nomatch hm)⟩⟩,h2,h3,h4⟩
end Att
namespace L2
open PySem PySem.Spec PyProof.Rows
theorem VJ:∀{vs:List Value} {ns:α2},IntsAre vs ns->Vals (ns.map V.int) vs
 |_,_,.nil=>.nil
 |_,_,.cons n t h=>.cons ⟨t,rfl⟩ (VJ h)
noncomputable def Only (H:Hp):Prop:=∀b,H b=none \/ ∃o xs,H b=some (.frz o (.lst xs))
theorem Cu_   {K:α3}
  (KX:K.In s₁.heap) (hns:s₁.heap.Ns mainGlobals mg) (hb:s₁.heap.Ns builtinsNs mb) (hbb:∀x:Str,x ≠ "__name__" -> mb x=bootBuiltins x) (hlim:s₁.heap.NoLimit) (hg:s₁.gens = #[])
  (ha:s₁.heap.get? a=some {cls:=.type "list",data:=.seq vs.toArray}) (hi:IntsAre vs ns) (hl:ns.length<=sizeLine) (hr:Room k callerA)
  (F:∀base:Heap,K.In base->base.Ns mainGlobals mg->FnOk P w K mg base CX k fa fd [x] sp) (hbind:∀(s:Shared) (u:Value),BindsTo s fd ⟨[u],[]⟩ [(x,u)])
  (hsp:∀H:Hp,Only H->SqL K H a (ns.map V.int)->sp [.ref a] H (fun v _=>v=.bl true) fun _ _ _=>False)
  (hCX:∀H e s',CX [] H s₁ (fun _ _ _=>False) e s'->False):
  codeAny (model P w) callerA (.call (.ref fa) ⟨[.ref a],[]⟩) (fun r s'=>r=.ok (.ret (.bool true))/\OldK s₁.heap s'.heap/\s'.os=s₁.os/\AllBare s'.gens) s₁:=by
 have rv:=VJ hi
 have lenV:=hi.length
 -- from an abstract heap in which nothing but the script may be tracked
 have core:∀H:Hp,Only H->SqL K H a (ns.map V.int)->HOk P w H s₁.heap->(∀b,H b≠none->b=a)->(H a≠none->K.lookup a=none) ->
   codeAny (model P w) callerA (.call (.ref fa) ⟨[.ref a],[]⟩) (fun r s'=>r=.ok (.ret (.bool true))/\OldK s₁.heap s'.heap/\s'.os=s₁.os/\AllBare s'.gens) s₁:=by
  intro H hO hS hok hA hK
  have base_of:∀{b:Addr} {o:Obj},s₁.heap.get? b=some o->H b=none->(hidT s₁.heap H).get? b=some o:=fun e n=>Co_ e n
  have noA:∀{b:Addr} {o:Obj} {es:Array DictEntry} {ep:Nat},s₁.heap.get? b=some o->o.data=.dict es ep->H b=none:=fun {b o es ep} e d=>by
   cases q:H b with
   |none=>rfl
   |some u=>
    have e':b=a:=hA b (by rw[q];simp)
    subst e'
    rw[ha]at e;cases e
    have d':Data.seq vs.toArray _=Data.dict es ep:=d
    cases d'
  have nsK:∀{b:Addr} {m:Str->α5},s₁.heap.Ns b m->(hidT s₁.heap H).Ns b m:=fun {b m} ⟨o,es,ep,e,d,r⟩=>⟨o,es,ep,base_of e (noA e d),d,r⟩
  have hKb:K.In (hidT s₁.heap H):=fun b o e=>base_of (KX b o e) (by
   cases q:H b with
   |none=>rfl
   |some u=>
    have e':b=a:=hA b (by rw[q];simp)
    subst e'
    rw[hK (by rw[q];simp)]at e;cases e)
  have hM:Mod K mg (hidT s₁.heap H):=⟨hKb,nsK hns,⟨mb,nsK hb,hbb⟩,let ⟨mc,h1,h2⟩:=hlim;⟨mc,nsK h1,h2⟩⟩
  have e0:Env0 P w K mg (hidT s₁.heap H) callerA [] s₁ H:=⟨rfl,hM,fun b o e=>Fd_ e,Nat.le_of_eq (At_ _ _),trivial,fun b hb=>absurd (show b∈([]:List Addr) from hb) (by simp),hok,.of_eq hg⟩
  refine codeAny_mono ((F _ hKb (nsK hns)).run callerA [] s₁ H ⟨[.ref a],[]⟩ [.ref a] [.ref a] _ _ hr e0 (hbind s₁ (.ref a)) (.cons rfl .nil) (hsp H hO hS)) fun r s' h=>?_
  cases r with
  |error e=>exact (hCX H e s' h).elim
  |ok fl=>
   cases fl with
   |next=>exact False.elim h
   |brk=>exact False.elim h
   |cont=>exact False.elim h
   |ret u=>
    obtain⟨v,H',os,bare,un,hok',r',q⟩:=h
    have q':v=.bl true:=q
    subst q'
    obtain rfl:u=Value.bool true:=r'
    refine⟨rfl,OldK.of_keep fun b o e=>?_,os,bare⟩
    cases q:H b with
    |none=>exact un.keep b o e q (by intro z;exact absurd (show b∈([]:List Addr) from z) (by simp)) (by simp)
    |some u=>
     rcases hO b with z|⟨ob,xs,z⟩
     ·rw[q]at z;cases z
     ·have z2:=un.frzs b ob _ z
      obtain⟨e1,_⟩:=hok b _ z
      obtain⟨e2,_⟩:=hok' b _ z2
      rw[e]at e1;cases e1
      exact e2
 cases hk:K.lookup a with
 |some o=>
  -- the script is one of the module's own objects
  have e:=KX a o hk
  rw[ha]at e
  cases e
  refine core (fun _=>none) (fun _=>.inl rfl) (.inr ⟨_,vs.toArray,_,hk,rfl,rfl,rfl,by rw[jl_,lenV];exact hl,by simpa using rv⟩) (fun b u z=>by have z':(none:Option HO)=some u:=z;cases z') (fun b z=>absurd rfl z) fun z=>absurd rfl z
 |none=>
  refine core (fun b=>if b=a then some (.frz {cls:=.type "list",data:=.seq vs.toArray} (.lst (ns.map V.int))) else none) (fun b=>?_) (.inl (.inr ⟨{cls:=.type "list",data:=.seq vs.toArray},if_pos rfl⟩)) (fun b u z=>?_) (fun b z=>?_) fun _=>hk
  ·by_cases hb:b=a
   ·exact .inr ⟨_,_,if_pos hb⟩
   ·exact .inl (if_neg hb)
  ·by_cases hb:b=a
   ·have z':=(if_pos hb).symm.trans z
    cases z'
    subst hb
    exact⟨ha,by rw[jb_];exact hl,vs,_,rv,ha⟩
   ·have z':=(if_neg hb).symm.trans z
    cases z'
  ·by_cases hb:b=a
   ·exact hb
   ·exact absurd (if_neg hb) z
theorem walk_of {l:PySem.W.OpenLaw}{n k:Nat}{q:Program}{loose:List Str}{XP:(Str->α5)->Heap->Prop}{YP:World->Heap->Prop}{d:DefRec}{K:Params->α3}{CX:World->CXT}{sp:World->Sp}{x:Str}
  (hn:l.most=some n) (hn2:n<=sizeLine) (hdf:d.params.defaults=[]) (hr:Room k callerA)
  (hY:∀(w:World) (h:Heap),YP w h->(K w.params).In h)
  (F:∀(w:World) (mg:Str->α5) (fa:Addr) (h:Heap),(K w.params).In h->h.Ns mainGlobals mg->mg d.name=some (.ref fa) ->
   ∃fd:α6,(∀(s:Shared) (u:Value),BindsTo s fd ⟨[u],[]⟩ [(x,u)]) /\
    ∀base:Heap,(K w.params).In base->base.Ns mainGlobals mg->FnOk l.prog w (K w.params) mg base (CX w) k fa fd [x] (sp w))
  (hsp:∀(w:World) (H:Hp) (a:Addr) (ns:α2),ns.length<=n->Only H->SqL (K w.params) H a (ns.map V.int)->sp w [.ref a] H (fun v _=>v=.bl true) fun _ _ _=>False)
  (hCX:∀(w:World) (H:Hp) (s:Shared) (e:Value) (s':Shared),CX w [] H s (fun _ _ _=>False) e s'->False):
  PySem.W.WalkO q loose XP YP l.row.toRowW d [] (fun f vs=>PySem.call f vs):=by
 refine Att.attach_call hn hdf fun w s₀ s₁ mg mb fa o pm cd doc a vs ns G Y ho hd hcd hmg hobj hints hlen hg=>?_
 have KX:=hY w _ Y
 obtain⟨fd,hb,hF⟩:=F w mg fa _ KX G.T.g hmg
 exact Cu_ KX G.T.g G.T.b G.T.builtins G.T.nolimit hg hobj hints (jV_ hlen hn2) hr hF hb (fun H hO hS=>hsp w H a ns hlen hO hS) fun H e s'=>hCX w H s₁ e s'
noncomputable def Ax (s:Stmt):Arguments:=match s with
 |.FunctionDef _ a _ _ _ _ _ _ _ _=>a
 |_=>{posonlyargs:=[],args:=[],vararg:=none,kwonlyargs:=[],kw_defaults:=[],kwarg:=none,defaults:=[]}
noncomputable def Av (s:Stmt):List Stmt:=match s with
 |.FunctionDef _ _ b _ _ _ _ _ _ _=>b
 |_=>[]
noncomputable def Af (s:Stmt):Scope:=match s with
 |.FunctionDef _ _ _ _ _ _ sc _ _ _=>sc
 |_=>{kind:=.function,names:=[],isGenerator:=false,isCoroutine:=false}
noncomputable abbrev CX0:CXT:=fun _ _ _ _ _ _=>False
noncomputable abbrev E0:XK:=fun _ _ _=>False
theorem AL  : VB CX0 X E0:=fun _ _ _ _ _ _ _ h=>h.elim
structure Fun (K:α3)(x qual:Str)(st:Stmt)(f:Addr)(fd:α6):Prop where
 ex:∃(oc:Value) (od:Option Addr) (kV doc pm:Value) (an:Option Addr) (cdv ct:Value) (osl:Array (α5)),
  fd=fnOf x qual (Ax st) (Av st) (Af st) .none kV doc pm an cdv ct/\K.lookup f=some ⟨oc,od,.func fd,osl⟩/\codeIn K cdv qual=true
 kp:keepIn K (.ref f)=true
section
variable {P:Program} {w:World} {K:α3} {mg:Str->α5} {base:Heap}
theorem Fun.ok  {st:Stmt}      (F:Fun K x qual st f fd)(S:FnScope N ps (Af st))(len:∀vs H Q E,sp vs H Q E->vs.length=ps.length)
  (hbody:∀(cdv:Value) (A:Around) (outer:List Env) (s:Shared) (H:Hp) (vs:List V) (Q:VK) (E:XK),Room k (A.deeper (envOfC qual (Af st) s.heap.objs.size f cdv))->sp vs H Q E ->
   ∃t,PSs (cxOf CX0 P w K mg base N qual (Af st) f cdv A outer s H E).nox (Av st) t/\t {nx:=fun _ H'=>Q .non H',rt:=Q} (start N vs) H):FnOk P w K mg base CX0 (k+1) f fd ps sp:=by
 obtain⟨oc,od,kV,doc,pm,an,cdv,ct,osl,rfl,lk,hcd⟩:=F.ex
 refine GD_ lk hcd S len fun A outer s H vs Q E hr hsp=>?_
 obtain⟨t,h,q⟩:=hbody cdv A outer s H vs Q E hr hsp
 exact⟨t,h.nox,q⟩
theorem Fun.binds  {st:Stmt}    (F:Fun K x qual st f fd)
  (h:∀(kV doc pm:Value) (an:Option Addr) (cdv ct:Value) (us:List Value),us.length=ps.length->bindArgs (fnOf x qual (Ax st) (Av st) (Af st) .none kV doc pm an cdv ct) ⟨us,[]⟩=pure (ps.zip us)):AI K fd ps []:=by
 obtain⟨oc,od,kV,doc,pm,an,cdv,ct,osl,rfl,lk,hcd⟩:=F.ex
 exact .all (h kV doc pm an cdv ct)
theorem AS  {st:Stmt}     {kV doc pm cdv ct:Value}(l:K.lookup f=some ⟨oc,od,.func (fnOf x qual (Ax st) (Av st) (Af st) .none kV doc pm an cdv ct),osl⟩)
  (c:codeIn K cdv qual=true) (k:keepIn K (.ref f)=true):Fun K x qual st f (fnOf x qual (Ax st) (Av st) (Af st) .none kV doc pm an cdv ct):=⟨⟨oc,od,kV,doc,pm,an,cdv,ct,osl,rfl,l,c⟩,k⟩
end
theorem Cv_   (hr:Room k A):A.units+1<cLine:=Nat.lt_of_le_of_lt (Nat.add_le_add_left (by decide:1<=64) _) hr.units
section
variable {X:Cx}
theorem pv (i:Nat)   (hN:X.N[i]?=some x:=by rfl)(hv:Vis X.env.scope x:=by first|exact Or.inl rfl|exact Or.inr (Or.inl rfl)|exact Or.inr (Or.inr rfl))(hd:(x==("__debug__" : Str))=false:=by decide)
  (hcd:(x==("__classdict__" : Str))=false:=by decide):PE X (.Name x pos) (tVar i):=Gp_ hN hv hd hcd
end
theorem ite2 {c A B:Prop}[Decidable c](h1:c->A)(h2:¬ c->B):if c then A else B:=by
 by_cases h:c
 ·rw[if_pos h]
  exact h1 h
 ·rw[if_neg h]
  exact h2 h
noncomputable def Same (H H':Hp):Prop:=∀b o,H b=some o->H' b=some o
theorem Same.refl (H:Hp):Same H H:=fun _ _ h=>h
theorem Same.trans {H H1 H2:Hp}(a:Same H H1)(b:Same H1 H2):Same H H2:=fun c o h=>b c o (a c o h)
theorem Same.seq {K:α3}    (e:Same H H')(h:SqL K H a xs):SqL K H' a xs:=by
 rcases h with (h|⟨o,h⟩)|h
 ·exact .inl (.inl (e _ _ h))
 ·exact .inl (.inr ⟨o,e _ _ h⟩)
 ·exact .inr h
end L2
set_option maxHeartbeats 4000000
namespace L2
open PySem PySem.Spec PyProof.Rows
section
variable {κ:Type} [DecidableEq κ]
noncomputable def valV (kvs:List (κ×V))(k:κ):Option V:=(kvs.find? fun kv=>decide (kv.1=k)).map (·.2)
noncomputable def putK (kvs:List (κ×V))(k:κ)(v:V):List (κ×V):=
 if (kvs.any fun kv=>decide (kv.1=k))=true then kvs.map (fun kv=>if kv.1=k then (kv.1,v) else kv) else kvs++[(k,v)]
theorem Sw {p:κ×V}{r:List (κ×V)}{k:κ}(e:p.1=k):valV (p::r) k=some p.2:=by simp[valV,xu_,e]
theorem Sx {p:κ×V}{r:List (κ×V)}{k:κ}(e:¬ p.1=k):valV (p::r) k=valV r k:=by simp[valV,xu_,e]
theorem Ld (k:κ):∀kvs:List (κ×V),(kvs.any fun kv=>decide (kv.1=k))=(valV kvs k).isSome
 |[]=>rfl
 |p::r=>by
  rw[List.any_cons]
  by_cases e:p.1=k
  ·simp only[Sw e,qg_ e,Bool.true_or,Option.isSome_some]
  ·rw[Sx e,qj_ e,Bool.false_or];exact Ld k r
theorem KL (kvs:List (κ×V))(k:κ)(v:V):(putK kvs k v).length<=kvs.length+1:=by
 unfold putK
 split
 ·rw[jb_];lia
 ·rw[jk_,q7_,zs_];lia
theorem Cw_ {kvs:List (κ×V)}{k:κ}(v:V)(h:valV kvs k=none):putK kvs k v=kvs++[(k,v)]:=by
 unfold putK
 rw[Ld,h]
 exact if_neg (by decide)
theorem RelO.isSome_eq   (r:RelO o u):o.isSome=u.isSome:=by
 cases o with
 |none=>cases u with
  |none=>rfl
  |some _=>exact (show False from r).elim
 |some _=>cases u with
  |none=>exact (show False from r).elim
  |some _=>rfl
theorem KV.val   (r:KV kvs vs)(k:κ):RelO (valV kvs k) (valueAt vs k):=by
 unfold KV at r
 induction r with
 |nil=>exact True.intro
 |@cons p q ps qs h t ih=>
  obtain⟨h1,h2⟩:=h
  by_cases e:p.1=k
  ·have e':q.1=k:=h1.symm.trans e
   have b:valueAt (q::qs) k=some q.2:=by simp[valueAt,xu_,e']
   rw[Sw e,b];exact h2
  ·have e':¬ q.1=k:=fun z=>e (h1.trans z)
   have b:valueAt (q::qs) k=valueAt qs k:=by simp[valueAt,xu_,e']
   rw[Sx e,b];exact ih
theorem KV.any   (r:KV kvs vs)(k:κ):(kvs.any fun kv=>decide (kv.1=k))=vs.any fun kv=>decide (kv.1=k):=by
 unfold KV at r
 induction r with
 |nil=>rfl
 |cons h t ih=>rw[List.any_cons,List.any_cons,ih,h.1]
theorem KV.repl   (r:KV kvs vs)(k:κ)   (ry:RelV y u):
  KV (kvs.map fun kv=>if kv.1=k then (kv.1,y) else kv) (vs.map fun kv=>if kv.1=k then (kv.1,u) else kv):=by
 unfold KV at r ⊢
 induction r with
 |nil=>exact .nil
 |@cons p q ps qs h t ih=>
  rw[j4_,j4_]
  refine .cons ?_ ih
  obtain⟨h1,h2⟩:=h
  by_cases e:p.1=k
  ·rw[if_pos e,if_pos (h1.symm.trans e)];exact⟨h1,ry⟩
  ·rw[if_neg e,if_neg (fun z=>e (h1.trans z))];exact⟨h1,h2⟩
theorem KV.put   (r:KV kvs vs)(k:κ)   (ry:RelV y u):KV (putK kvs k y) (stored vs k u):=by
 unfold putK stored
 rw[r.any k]
 by_cases e:(vs.any fun kv=>decide (kv.1=k))=true
 ·rw[if_pos e,if_pos e];exact r.repl k ry
 ·rw[if_neg e,if_neg e];exact Paired.snoc r ⟨rfl,ry⟩
theorem KV.length {kvs:List (κ×V)}{vs:List (κ×Value)}(r:KV kvs vs):kvs.length=vs.length:=zm_ r
end
theorem Cx_     (r:RelV (kV k) u):(CG P w).is k u=true:=by
 cases k with
 |inl i=>obtain⟨t,e⟩:=(show ∃t,u=Value.int i t from r);subst e;exact Xe P w i t
 |inr x=>obtain⟨t,e⟩:=(show ∃t,u=Value.str x t from r);subst e;exact Xf P w x t
theorem VL {P:Program}{w:World}:∀{ks:List Key} {us:List Value},Vals (ks.map kV) us->ItemsAre (CG P w) ks us
 |[],_,r=>by rw[q1_]at r;cases r;exact .nil
 |k::ks,_,r=>by
  rw[j4_]at r
  cases r with
  |cons h t=>exact .cons (Cx_ h) (VL t)
noncomputable abbrev KT (H:Hp):List (List Key×V)->List (List Key×Addr×Value)->Prop:=Paired fun p q=>p.1=q.1/\H q.2.1=some (.tup (p.1.map kV))/\RelV p.2 q.2.2
theorem KT.val    (r:KT H kvs xs)(k:List Key):RelO (valV kvs k) ((atKey xs k).map (·.2)):=by
 induction r with
 |nil=>exact True.intro
 |@cons p q ps qs h t ih=>
  obtain⟨h1,_,h2⟩:=h
  by_cases e:p.1=k
  ·have e':q.1=k:=h1.symm.trans e
   have b:atKey (q::qs) k=some q.2:=by simp[atKey,xu_,e']
   rw[Sw e,b];exact h2
  ·have e':¬ q.1=k:=fun z=>e (h1.trans z)
   have b:atKey (q::qs) k=atKey qs k:=by simp[atKey,xu_,e']
   rw[Sx e,b];exact ih
theorem KT.repl    (r:KT H kvs xs)(k:List Key)   (ry:RelV y u):
  KT H (kvs.map fun kv=>if kv.1=k then (kv.1,y) else kv) (xs.map (putAt k u)):=by
 induction r with
 |nil=>exact .nil
 |@cons p q ps qs h t ih=>
  rw[j4_,j4_]
  refine .cons ?_ ih
  obtain⟨h1,h2,h3⟩:=h
  unfold putAt
  by_cases e:p.1=k
  ·rw[if_pos e,if_pos (h1.symm.trans e)];exact⟨h1,h2,ry⟩
  ·rw[if_neg e,if_neg (fun z=>e (h1.trans z))];exact⟨h1,h2,h3⟩
theorem KT.put    (r:KT H kvs xs)(k:List Key)    (hb:H b=some (.tup (k.map kV)))(ry:RelV y u):
  KT H (putK kvs k y) (storedH xs k b u):=by
 have e:(kvs.any fun kv=>decide (kv.1=k))=(atKey xs k).isSome:=by
  rw[Ld,(r.val k).isSome_eq,Option.isSome_map]
 unfold putK storedH
 rw[e]
 by_cases q:(atKey xs k).isSome=true
 ·rw[if_pos q,if_pos q];exact r.repl k ry
 ·rw[if_neg q,if_neg q];exact Paired.snoc r ⟨rfl,hb,ry⟩
theorem KT.keeps    (r:KT H kvs xs)(ht:∀b ys,H b=some (.tup ys)->H' b=some (.tup ys)):KT H' kvs xs:=
 Paired.mapP r fun _ _ z=>⟨z.1,ht _ _ z.2.1,z.2.2⟩
section
variable {P:Program} {w:World} {H:Hp} {h:Heap} {a:Addr}
theorem Cy_  (ok:HOk P w H h)(e:Rd H a u):Bz P w H h a u:=e.ok ok
theorem Cz_  (ok:HOk P w H h)(e:Rd H a (.dK kvs)):kvs.length<=sizeLine/\(a==sysModules)=false/\∃vs,KV kvs vs/\h.DictOf (CG P w) a vs:=
 show Bz P w H h a (.dK kvs) from Cy_ ok e
theorem GJ_  (ok:HOk P w H h)(e:H a=some (.dK kvs)):kvs.length<=sizeLine/\(a==sysModules)=false/\∃vs,KV kvs vs/\h.DictOf (CG P w) a vs:=Cz_ ok (.inl e)
theorem AP_  (ok:HOk P w H h)(e:H a=some (.tup (ks.map kV))):(tupleKind (CG P w)).is h ks a:=by
 obtain⟨_,its,r,o,h1,h2,n,h3⟩:=(show Bz P w H h a (.tup (ks.map kV)) from ok a _ e)
 exact⟨o,its.toArray,n,h1,h2,h3,by simpa using VL r⟩
theorem Fk_  (ok:HOk P w H h)(e:Rd H a (.dT kvs)):kvs.length<=sizeLine/\(a==sysModules)=false /\
  ∃xs,KT H kvs xs/\h.DictOfH (tupleKind (CG P w)) a xs:=by
 obtain⟨z,y,xs,r,o,es,ep,h1,h2,h3,h4,h5⟩:=(show Bz P w H h a (.dT kvs) from Cy_ ok e)
 refine⟨z,y,xs,r,o,es,ep,h1,h2,h3,h4,fun x hx=>?_,h5⟩
 have all:∀{l:List (List Key×V)} {m:List (List Key×Addr×Value)},KT H l m->∀x∈m,(tupleKind (CG P w)).is h x.1 x.2.1:=by
  intro l m q
  induction q with
  |nil=>intro x hx;exact nomatch hx
  |@cons p q ps qs hq t ih=>
   intro x hx
   rcases jL_.mp hx with e|hx
   ·subst e
    exact AP_ ok (by rw[<-hq.1];exact hq.2.1)
   ·exact ih x hx
 exact all r x hx
theorem Ij_  (ok:HOk P w H h)(e:H a=some (.dT kvs)):kvs.length<=sizeLine/\(a==sysModules)=false /\
  ∃xs,KT H kvs xs/\h.DictOfH (tupleKind (CG P w)) a xs:=Fk_ ok (.inl e)
end
noncomputable def DGet (H:Hp)(a:Addr)(y:V)(r:Option V):Prop:=
 (∃kvs k,Rd H a (.dK kvs)/\y=kV k/\r=valV kvs k) \/ ∃kvs k b,Rd H a (.dT kvs)/\y=.ref b/\H b=some (.tup (k.map kV))/\r=valV kvs k
noncomputable def DPut (H:Hp)(a:Addr)(y v:V)(H':Hp):Prop:=
 (∃kvs k,H a=some (.dK kvs)/\y=kV k/\kvs.length<sizeLine/\H'=upd H a (.dK (putK kvs k v))) \/
 ∃kvs k b,H a=some (.dT kvs)/\y=.ref b/\H b=some (.tup (k.map kV))/\kvs.length<sizeLine/\H'=upd H a (.dT (putK kvs k v))
theorem DGet.k {H:Hp}{a:Addr}{kvs:List (Key×V)}{k:Key}(e:H a=some (.dK kvs)):DGet H a (kV k) (valV kvs k):=.inl ⟨kvs,k,.inl e,rfl,rfl⟩
theorem DPut.k {H:Hp}{a:Addr}{kvs:List (Key×V)}{k:Key}{v:V}(e:H a=some (.dK kvs))(hl:kvs.length<sizeLine):DPut H a (kV k) v (upd H a (.dK (putK kvs k v))):=.inl ⟨kvs,k,e,rfl,hl,rfl⟩
theorem DPut.t {H:Hp}{a b:Addr}{kvs:List (List Key×V)}{k:List Key}{v:V}(e:H a=some (.dT kvs))(eb:H b=some (.tup (k.map kV)))(hl:kvs.length<sizeLine):
  DPut H a (.ref b) v (upd H a (.dT (putK kvs k v))):=.inr ⟨kvs,k,b,e,rfl,eb,hl,rfl⟩
section
variable {X:Cx} {pins:α7} {σ:St} {H:Hp} {s:Shared} {a:Addr} {y v:V} {u r:Value} {o:Option V} {A:Around} {E:Value->Shared->Prop}
theorem Inv.big (I:Inv X pins σ H s):sysModules<s.heap.objs.size:=by
 have h:mainGlobals<s.heap.objs.size:=(I.mod.glob.keeps I.bk).lt
 exact Nat.lt_trans (by decide) h
theorem AQ_  (hu:A.units+1<cLine)(I:Inv X pins σ H s)(g:DGet H a y (some v))(ry:RelV y u)(h:∀w' s',Inv X pins σ H s'->RelV v w'->Q w' s'):
  wpAny (model X.prog X.w) A (getItem (.ref a) u) Q E s:=by
 rcases g with ⟨kvs,k,e,ey,l⟩|⟨kvs,k,b,e,ey,eb,l⟩
 ·subst ey
  obtain⟨z,hd,vs,rel,dd⟩:=Cz_ I.hok e
  obtain⟨w',hw,rw'⟩:=RelO.some_of (v:=v) (o:=valueAt vs k) (by rw[l];exact rel.val k)
  exact wpAny_getItem_of (Cx_ ry) dd.mapOf hw (h w' _ (I.tok _) rw')
 ·subst ey
  cases (show u=Value.ref b from ry)
  obtain⟨z,hd,xs,rel,dd⟩:=Fk_ I.hok e
  obtain⟨w',hw,rw'⟩:=RelO.some_of (v:=v) (o:=(atKey xs k).map (·.2)) (by rw[l];exact rel.val k)
  obtain⟨p,hp,hp2⟩:=Option.map_eq_some_iff.mp hw
  refine wpAny_getItem_heap (tupleKind_room_in1 hu) (AP_ I.hok eb) dd hp ?_
  rw[hp2]
  exact h w' _ (I.tok _) rw'
theorem ON    (I:Inv X pins σ H s)(mu:Mut (H a))(hs:Heap.SameBut a s.heap h')(he:∃q,h'.get? a=some q)(new:Bz X.prog X.w (upd H a ob) h' a ob):
  Inv X pins σ (upd H a ob) {s with heap:=h',toks:=t' }:=
 I.write (x:=a) (e:=a) mu (.inl rfl) (fun b q hb z=>(hs.2 b hb).trans z) he new
theorem DP_       (z:kvs.length<=sizeLine)(hd:(a==sysModules)=false)(rel:KV kvs vs)(dd:h'.DictOf (CG P w) a vs):
  Bz P w H' h' a (.dK kvs):=⟨z,hd,vs,rel,dd⟩
theorem AR_   (hu:A.units+1<cLine)(I:Inv X pins σ H s)(g:DPut H a y v H')(ry:RelV y u)(rv:RelV v r)(h:∀s',Inv X pins σ H' s'->Q () s'):
  wpAny (model X.prog X.w) A (setItem (.ref a) u r) Q E s:=by
 rcases g with ⟨kvs,k,e,ey,l,eH⟩|⟨kvs,k,b,e,ey,eb,l,eH⟩
 ·subst ey eH
  obtain⟨z,hd,vs,rel,dd⟩:=GJ_ I.hok e
  have hz:vs.length<=sizeLine:=by rw[<-rel.length];exact z
  have hl:(putK kvs k v).length<=sizeLine:=by have:=KL kvs k v;lia
  refine wpAny_setItem_pairs (hsz:=hz) (Cx_ ry) dd fun h' dd' hs=>h _ ?_
  have he:∃q,h'.get? a=some q:=let ⟨q,_,_,hq,_⟩:=dd';⟨q,hq⟩
  exact ON I (by rw[e];exact True.intro) hs he (DP_ hl hd (rel.put k rv) dd')
 ·subst ey eH
  cases (show u=Value.ref b from ry)
  obtain⟨z,hd,xs,rel,dd⟩:=Ij_ I.hok e
  have hz:xs.length<=sizeLine:=by rw[<-zm_ rel];exact z
  have hl:(putK kvs k v).length<=sizeLine:=by have:=KL kvs k v;lia
  refine wpAny_setItem_heap (hsz:=hz) (tupleKind_room_in1 hu) (AP_ I.hok eb) dd fun h' dd' hs=>h _ ?_
  obtain⟨q,es,ep,hq,h2,h3,h4,_,h5⟩:=dd'
  refine ON I (by rw[e];exact True.intro) hs ⟨q,hq⟩ ⟨hl,hd,_,(rel.put k eb rv).keeps fun c ys ec=>?_,q,es,ep,hq,h2,h3,h4,h5⟩
  rw[AD (Ig_ ec e (fun z=>nomatch z))]
  exact ec
end
noncomputable def NoSl (i:Expr):Prop:=∀ov iv,subscripted i false ov iv=operate [ov,iv] (getItem ov iv)
theorem Fl_         {T id:String}
  (hl:typeLookup (.type T) "__getitem__"=pure (some (.builtin id))) (hs:NoSl slice)
  (h:wpAny (model prog w) A (eval value env) (fun o s₁=>wpAny (model prog w) A (eval slice env) (fun i s₂=>s₂.TypeIs o T/\wpAny (model prog w) A (getItem o i) Q E s₂) E s₁) E s):
  wpAny (model prog w) A (eval (.Subscript value slice pos) env) Q E s:=by
 refine Subscript_ (qL_ h (fun o s₁ h₁=>qL_ h₁ (fun i s₂ h₂=>?_) fun _ _ x=>x) fun _ _ x=>x)
 obtain⟨hT,h₂⟩:=h₂
 unfold subscriptTail
 refine je_ ?_
 rw[getitemInPython_of_ne hT.not_modules]
 refine je_ (wpAny_specialOf hT hl ?_)
 have fin:wpAny (model prog w) A (subscripted slice false o i) (fun r s₃=>wpAny (model prog w) A (letTemporaryGo value o r >>= fun _=>pure r) Q E s₃) E s₂:=by
  rw[hs o i]
  exact wpAny_operating (qL_ h₂ (fun r s₃ h₃=>je_ (wpAny_letTemporaryGo (js_ h₃))) fun _ _ x=>x)
 first
  | exact js_ (je_ fin)
  | exact je_ (js_ (je_ fin))
  | exact je_ fin
theorem Xh         (I:Inv X pins σ H s)(g:DGet H a y o):s.TypeIs (.ref a) "dict" := by
 rcases g with ⟨kvs,k,e,_,_⟩|⟨kvs,k,b,e,_,_,_⟩
 ·obtain⟨_,_,vs,_,dd⟩:=Cz_ I.hok e
  exact dd.typeIs
 ·obtain⟨_,_,xs,_,dd⟩:=Fk_ I.hok e
  exact dd.typeIs
noncomputable def GK_ (td ty:TE):TE:=fun σ H Q=>td σ H fun x H1=>ty σ H1 fun y H2=>∃a v,x=.ref a/\DGet H2 a y (some v)/\Q v H2
noncomputable def GL_ (td ty tv:TE):TS:=fun D σ H=>tv σ H fun v H1=>td σ H1 fun x H2=>ty σ H2 fun y H3=>∃a H4,x=.ref a/\DPut H3 a y v H4/\D.nx σ H4
section
variable {X:Cx} {o i e value:Expr} {pos pos' tpos:Pos} {td ty tv:TE}
theorem Fm_ (hu:X.A.units+1<cLine)(ho:PE X o td)(hi:PE X i ty)(hs:NoSl i):PE X (.Subscript o i pos) (GK_ td ty):=by
 intro pins s σ H Q I h
 refine Fl_ PySem.F.slot_dict_getitem.lookup hs (thn (ho pins s σ H _ I h) fun u s1 ⟨x,H1,I1,rx,q1⟩=>thn (hi pins s1 σ H1 _ I1 q1) fun iv s2 ⟨y,H2,I2,ry,a,v,ex,g,q2⟩=>?_)
 subst ex
 obtain rfl:u=Value.ref a:=rx
 exact⟨Xh I2 g,AQ_ hu I2 g ry fun w' s3 I3 rw'=>⟨v,H2,I3,rw',q2⟩⟩
theorem Xi (hu:X.A.units+1<cLine)(ho:PE X o td)(hi:PE X i ty)(hv:PE X value tv)(hs:swapsWith value (some (.Subscript o i pos')) pos.line X.env=pure false):
  PS X (.Assign [.Subscript o i pos'] value pos) (GL_ td ty tv):=by
 intro pins s σ H D I h
 refine wpAny_Assign_Subscript (thn (hv pins s σ H _ I h) fun r s1 ⟨v,H1,I1,rv,q1⟩=>thn (ho pins s1 σ H1 _ I1 q1) fun u s2 ⟨x,H2,I2,rx,q2⟩=>thn (hi pins s2 σ H2 _ I2 q2) fun iv s3 ⟨y,H3,I3,ry,a,H4,ex,g,q3⟩=>?_) hs
 subst ex
 obtain rfl:u=Value.ref a:=rx
 exact AR_ hu I3 g ry rv fun s4 I4=>⟨σ,H4,I4,q3⟩
end
theorem Yf    (h:Heap)(hb:sysModules<h.objs.size):Bz P w H (h.push {cls:=.type "dict",data:=.dict #[]}) h.objs.size (.dK []):=
 ⟨qt_ _,zn_.mpr (qT_ (jG_ hb)),[],.nil,Heap.DictOf.new h⟩
theorem CA_    (h:Heap)(hb:sysModules<h.objs.size):Bz P w H (h.push {cls:=.type "dict",data:=.dict #[]}) h.objs.size (.dT []):=
 ⟨qt_ _,zn_.mpr (qT_ (jG_ hb)),[],.nil,_,#[],0,jy_ _ rfl,⟨rfl,rfl,rfl⟩,rfl,rfl,List.nodup_nil⟩
noncomputable def DQ_:TE:=fun _ H Q=>∀p,H p=none->Q (.ref p) (upd H p (.dK []))
noncomputable def DR_:TE:=fun _ H Q=>∀p,H p=none->Q (.ref p) (upd H p (.dT []))
section
variable {X:Cx} {pos:Pos}
theorem Sy:PE X (.Dict [] [] pos) DQ_:=fun pins s σ H Q I h=>
 wpAny_Dict_empty ⟨.ref s.heap.objs.size,_,I.laid (a:=s.heap.objs.size) (o:=.dK []) (t':=s.toks) (fun _ _ q=>jm_ _ q) (jf_ _) (Yf s.heap I.big),rfl,h _ (I.hok.fresh (jf_ _))⟩
theorem CB_:PE X (.Dict [] [] pos) DR_:=fun pins s σ H Q I h=>
 wpAny_Dict_empty ⟨.ref s.heap.objs.size,_,I.laid (a:=s.heap.objs.size) (o:=.dT []) (t':=s.toks) (fun _ _ q=>jm_ _ q) (jf_ _) (CA_ s.heap I.big),rfl,h _ (I.hok.fresh (jf_ _))⟩
end
noncomputable def OO:List (TE×TE)->St->Hp->(List (V×V)->Hp->Prop)->Prop
 |[],_,H,Q=>Q [] H
 | (tk,tv)::r,σ,H,Q=>tk σ H fun x H1=>tv σ H1 fun y H2=>OO r σ H2 fun ps H3=>Q ((x,y)::ps) H3
noncomputable abbrev VV:List (V×V)->List (Value×Value)->Prop:=Paired fun p q=>RelV p.1 q.1/\RelV p.2 q.2
noncomputable def PPs (X:Cx)(pos:Pos)(keys:List (Option Expr))(values:List Expr)(trs:List (TE×TE)):Prop:=
 ∀(pins:α7) (s:Shared) (σ:St) (H:Hp) (Q:List (V×V)->Hp->Prop),Inv X pins σ H s->OO trs σ H Q ->
  wpAny (model X.prog X.w) X.A (evalPairs (pairTrees keys values X.env pos)) (fun vs s'=>∃ps H',Inv X pins σ H' s'/\VV ps vs/\Q ps H') X.xe s
theorem Fn_   : PPs X pos [] [] []:=fun pins s σ H Q I h=>pairTrees_nil_walk ⟨[],H,I,.nil,h⟩
theorem CC_        (hk:PE X k tk)(hv:PE X v tv)(hr:PPs X pos ks vs trs):
  PPs X pos (some k::ks) (v::vs) ((tk,tv)::trs):=fun pins s σ H Q I h=>
 pairTrees_cons_walk (thn (hk pins s σ H _ I h) fun u s1 ⟨x,H1,I1,rx,q1⟩=>thn (hv pins s1 σ H1 _ I1 q1) fun w2 s2 ⟨y,H2,I2,ry,q2⟩ =>
  thn (hr pins s2 σ H2 _ I2 q2) fun ws s3 ⟨ps,H3,I3,rel,q3⟩=>⟨(x,y)::ps,H3,I3,.cons ⟨rx,ry⟩ rel,q3⟩)
noncomputable def Ny (kvs more:List (Key×V)):List (Key×V):=more.foldl (fun acc kv=>putK acc kv.1 kv.2) kvs
theorem KV.merge:∀{more:List (Key×V)} {rs:List (Key×Value)} {kvs:List (Key×V)} {vs:List (Key×Value)},KV more rs->KV kvs vs->KV (Ny kvs more) (merged vs rs):=by
 intro more rs kvs vs r
 unfold KV at r
 induction r generalizing kvs vs with
 |nil=>intro q;exact q
 |@cons p q ps qs h t ih=>
  intro r0
  have e:KV (putK kvs p.1 p.2) (stored vs q.1 q.2):=by
   have:=r0.put p.1 h.2
   rw[<-h.1];exact this
  exact ih e
theorem Le:∀(more kvs:List (Key×V)),(Ny kvs more).length<=kvs.length+more.length
 |[],kvs=>by show kvs.length<=kvs.length+0;lia
 |p::r,kvs=>by
  have h1:=Le r (putK kvs p.1 p.2)
  have h2:=KL kvs p.1 p.2
  show (Ny (putK kvs p.1 p.2) r).length<=_
  rw[q7_];lia
theorem RS {P:Program}{w:World}:∀{kvs:List (Key×V)} {ws:List (Value×Value)},VV (kvs.map fun kv=>(kV kv.1,kv.2)) ws->∃rs,Carries (CG P w) ws rs/\KV kvs rs
 |[],_,r=>by rw[q1_]at r;cases r;exact⟨[],True.intro,.nil⟩
 |p::kvs,_,r=>by
  rw[j4_]at r
  cases r with
  |@cons a b as bs h t=>
   obtain⟨rs,c,q⟩:=RS (P:=P) (w:=w) t
   obtain⟨b1,b2⟩:=b
   exact⟨(p.1,b2)::rs,⟨Cx_ h.1,rfl,c⟩,.cons ⟨rfl,h.2⟩ q⟩
noncomputable def Fo_ (trs:List (TE×TE)):TE:=fun σ H Q=>∀p,H p=none->OO trs σ (upd H p (.dK [])) fun ps H2=>H2 p=some (.dK [])/\∃kvs:List (Key×V),ps=kvs.map (fun kv=>(kV kv.1,kv.2))/\kvs.length<=15/\Q (.ref p) (upd H2 p (.dK (Ny [] kvs)))
theorem Fp_      (h:PPs X pos keys values trs)(hall:keys.all (·.isSome)=true)(hl:keys.length=values.length)(h0:keys ≠ [])
  (h15:keys.length<=15):PE X (.Dict keys values pos) (Fo_ trs):=by
 intro pins s σ H Q I q
 have hn:=I.hok.fresh (jf_ s.heap.objs.size)
 have I1:=I.laid (a:=s.heap.objs.size) (o:=.dK []) (h':=s.heap.push {cls:=.type "dict",data:=.dict #[]}) (t':=s.toks) (fun _ _ q=>jm_ _ q) (jf_ _) (Yf s.heap I.big)
 refine wpAny_Dict_walk (knd:=CG X.prog X.w) hall hl h0 h15 (thn (h pins _ σ _ _ I1 (q _ hn)) fun ws s2 ⟨ps,H2,I2,rel,e,kvs,ep,lk,q2⟩=>?_)
 subst ep
 obtain⟨rs,c,rk⟩:=RS (P:=X.prog) (w:=X.w) rel
 obtain⟨z,hd,vs0,r0,dd⟩:=GJ_ I2.hok e
 cases r0
 refine⟨rs,c,dd,fun h' dd' hs=>⟨.ref s.heap.objs.size,_,?_,rfl,q2⟩⟩
 have hz:(Ny [] kvs).length<=sizeLine:=by
  have h1:=Le kvs []
  rw[zs_]at h1
  rw[sizeLine_eq];lia
 have he:∃q,h'.get? s.heap.objs.size=some q:=let ⟨q,_,_,hq,_⟩:=dd';⟨q,hq⟩
 exact ON I2 (by rw[e];exact True.intro) hs he (DP_ hz hd (rk.merge .nil) dd')
end L2
namespace L2
open PySem PySem.Spec PyProof.Rows
noncomputable def clOf (env:Env):List (Str×NameKind)->List (Str×Addr)->List (Str×Addr)
 |[],acc=>acc
 | (n,k)::r,acc=>if (k == .free)=true then clOf env r ((n,(env.cells.lookup n).getD 0)::acc) else clOf env r acc
theorem Mp   (h:∀p∈scope.names,p.2=.free->∃c,env.cells.lookup p.1=some c):closureFor scope env=pure (clOf env scope.names []):=by
 have go:∀(l:List (Str×NameKind)) (acc:List (Str×Addr)),(∀p∈l,p.2=.free->∃c,env.cells.lookup p.1=some c) ->
   (forIn l acc fun (x:Str×NameKind) (cs:List (Str×Addr))=>(if (x.2 == .free)=true then do let c <- cellOf env x.1;pure (ForInStep.yield ((x.1,c)::cs)) else pure (ForInStep.yield cs):Sem (ForInStep (List (Str×Addr)))))=(pure (clOf env l acc):Sem (List (Str×Addr))):=by
  intro l
  induction l with
  |nil=>intro acc _;rfl
  |cons p r ih=>
   intro acc hl
   obtain⟨n,k⟩:=p
   rw[List.forIn_cons]
   by_cases hk:(k == .free)=true
   ·obtain⟨c,hc⟩:=hl (n,k) jC_ (by simpa using hk)
    have e1:cellOf env n=pure c:=by unfold cellOf;rw[hc]
    have ih':=ih ((n,c)::acc) fun q hq=>hl q (jt_ _ hq)
    show ((if (k == .free)=true then do let c <- cellOf env n;pure (ForInStep.yield ((n,c)::acc)) else pure (ForInStep.yield acc):Sem _) >>= _)=_
    rw[if_pos hk,e1]
    show (forIn r ((n,c)::acc) _:Sem _)=_
    rw[clOf,if_pos hk,hc]
    exact ih'
   ·have ih':=ih acc fun q hq=>hl q (jt_ _ hq)
    show ((if (k == .free)=true then do let c <- cellOf env n;pure (ForInStep.yield ((n,c)::acc)) else pure (ForInStep.yield acc):Sem _) >>= _)=_
    rw[if_neg hk]
    show (forIn r acc _:Sem _)=_
    rw[clOf,if_neg hk]
    exact ih'
 have e:=go scope.names [] h
 unfold closureFor
 show (forIn scope.names [] _ >>= fun cs=>pure cs:Sem _)=_
 have e2:(forIn scope.names [] (fun (x:Str×NameKind) (r:List (Str×Addr))=>(match x with
   | (name,kind)=>if (kind == .free)=true then do let c <- cellOf env name;pure (ForInStep.yield ((name,c)::r)) else do pure PUnit.unit;pure (ForInStep.yield r):Sem (ForInStep (List (Str×Addr))))))=(pure (clOf env scope.names []):Sem (List (Str×Addr))):=e
 exact qY_ (fun z=>z >>= fun cs=>pure cs) e2
theorem Oz {env:Env}:∀(l:List (Str×NameKind)) (acc:List (Str×Addr)),(∀p∈l,p.2=.free->∃c,env.cells.lookup p.1=some c)->(∀q∈acc,env.cells.lookup q.1=some q.2)->∀q∈clOf env l acc,env.cells.lookup q.1=some q.2
 |[],_,_,ha,q,hq=>ha q hq
 | (n,k)::r,acc,hl,ha,q,hq=>by
  unfold clOf at hq
  by_cases hk:(k == .free)=true
  ·rw[if_pos hk]at hq
   obtain⟨c,hc⟩:=hl (n,k) jC_ (by simpa using hk)
   refine Oz r _ (fun p hp=>hl p (jt_ _ hp)) (fun p hp=>?_) q hq
   rcases jL_.mp hp with rfl|hp
   ·show env.cells.lookup n=some ((env.cells.lookup n).getD 0)
    rw[hc];rfl
   ·exact ha p hp
  ·rw[if_neg hk]at hq
   exact Oz r _ (fun p hp=>hl p (jt_ _ hp)) ha q hq
theorem J4 {env:Env}:∀(l:List (Str×NameKind)) (acc:List (Str×Addr)) (x:Str),((x,NameKind.free)∈l \/ ∃c,(x,c)∈acc)->∃c,(x,c)∈clOf env l acc
 |[],_,_,h=>by
  rcases h with h|h
  ·cases h
  ·exact h
 | (n,k)::r,acc,x,h=>by
  unfold clOf
  by_cases hk:(k == .free)=true
  ·rw[if_pos hk]
   refine J4 r _ x ?_
   rcases h with h|⟨c,h⟩
   ·rcases jL_.mp h with h|h
    ·cases h
     exact .inr ⟨_,jC_⟩
    ·exact .inl h
   ·exact .inr ⟨c,jt_ _ h⟩
  ·rw[if_neg hk]
   refine J4 r _ x ?_
   rcases h with h|h
   ·rcases jL_.mp h with h|h
    ·cases h
     exact absurd rfl hk
    ·exact .inl h
   ·exact .inr h
theorem Cj {β:Type}:∀{l:List (Str×β)} {x:Str} {c:β},(x,c)∈l->∃c',l.lookup x=some c'
 |[],_,_,h=>by cases h
 | (n,d)::r,x,c,h=>by
  by_cases hx:(x==n)=true
  ·exact⟨d,by rw[j0_,hx]⟩
  ·rcases jL_.mp h with h|h
   ·cases h;exact absurd (beq_self_eq_true _) hx
   ·obtain⟨c',e⟩:=Cj h
    exact⟨c',by rw[j0_];simp only[Bool.not_eq_true]at hx;rw[hx];exact e⟩
noncomputable def relF (env:Env):Str×NameKind->Str×NameKind:=fun (n,k)=>if (k==NameKind.free&&env.scope.kind == .function&&env.kindOf n==some .cell) then (n,NameKind.cell) else (n,k)
theorem OA    (h:(k==NameKind.free&&env.scope.kind == .function&&env.kindOf n==some .cell)=true):relF env (n,k)=(n,.cell):=if_pos h
theorem Sz    (h:¬ (k==NameKind.free&&env.scope.kind == .function&&env.kindOf n==some .cell)=true):relF env (n,k)=(n,k):=if_neg h
theorem Ja {env:Env}:∀{names:List (Str×NameKind)} {x:Str} {k:NameKind},(∀y∈names,y.2 ≠ .cell) ->
  (names.map (relF env)).lookup x=some k->(k=.cell\/k=.free)->(x,NameKind.free)∈names
 |[],_,_,_,h,_=>by simp at h
 | (n,k')::r,x,k,hc,h,hk=>by
  have ih := @Ja env r x k (fun y hy=>hc y (jt_ _ hy))
  rw[j4_]at h
  by_cases hb:(k'==NameKind.free&&env.scope.kind == .function&&env.kindOf n==some .cell)=true
  ·rw[OA hb,j0_]at h
   cases hx:x==n with
   |true=>
    have e:x=n:=by simpa using hx
    subst e
    have e2:k'=.free:=by
     simp only[qh_]at hb
     simpa using hb.1.1
    subst e2
    exact jC_
   |false=>
    rw[hx]at h
    exact jt_ _ (ih h hk)
  ·rw[Sz hb,j0_]at h
   cases hx:x==n with
   |true=>
    rw[hx]at h
    have e:x=n:=by simpa using hx
    subst e
    have e2:k'=k:=jB_ h
    subst e2
    rcases hk with rfl|rfl
    ·exact absurd rfl (hc _ jC_)
    ·exact jC_
   |false=>
    rw[hx]at h
    exact jt_ _ (ih h hk)
theorem Jb {env:Env}:∀{names:List (Str×NameKind)} {x:Str},names.lookup x=some .free ->
  ∃k,(k=NameKind.cell\/k=NameKind.free)/\(names.map (relF env)).lookup x=some k
 |[],_,h=>by simp at h
 | (n,k')::r,x,h=>by
  have ih := @Jb env r x
  rw[j0_]at h
  rw[j4_]
  cases hx:x==n with
  |true=>
   rw[hx]at h
   have e2:k'=.free:=jB_ h
   subst e2
   by_cases hb:((NameKind.free:NameKind)==NameKind.free&&env.scope.kind == .function&&env.kindOf n==some .cell)=true
   ·exact⟨.cell,.inl rfl,by rw[OA hb,j0_,hx]⟩
   ·exact⟨.free,.inr rfl,by rw[Sz hb,j0_,hx]⟩
  |false=>
   rw[hx]at h
   obtain⟨k,hk,e⟩:=ih h
   refine⟨k,hk,?_⟩
   by_cases hb:(k'==NameKind.free&&env.scope.kind == .function&&env.kindOf n==some .cell)=true
   ·rw[OA hb,j0_,hx];exact e
   ·rw[Sz hb,j0_,hx];exact e
end L2
namespace L2
open PySem PySem.Spec PyProof.Rows
section
variable {prog:Program} {w:World} {A:Around} {R:Result->Shared->Prop} {s:Shared}
noncomputable abbrev cpW (prog:Program)(w:World)(A:Around)(R:Result->Shared->Prop)(env:Env){α:Type}(m:Sem α)(Q:α->Shared->Prop):Shared->Prop:=wpAny (model prog w) A m Q (notedBy (model prog w) A env fun e t=>R (.error e) t)
theorem Nz {elt target iter:Expr}    {it acc:Value}  (I:Nat->Shared->Prop)
  (turn:∀n s,I n s->cpW prog w A R env (pyNext it) (fun r s=>match r with
   |none=>R (.ok .next) s
   |some v=>cpW prog w A R env (letOwnedTupleGo target it v) (fun _=>cpW prog w A R env (assign target env v) fun _=>cpW prog w A R env (forIn ifs true fun c r=>if r=true then do let ok <- isTrue c env (eval c env);pure (ForInStep.yield ok) else pure (ForInStep.yield r)) fun ok s=>
     if ok=true then cpW prog w A R env (eval elt env) (fun x=>cpW prog w A R env (call (.builtin "list.append") [acc,x]) fun _ t=>∃m,m<n/\I m t) s else ∃m,m<n/\I m s) s) s)
  (n:Nat) (h:I n s):codeAny (model prog w) A (.compLoop (.ListComp elt [⟨target,iter,ifs,0⟩] scope pos) 0 it acc env) R s:=by
 have mono:∀{α β:Type} {m:Sem α} {f:α->Sem β} {Q:α->Shared->Prop} {Q':β->Shared->Prop} {s:Shared},cpW prog w A R env m Q s->(∀a t,Q a t->cpW prog w A R env (f a) Q' t)->cpW prog w A R env (m >>= f) Q' s:=fun h k=>je_ (qL_ h k fun _ _ e=>e)
 refine codeAny_loop rfl I (fun n s hI=>wpAny_noted ?_) n h
 rw[compTurn_list]
 refine je_ (wpAny_standAt (mono (turn n s hI) fun r s1 h1=>?_))
 cases r with
 |none=>exact js_ h1
 |some v=>
  refine mono h1 fun _ _ h2=>mono h2 fun _ _ h3=>mono h3 fun ok s4 h4=>?_
  cases ok with
  |false=>exact js_ ⟨rfl,h4⟩
  |true=>exact je_ (mono h4 fun _ _ h5=>mono h5 fun _ _ h6=>js_ (js_ ⟨rfl,h6⟩))
end
noncomputable abbrev Cx.blk (X:Cx)(N:List Str)(sc:Scope)(C:Addr)(s₀:Shared)(H₀:Hp)(ex:List Addr):Cx:=
 {X with N:=N,env:=compEnvC sc (clOf X.env sc.names []) C X.env,outer:=X.stack,s₀:=s₀,H₀:=H₀,ex:=ex,fn:=fun _=>false,pn:=[],xe:=fun _ _=>False}
structure BlkSc (X:Cx)(sc:Scope):Prop where
 kind:sc.kind=.function
 nocell:∀y∈sc.names,y.2 ≠ .cell
 loc:∀y∈sc.names,y.2=.local->sc.names.lookup y.1=some .local
 free:∀y∈sc.names,y.2=.free->X.env.kindOf y.1=some .cell\/X.env.kindOf y.1=some .free
noncomputable abbrev Caps:=List (Str×Option Nat)
noncomputable def Caps.names (c:Caps):List Str:=c.map (·.1)
noncomputable def Caps.st (c:Caps)(σ:St):St:=c.map fun p=>p.2.bind fun j=>(σ[j]?).join
noncomputable def Gw (N:List Str)(sc:Scope):Caps->Prop
 |[]=>True
 | (_,none)::r=>Gw N sc r
 | (x,some j)::r=>(N[j]?=some x/\sc.names.lookup x=some .free)/\Gw N sc r
theorem Gw.get {N:List Str}{sc:Scope}:∀{c:Caps} {i:Nat} {x:Str} {j:Nat},Gw N sc c->c[i]?=some (x,some j)->N[j]?=some x/\sc.names.lookup x=some .free
 |[],_,_,_,_,h=>by simp at h
 | (y,none)::r,0,x,j,_,h=>by simp at h
 | (y,none)::r,i+1,x,j,ok,h=>Gw.get (c:=r) (i:=i) ok (by simpa using h)
 | (y,some k)::r,0,x,j,ok,h=>by
  simp only[xR_,Option.some.injEq,Prod.mk.injEq]at h
  obtain⟨rfl,rfl⟩:=h
  exact ok.1
 | (y,some k)::r,i+1,x,j,ok,h=>Gw.get (c:=r) (i:=i) ok.2 (by simpa using h)
section
variable {X:Cx} {pins:α7} {σ:St} {H:Hp} {s:Shared} {sc:Scope} {fp:List Addr}
theorem OP (I:Inv X pins σ H s)(S:BlkSc X sc):∀p∈sc.names,p.2=.free->∃c,X.env.cells.lookup p.1=some c:=fun p hp e=>I.ok.has p.1 (S.free p hp e)
theorem Ey (I:Inv X pins σ H s)(S:BlkSc X sc)   (h:(clOf X.env sc.names []).lookup x=some c):X.env.cells.lookup x=some c:=
 Oz sc.names [] (OP I S) (fun q hq=>by cases hq) (x,c) (qd_ h)
theorem GM_ {N:List Str}{C:Addr}(I:Inv X pins σ H s)(S:BlkSc X sc)(hC:s.heap.objs.size<=C)(hf:∀b∈fp,FpOk X pins H b)(ho:∀b∈fp,∃o,s.heap.get? b=some o):(X.blk N sc C s H fp).Ok where
 mod:=I.ok.mod
 kind:=S.kind
 glob:=I.ok.glob
 blt:=I.ok.blt
 above:=hC
 inj:=fun x y c h1 h2=>I.ok.inj x y c (Ey I S h1) (Ey I S h2)
 has:=fun x hx=>by
  have hx':(x,NameKind.free)∈sc.names:=by
   rcases hx with hx|hx
   ·exact Ja (env:=X.env) S.nocell hx (.inl rfl)
   ·exact Ja (env:=X.env) S.nocell hx (.inr rfl)
  obtain⟨c,hc⟩:=J4 (env:=X.env) sc.names [] x (.inl hx')
  exact Cj hc
 cab:=fun x c h=>absurd (show false=true from h) jo_
 hd:=I.ok.hd
 frames:=I.ok.frames
 stk:=.inl rfl
 exf:=fun b hb=>by
  obtain⟨o,ho⟩:=ho b hb
  refine⟨jG_ (jw_ (jp_ ho) hC),fun x c h=>(hf b hb).2.2.2.2.1 x c (Ey I S h)⟩
 bs:=I.bs
 bsz:=jV_ I.ok.bsz I.sz
 noex:=fun b o e hb=>by
  rcases (hf b hb).2.2.2.1 with z|z
  ·exact I.ok.noex b o e z
  ·exact absurd (jw_ (jp_ (I.ok.bs b o e).1) z) (jW_ _)
 exfs:=fun b hb z=>by
  rcases jL_.mp (I.stkSub b z) with e|e
  ·exact (hf b hb).2.1 e
  ·exact (hf b hb).2.2.1 e
 funs:=I.stack
 frf:=I.stkFree
theorem AS_ {c:Caps}{C:Addr}{s4:Shared}{m:Str->α5}(I:Inv X pins σ H s)(S:BlkSc X sc)(hc:Gw X.N sc c)(hC:s.heap.objs.size<=C)(hf:∀b∈fp,FpOk X pins H b)(ho:∀b∈fp,∃o,s.heap.get? b=some o)
  (hos:s4.os=s.os) (hb:s4.gens=s.gens) (hk:∀b o,s.heap.get? b=some o->s4.heap.get? b=some o) (hn:s4.heap.Ns C m):Inv (X.blk c.names sc C s H fp) [] (c.st σ) H s4 where
 ok:=GM_ I S hC hf ho
 os:=hos
 bare:=by rw[hb];exact I.bare
 base:=Un.kept hk
 loc:=by
  refine⟨m,hn,fun i x v h1 h2 hv=>?_⟩
  have h1':(c.map (·.1))[i]?=some x:=h1
  have h2':(c.map fun p=>p.2.bind fun j=>(σ[j]?).join)[i]?=some (some v):=h2
  rw[jh_]at h1' h2'
  cases e:c[i]? with
  |none=>rw[e]at h1';cases h1'
  |some p=>
   obtain⟨y,oj⟩:=p
   rw[e]at h1' h2'
   have e1:y=x:=jB_ h1'
   subst e1
   have e2:(oj.bind fun j=>(σ[j]?).join)=some v:=jB_ h2'
   cases oj with
   |none=>cases e2
   |some j=>
    have e3:(σ[j]?).join=some v:=e2
    have e4:σ[j]?=some (some v):=by
     cases q:σ[j]? with
     |none=>rw[q]at e3;cases e3
     |some z=>rw[q]at e3;exact qY_ some e3
    obtain⟨k1,k2⟩:=Gw.get hc e
    have k3:X.env.kindOf y=some .cell\/X.env.kindOf y=some .free:=S.free (y,.free) (qd_ k2) rfl
    have vis:Vis X.env.scope y:=by
     rcases k3 with k|k
     ·exact .inr (.inl k)
     ·exact .inr (.inr k)
    obtain⟨mX,hnX,hl⟩:=I.loc
    obtain⟨u,r,l⟩:=hl j y v k1 e4 vis
    refine⟨u,r,?_⟩
    rcases l with ⟨k,_⟩|⟨_,ca,hca,z⟩
    ·rcases k3 with k' | k'<;>(rw[k]at k';cases k')
    ·obtain⟨kd,hkd,ek⟩:=Jb (env:=X.env) k2
     have hk2:(compEnvC sc (clOf X.env sc.names []) C X.env).kindOf y=some kd:=ek
     obtain⟨c',hc'⟩:=J4 (env:=X.env) sc.names [] y (.inl (qd_ k2))
     obtain⟨c2,hc2⟩:=Cj hc'
     have e5:=Ey I S hc2
     rw[hca]at e5
     have e6:ca=c2:=jB_ e5
     subst e6
     refine .inr ⟨?_,ca,hc2,?_⟩
     ·rcases hkd with rfl|rfl
      ·exact .inl hk2
      ·exact .inr hk2
     ·obtain⟨oc,hoc,hd⟩:=z
      exact⟨oc,hk _ _ hoc,hd⟩
 cell:=fun x ca h=>by
  obtain⟨v,oc,hoc,hd⟩:=I.cell x ca (Ey I S h)
  exact⟨v,oc,hk _ _ hoc,hd⟩
 free:=I.hok.fresh hC
 freeC:=fun x ca h=>I.freeC x ca (Ey I S h)
 pin:=fun p hp=>absurd (show p∈([]:α7) from hp) (by simp)
 hok:=I.hok.kept hk
 len:=by show (c.map _).length=(c.map _).length;rw[jb_,jb_]
theorem HOk.track       (x:HOk P w H h)(hn:H a=none)(new:Bz P w (upd H a o) h a o):HOk P w (upd H a o) h:=fun b u e=>by
 by_cases hb:b=a
 ·subst hb;rw[Ac]at e;cases e;exact new
 ·rw[AD hb]at e
  exact (x b u e).stay (fun c v _ q=>q) (fun c q=>by rw[AD (Bu q hn)];exact q) fun c xs q=>by rw[AD (Bu q hn)];exact q
theorem Un.track {fs ex:List Addr}{H H':Hp}{h h':Heap}{a:Addr}{o:HO}(u:Un fs ex H H' h h')(ha:h.objs.size<=a)(hn:H' a=none):Un fs ex H (upd H' a o) h h' where
 keep:=u.keep
 slot:=u.slot
 free:=fun b ob q n hx=>by rw[AD (jG_ (jw_ (jp_ q) ha))];exact u.free b ob q n hx
 there:=u.there
 tups:=fun b xs q=>by rw[AD (Bu (u.tups b xs q) hn)];exact u.tups b xs q
 frzs:=fun b ob xs q=>by rw[AD (Bu (u.frzs b ob xs q) hn)];exact u.frzs b ob xs q
 tbls:=fun b ps q=>by
  obtain⟨more,e⟩:=u.tbls b ps q
  exact⟨more,by rw[AD (Bu e hn)];exact e⟩
theorem Fq_ {c:Caps}{C D:Addr}{s':Shared}{σ':St}{H':Hp}{o:HO}(I:Inv X pins σ H s)(J:Inv (X.blk c.names sc C s H fp) [] σ' H' s')(hf:∀b∈fp,FpOk X pins H b)(hD:s.heap.objs.size<=D)(hn:H' D=none)
  (new:Bz X.prog X.w (upd H' D o) s'.heap D o):Inv X pins σ (upd H' D o) s':=by
 have u:Un (frs X.stack) fp H H' s.heap s'.heap:=J.base
 exact I.call' J.os (u.track hD hn) (J.hok.track hn new) J.bare fun b hb=>⟨(hf b hb).2.2.2.1,(hf b hb).2.1,(hf b hb).2.2.2.2.1,(hf b hb).2.2.2.2.2⟩
end
noncomputable def PF (X:Cx)(ifs:List Expr)(t:TT):Prop:=
 ∀(pins:α7) (s:Shared) (σ:St) (H:Hp) (Q:Bool->Hp->Prop),Inv X pins σ H s->t σ H Q ->
  wpAny (model X.prog X.w) X.A (forIn ifs true fun c r=>if r=true then do let ok <- isTrue c X.env (eval c X.env);pure (ForInStep.yield ok) else pure (ForInStep.yield r)) (TP X pins σ Q) X.xe s
noncomputable def OQ:TT:=fun _ H Q=>Q true H
theorem DI  : PF X [] OQ:=fun _ _ _ H _ I h=>wpAny_tests_nil ⟨H,I,h⟩
noncomputable def CD_ (wi:TI)(cp:Caps)(g:TG)(tc:TT)(te:TE):TE:=fun σ H Q=>wi σ H fun J H1=>∃W:Nat->Nat->List V->St->Hp->Prop,(∃m,W 0 m [] (cp.st σ) H1)/\∀i m ys σ' H',W i m ys σ' H' ->
 ys.length<sizeLine/\((J.stop i H'/\∀D,H' D=none->Q (.ref D) (upd H' D (.lst ys)))\/(J.go i H'/\∃N:List V->St->Hp->Prop,(∀zs σ2 H2,N zs σ2 H2->∃m',m'<m/\W (i+1) m' zs σ2 H2)/\∀x H2,J.yld i H' x H2->g x σ' H2 fun σ2 H3=>tc σ2 H3 fun b H4=>
  if b=true then te σ2 H4 fun v H5=>N (ys++[v]) σ2 H5 else N ys σ2 H4))
section
variable {X:Cx} {tg iter elt:Expr} {ifs:List Expr} {sc:Scope} {pos:Pos} {wi:TI} {cp:Caps} {g:TG} {tc:TT} {te:TE}
theorem VM (hc:X.calm=true)(S:BlkSc X sc)(hcp:Gw X.N sc cp)
  (hg:∀C s₀ H₀ ex,PG (X.blk cp.names sc C s₀ H₀ ex) tg g) (hf:∀C s₀ H₀ ex,PF (X.blk cp.names sc C s₀ H₀ ex) ifs tc) (he:∀C s₀ H₀ ex,PE (X.blk cp.names sc C s₀ H₀ ex) elt te)
  {pins:α7} {σ:St} {H:Hp} {s:Shared} {J:It} {it:Addr} {fp:List Addr} {tn:Nat->Heap->Prop} {Q:VK} {RR:Value->Addr->Result->Shared->Prop} {E:Value->Shared->Prop}
  (I:Inv X pins σ H s) (T:Turn X.prog X.w X.K tg J fp it tn) (st:tn 0 s.heap) (fpo:∀b∈fp,FpOk X pins H b)
  (hw:∃W:Nat->Nat->List V->St->Hp->Prop,(∃m,W 0 m [] (cp.st σ) H)/\∀i m ys σ' H',W i m ys σ' H' ->
   ys.length<sizeLine/\((J.stop i H'/\∀D,H' D=none->Q (.ref D) (upd H' D (.lst ys)))\/(J.go i H'/\∃N:List V->St->Hp->Prop,(∀zs σ2 H2,N zs σ2 H2->∃m',m'<m/\W (i+1) m' zs σ2 H2)/\∀x H2,J.yld i H' x H2->g x σ' H2 fun σ2 H3=>tc σ2 H3 fun b H4=>
    if b=true then te σ2 H4 fun v H5=>N (ys++[v]) σ2 H5 else N ys σ2 H4)))
  (hR:∀D C s' H' (m:Str->α5),Inv X pins σ H' s'->Q (.ref D) H'->s'.heap.Ns C m->H' C=none->C≠X.env.locals->X.s₀.heap.objs.size<=C->(∀x c,X.env.cells.lookup x=some c->c≠C)->(∀p∈X.pn++pins,p.1≠C)->RR (.ref D) C (.ok .next) s'):
  wpAny (model X.prog X.w) X.A (newList []) (fun acc s₃=>wpAny (model X.prog X.w) X.A (newFunctionEnv sc X.env.globals (clOf X.env sc.names []) [] X.env.qual none .none (some X.env)) (fun cenv s₄=>
   codeAny (model X.prog X.w) X.A (.compStart (.ListComp elt [⟨tg,iter,ifs,0⟩] sc pos) 0 (.ref it) acc {cenv with scope:=relabel sc X.env}) (RR acc cenv.locals) s₄) E s₃) E s:=by
 obtain⟨W,⟨m0,w0⟩,turn⟩:=hw
 refine qq_ (wpAny_newFunctionEnv S.nocell (by intro y hy;simp at hy) (fun h₁ hns₁ hsb₁=>?_) S.kind)
 dsimp only at hns₁ hsb₁ ⊢
 generalize hH2:s.heap.push {cls:=.type "list",dict:=none,data:=.seq ([]:List Value).toArray}=H2 at hns₁ hsb₁ ⊢
 have hC:H2.objs.size=s.heap.objs.size+1:=by rw[<-hH2,qH_]
 have hDC:s.heap.objs.size≠H2.objs.size:=by rw[hC];exact jG_ (Nat.lt_succ_self _)
 have hCle:s.heap.objs.size<=H2.objs.size:=by rw[hC];exact Nat.le_succ _
 have below:∀b,b<s.heap.objs.size->b≠H2.objs.size:=fun b hb=>by rw[hC];exact jG_ (qR_ hb)
 have old:∀b o,s.heap.get? b=some o->h₁.get? b=some o:=fun b o e=>hsb₁.extBut b o (below b (jp_ e)) (jm_ _ (hH2 ▸ jm_ _ e))
 have hacc:h₁.get? s.heap.objs.size=some {cls:=.type "list",data:=.seq ([]:List Value).toArray 0}:=hsb₁.extBut _ _ hDC (jm_ _ (hH2 ▸ jy_ _ rfl))
 have hst₁:tn 0 h₁:=T.keep 0 _ _ st fun b _ o e=>old b o e
 have hobj:∀b∈fp,∃o,s.heap.get? b=some o:=fun b hb=>let ⟨o,e,_⟩:=T.obj 0 _ st b hb;⟨o,e⟩
 have J0:Inv (X.blk cp.names sc H2.objs.size s H fp) [] (cp.st σ) H {s with heap:=h₁,toks:=s.toks+([]:List (Str×Value)).length}:=AS_ I S hcp hCle fpo hobj rfl rfl old hns₁
 have nfs:∀b,s.heap.objs.size<=b->b∉frs X.stack:=fun b hb z=>by
  rcases jL_.mp (I.stkSub b z) with e|e
  ·exact absurd (jw_ I.lt (by rw[<-e];exact hb)) (jW_ _)
  ·exact I.nofs hb e
 have ncell:∀b,s.heap.objs.size<=b->∀x c,X.env.cells.lookup x=some c->c≠b:=fun b hb x c e z=>by
  obtain⟨v,q⟩:=I.cell x c e
  exact absurd (jw_ q.lt (by rw[z];exact hb)) (jW_ _)
 have fpb:∀{pins':α7} {H':Hp},(∀b∈fp,H' b=none)->(∀p∈pins',p.1∉fp)->∀b∈fp,FpOk (X.blk cp.names sc H2.objs.size s H fp) pins' H' b:=fun {pins' H'} hn hp b hb=>by
  obtain⟨o,e⟩:=hobj b hb
  refine⟨hn b hb,below b (jp_ e),fun z=>?_,.inl hb,fun x c h=>(fpo b hb).2.2.2.2.1 x c (Ey I S h),fun p hp' z=>?_⟩
  ·rcases jL_.mp (I.stkSub b z) with e|e
   ·exact (fpo b hb).2.1 e
   ·exact (fpo b hb).2.2.1 e
  ·have hp'':p∈pins':=by simpa using hp'
   exact hp p hp'' (by rw[z];exact hb)
 have loop:∀s₃:Shared,s₃={s with heap:=h₁,toks:=s.toks+([]:List (Str×Value)).length} ->
   codeAny (model X.prog X.w) X.A (.compLoop (.ListComp elt [⟨tg,iter,ifs,0⟩] sc pos) 0 (.ref it) (.ref s.heap.objs.size) (compEnvC sc (clOf X.env sc.names []) H2.objs.size X.env))
    (RR (.ref s.heap.objs.size) H2.objs.size) s₃:=by
  rintro s₃ rfl
  refine Nz (fun n s'=>∃i σ' H' ys its k,Inv (X.blk cp.names sc H2.objs.size s H fp) [] σ' H' s'/\tn i s'.heap/\(∀b∈fp,H' b=none)/\H' s.heap.objs.size=none /\
   s'.heap.get? s.heap.objs.size=some {cls:=.type "list",data:=.seq its.toArray k}/\Vals ys its/\W i n ys σ' H') ?_ m0
   ⟨0,_,H,[],[],0,J0,hst₁,fun b hb=>(fpo b hb).1,I.hok.fresh (jf_ _),hacc,.nil,w0⟩
  rintro n s3 ⟨i,σ3,H3,ys,its,k,I3,st3,fr3,hD3,e3,rv,w3⟩
  obtain⟨hz,tr⟩:=turn i n ys σ3 H3 w3
  have hlen:=rv.length
  -- the accumulator stands still while anything else runs
  have dpin:∀p ∈ [(s.heap.objs.size,({cls:=.type "list",data:=.seq its.toArray k}:Obj))],p.1∉fp:=fun p hp z=>by
   have e:p=_:=jg_.mp hp
   subst e
   obtain⟨o,e⟩:=hobj _ z
   exact absurd (jp_ e) (jW_ _)
  have I3':Inv (X.blk cp.names sc H2.objs.size s H fp) [(s.heap.objs.size,({cls:=.type "list",data:=.seq its.toArray k}:Obj))] σ3 H3 s3:=I3.pins_of fun p hp=>by
   have e:p=_:=jg_.mp hp
   subst e
   exact⟨e3,hD3,hDC,nfs _ (jf_ _),fun v z=>by cases z⟩
  have stat:∀b∈fp,FpOk (X.blk cp.names sc H2.objs.size s H fp) [(s.heap.objs.size,({cls:=.type "list",data:=.seq its.toArray k}:Obj))] H3 b:=fpb fr3 dpin
  rcases tr with ⟨stop,qn⟩|⟨go,N,hN,step⟩
  ·refine thn (T.done (X.blk cp.names sc H2.objs.size s H fp) rfl rfl rfl hc i _ s3 σ3 H3 _ I3' stat st3 stop) fun r s4 ⟨hr,I4⟩=>?_
   subst hr
   obtain⟨e4,n4,_⟩:=I4.pin (s.heap.objs.size,({cls:=.type "list",data:=.seq its.toArray k}:Obj)) (by simp)
   have new:Bz X.prog X.w (upd H3 s.heap.objs.size (.lst ys)) s4.heap s.heap.objs.size (.lst ys):=⟨x9_ hz,its,k,rv,e4⟩
   obtain⟨mC,hnC,_⟩:=I4.loc
   have I4':Inv (X.blk cp.names sc H2.objs.size s H fp) [] σ3 H3 s4:=I4.pins_of fun p hp=>by cases hp
   have I5:=Fq_ I I4' fpo (jf_ _) n4 new
   refine hR _ _ s4 _ mC I5 (qn _ n4) hnC ?_ (xh_ (jw_ I.lt hCle)) (jV_ I.sz hCle) (ncell _ hCle) fun p hp z=>?_
   ·rw[AD (qT_ hDC)];exact I4.free
   ·exact absurd (jw_ (jp_ (I.pin p hp).1) (by rw[z];exact hCle)) (jW_ _)
  ·refine thn (T.item (X.blk cp.names sc H2.objs.size s H fp) rfl rfl rfl hc i _ s3 σ3 H3 _ I3' stat st3 go) fun r s4 ⟨u,hr,h4⟩=>?_
   subst hr
   refine thn h4 fun _ s5 ⟨x,H5,I5,r5,y5,st5,fr5⟩=>?_
   have I5':=I5.pinned (fpb fr5 dpin) (T.obj _ _ st5)
   have fin:∀{σ7:St} {H7:Hp} {s7:Shared},Inv (X.blk cp.names sc H2.objs.size s H fp) ([(s.heap.objs.size,({cls:=.type "list",data:=.seq its.toArray k}:Obj))]++RM fp s5.heap) σ7 H7 s7 ->
     s7.heap.get? s.heap.objs.size=some {cls:=.type "list",data:=.seq its.toArray k}/\H7 s.heap.objs.size=none/\(∀b∈fp,H7 b=none)/\∀b∈fp,∀o,s5.heap.get? b=some o->s7.heap.get? b=some o:=fun {σ7 H7 s7} I7=>by
    obtain⟨e7,n7,_⟩:=I7.pin (s.heap.objs.size,({cls:=.type "list",data:=.seq its.toArray k}:Obj)) (by simp)
    refine⟨e7,n7,fun b hb=>?_,fun b hb o e=>?_⟩
    ·obtain⟨o,e,_⟩:=T.obj _ _ st5 b hb
     exact (I7.pin (b,o) (jP_ _ (jP_ _ (Gp hb e)))).2.1
    ·exact (I7.pin (b,o) (jP_ _ (jP_ _ (Gp hb e)))).1
   refine qL_ (hg _ _ _ _ _ s5 σ3 H5 x u _ I5' r5 (step x H5 y5)) (fun _ s6 ⟨σ6,H6,I6,q6⟩=>?_) fun _ _ z=>False.elim z
   refine qL_ (hf _ _ _ _ _ s6 σ6 H6 _ I6 q6) (fun ok s7 ⟨H7,I7,q7⟩=>?_) fun _ _ z=>False.elim z
   cases ok with
   |false=>
    rw[if_neg jo_]
    rw[if_neg jo_]at q7
    obtain⟨m',hm,w7⟩:=hN _ _ _ q7
    obtain⟨e7,n7,fr7,k7⟩:=fin I7
    exact⟨m',hm,i+1,σ6,H7,ys,its,k,I7.pins_of (fun p hp=>by cases hp),T.keep _ _ _ st5 k7,fr7,n7,e7,rv,w7⟩
   |true=>
    rw[if_pos rfl]
    rw[if_pos rfl]at q7
    refine qL_ (he _ _ _ _ _ s7 σ6 H7 _ I7 q7) (fun v s8 ⟨y,H8,I8,r8,q8⟩=>?_) fun _ _ z=>False.elim z
    obtain⟨m',hm,w8⟩:=hN _ _ _ q8
    obtain⟨e8,n8,fr8,k8⟩:=fin I8
    refine xK_ F.slot_list_append ⟨_,e8,rfl⟩ F.entry_list_append (zk_ _ _) (zB_ s.heap.objs.size its.toArray k v (by rw[jl_];lia)) ⟨e8,?_⟩
    obtain⟨k',q⟩:∃k',(s8.heap.update s.heap.objs.size (Obj.mapSeq fun x=>x.push v)).get? s.heap.objs.size=some {cls:=.type "list",data:=.seq (its++[v]).toArray k' }:=⟨_,by
     have q:=PySem.IsL.update e8 fun x=>x.push v
     have e:(its++[v]).toArray=its.toArray.push v:=by simp
     rw[e]
     exact q⟩
    have I8':Inv (X.blk cp.names sc H2.objs.size s H fp) [] σ6 H8 s8:=I8.pins_of fun p hp=>by cases hp
    have I9:Inv (X.blk cp.names sc H2.objs.size s H fp) [] σ6 H8 {s8 with heap:=s8.heap.update s.heap.objs.size (Obj.mapSeq fun x=>x.push v),toks:=s8.toks}:=
     I8'.turned (it:=s.heap.objs.size) (fun b o hb e=>(qu_ _ _ (qT_ hb)).trans e) n8 hDC (.inr (jf_ _)) (fun x c e=>ncell _ (jf_ _) x c (Ey I S e)) (fun p hp=>by cases hp)
    refine⟨m',hm,i+1,σ6,H8,ys++[y],its++[v],k',I9,T.keep (i+1) s5.heap _ st5 (fun b hb o e=>?_),fr8,n8,q,rv.append (.cons r8 .nil),w8⟩
    ·refine (qu_ _ _ ?_).trans (k8 b hb o e)
     intro z
     obtain⟨ob,eb⟩:=hobj b hb
     exact absurd (jp_ eb) (by rw[<-z];exact jW_ _)
 exact codeAny_compStart_list (loop _ rfl) (T.self _ 0 _ _ _ hst₁ (loop _ rfl))
theorem C4 (hc:X.calm=true)(S:BlkSc X sc)(hcp:Gw X.N sc cp)(hi:PI X tg iter wi)
  (hg:∀C s₀ H₀ ex,PG (X.blk cp.names sc C s₀ H₀ ex) tg g) (hf:∀C s₀ H₀ ex,PF (X.blk cp.names sc C s₀ H₀ ex) ifs tc) (he:∀C s₀ H₀ ex,PE (X.blk cp.names sc C s₀ H₀ ex) elt te)
  (hs:∀x,foldedSetIterable iter X.env x=pure x:=by intro _;rfl):PE X (.ListComp elt [⟨tg,iter,ifs,0⟩] sc pos) (CD_ wi cp g tc te):=by
 intro pins s σ H Q I h
 rw[eval_ListComp]
 refine xL_ (use:=none) rfl hs (Mp (OP I S)) S.kind S.loc (thn (hi pins s σ H _ I h) fun xv s₁ h₁=>thn h₁ fun itv s₂ h₂=>?_)
 obtain⟨it,fp,tn,J,H2,e,I2,T,st2,f2,hw⟩:=h₂
 subst e
 refine VM (RR:=fun acc C=>compPost (model X.prog X.w) X.A X.xe none (EP X pins σ Q) acc C) hc S hcp hg hf he I2 T st2 f2 hw ?_
 intro D C s' H' m I' q hn hC hL hz hcl hp
 exact⟨m,hn,fun h' hs'=>⟨.ref D,H',I'.turned (t':=s'.toks) (it:=C) (fun b o hb e=>hs'.extBut b o hb e) hC hL (.inr hz) hcl hp,rfl,q⟩⟩
theorem SA    (hN:X.N.Nodup)(hi:X.N[i]?=some x)(hx:X.env.scope.names.lookup x=some .local)(hc:X.calm=true)(S:BlkSc X sc)(hcp:Gw X.N sc cp)(hit:PI X tg iter wi)
  (hg:∀C s₀ H₀ ex,PG (X.blk cp.names sc C s₀ H₀ ex) tg g) (hf:∀C s₀ H₀ ex,PF (X.blk cp.names sc C s₀ H₀ ex) ifs tc) (he:∀C s₀ H₀ ex,PE (X.blk cp.names sc C s₀ H₀ ex) elt te)
  (hsw:swapsWith (.ListComp elt [⟨tg,iter,ifs,0⟩] sc pos) (some (.Name x px)) spos.line X.env=pure true:=by rfl)
  (hs:∀x,foldedSetIterable iter X.env x=pure x:=by intro _;rfl):PS X (.Assign [.Name x px] (.ListComp elt [⟨tg,iter,ifs,0⟩] sc pos) spos) (tAsg (CD_ wi cp g tc te) (IZ i)):=by
 intro pins s σ H D I h
 rw[exec_Assign_Name_used _ _ _ _ hsw]
 refine je_ (wpAny_standAt (je_ ?_))
 show wpAny _ X.A (do let _ <- comprehension (.ListComp elt [⟨tg,iter,ifs,0⟩] sc pos) sc X.env _ (newList []) false (eval iter X.env) (some (assign (.Name x px) X.env))) _ _ s
 refine je_ (qL_ (xL_ (use:=some (assign (.Name x px) X.env)) (Q:=fun _ s'=>SP X pins D .next s') rfl hs (Mp (OP I S)) S.kind S.loc
  (thn (hit pins s σ H _ I h) fun xv s₁ h₁=>thn h₁ fun itv s₂ h₂=>?_)) (fun _ s' hq=>js_ (js_ hq)) fun _ _ e=>e)
 obtain⟨it,fp,tn,J,H2,e,I2,T,st2,f2,hw⟩:=h₂
 subst e
 refine VM (RR:=fun acc C=>compPost (model X.prog X.w) X.A X.xe (some (assign (.Name x px) X.env)) (fun _ s'=>SP X pins D .next s') acc C) (Q:=fun v H1=>IZ i v σ H1 D.nx) hc S hcp hg hf he I2 T st2 f2 hw ?_
 intro Dl C s' H' m I' q hn hC hL hz hcl hp
 show wpAny _ X.A (assign (.Name x px) X.env (.ref Dl)) _ _ _
 refine wpAny_assign_Name (Vx I' hN hi (.inl hx) (v:=.ref Dl) rfl (fun s'' I'' ⟨a,hsb,ha⟩=>?_) (.inr hx))
 have hne:C≠a:=by
  rcases ha with rfl|ha
  ·exact hL
  ·exact fun z=>hcl _ _ ha z.symm
 refine⟨m,hn.sameBut hsb hne,fun h' hs'=>⟨_,H',I''.turned (t':=s''.toks) (it:=C) (fun b o hb e=>hs'.extBut b o hb e) hC hL (.inr hz) hcl hp,q⟩⟩
end
theorem AT_ {K:α3}{a:Addr}{xs:List V}{g:TG}{tc:TT}{te:TE}{Q:VK}{σ:St}{H:Hp}(Pv:Nat->List V->St->Hp->Prop)(h0:Pv 0 [] σ H)(hz:xs.length<sizeLine)
  (hl:∀i ys σ H,i<=xs.length->Pv i ys σ H->SqL K H a xs/\ys.length<=i)
  (hs:∀i x ys σ H,xs[i]?=some x->Pv i ys σ H->g x σ H fun σ2 H2=>tc σ2 H2 fun b H3=>if b=true then te σ2 H3 fun v H4=>Pv (i+1) (ys++[v]) σ2 H4 else Pv (i+1) ys σ2 H3)
  (hd:∀ys σ H,Pv xs.length ys σ H->∀D,H D=none->Q (.ref D) (upd H D (.lst ys))):
  ∃W:Nat->Nat->List V->St->Hp->Prop,(∃m,W 0 m [] σ H)/\∀i m ys σ' H',W i m ys σ' H' ->
   ys.length<sizeLine/\(((Itl K a).stop i H'/\∀D,H' D=none->Q (.ref D) (upd H' D (.lst ys)))\/((Itl K a).go i H'/\∃N:List V->St->Hp->Prop,(∀zs σ2 H2,N zs σ2 H2->∃m',m'<m/\W (i+1) m' zs σ2 H2)/\∀x H2,(Itl K a).yld i H' x H2->g x σ' H2 fun σ2 H3=>tc σ2 H3 fun b H4=>
    if b=true then te σ2 H4 fun v H5=>N (ys++[v]) σ2 H5 else N ys σ2 H4)):=by
 refine⟨fun i m ys σ H=>m=xs.length-i/\i<=xs.length/\Pv i ys σ H,⟨xs.length,by simp,qt_ _,h0⟩,?_⟩
 rintro i m ys σ H ⟨rfl,hi,p⟩
 obtain⟨q,ly⟩:=hl i ys σ H hi p
 refine⟨by lia,?_⟩
 by_cases hlt:i<xs.length
 ·refine .inr ⟨⟨xs,xs[i],q,by simp[hlt]⟩,Pv (i+1),fun zs σ' H' p'=>⟨xs.length-(i+1),by lia,rfl,hlt,p'⟩,fun x H' y=>?_⟩
  obtain⟨e,y⟩:=y
  subst e
  exact hs i x ys σ _ (y xs q) p
 ·have e:i=xs.length:=by lia
  subst e
  exact .inl ⟨⟨xs,q,jf_ _⟩,hd ys σ H p⟩
theorem CE_ {K:α3}{a:Addr}{xs:List V}{g:TG}{tc:TT}{te:TE}{Q:VK}{σ:St}{H:Hp}(Pv:Nat->List V->St->Hp->Prop)(h0:Pv 0 [] σ H)(hz:xs.length<sizeLine)
  (hl:∀i ys σ H,i<=xs.length->Pv i ys σ H->SqT K H a xs/\ys.length<=i)
  (hs:∀i x ys σ H,xs[i]?=some x->Pv i ys σ H->g x σ H fun σ2 H2=>tc σ2 H2 fun b H3=>if b=true then te σ2 H3 fun v H4=>Pv (i+1) (ys++[v]) σ2 H4 else Pv (i+1) ys σ2 H3)
  (hd:∀ys σ H,Pv xs.length ys σ H->∀D,H D=none->Q (.ref D) (upd H D (.lst ys))):
  ∃W:Nat->Nat->List V->St->Hp->Prop,(∃m,W 0 m [] σ H)/\∀i m ys σ' H',W i m ys σ' H' ->
   ys.length<sizeLine/\(((Itt K a).stop i H'/\∀D,H' D=none->Q (.ref D) (upd H' D (.lst ys)))\/((Itt K a).go i H'/\∃N:List V->St->Hp->Prop,(∀zs σ2 H2,N zs σ2 H2->∃m',m'<m/\W (i+1) m' zs σ2 H2)/\∀x H2,(Itt K a).yld i H' x H2->g x σ' H2 fun σ2 H3=>tc σ2 H3 fun b H4=>
    if b=true then te σ2 H4 fun v H5=>N (ys++[v]) σ2 H5 else N ys σ2 H4)):=by
 refine⟨fun i m ys σ H=>m=xs.length-i/\i<=xs.length/\Pv i ys σ H,⟨xs.length,by simp,qt_ _,h0⟩,?_⟩
 rintro i m ys σ H ⟨rfl,hi,p⟩
 obtain⟨q,ly⟩:=hl i ys σ H hi p
 refine⟨by lia,?_⟩
 by_cases hlt:i<xs.length
 ·refine .inr ⟨⟨xs,xs[i],q,by simp[hlt]⟩,Pv (i+1),fun zs σ' H' p'=>⟨xs.length-(i+1),by lia,rfl,hlt,p'⟩,fun x H' y=>?_⟩
  obtain⟨e,y⟩:=y
  subst e
  exact hs i x ys σ _ (y xs q) p
 ·have e:i=xs.length:=by lia
  subst e
  exact .inl ⟨⟨xs,q,jf_ _⟩,hd ys σ H p⟩
theorem Y4 {lo:Int}{n:Nat}{g:TG}{tc:TT}{te:TE}{Q:VK}{σ:St}{H:Hp}(Pv:Nat->List V->St->Hp->Prop)(h0:Pv 0 [] σ H)(hz:n<sizeLine)
  (hl:∀i ys σ H,i<=n->Pv i ys σ H->ys.length<=i)
  (hs:∀i ys σ H,i<n->Pv i ys σ H->g (.int (lo+i)) σ H fun σ2 H2=>tc σ2 H2 fun b H3=>if b=true then te σ2 H3 fun v H4=>Pv (i+1) (ys++[v]) σ2 H4 else Pv (i+1) ys σ2 H3)
  (hd:∀ys σ H,Pv n ys σ H->∀D,H D=none->Q (.ref D) (upd H D (.lst ys))):
  ∃W:Nat->Nat->List V->St->Hp->Prop,(∃m,W 0 m [] σ H)/\∀i m ys σ' H',W i m ys σ' H' ->
   ys.length<sizeLine/\(((Itr lo n).stop i H'/\∀D,H' D=none->Q (.ref D) (upd H' D (.lst ys)))\/((Itr lo n).go i H'/\∃N:List V->St->Hp->Prop,(∀zs σ2 H2,N zs σ2 H2->∃m',m'<m/\W (i+1) m' zs σ2 H2)/\∀x H2,(Itr lo n).yld i H' x H2->g x σ' H2 fun σ2 H3=>tc σ2 H3 fun b H4=>
    if b=true then te σ2 H4 fun v H5=>N (ys++[v]) σ2 H5 else N ys σ2 H4)):=by
 refine⟨fun i m ys σ H=>m=n-i/\i<=n/\Pv i ys σ H,⟨n,by simp,qt_ _,h0⟩,?_⟩
 rintro i m ys σ H ⟨rfl,hi,p⟩
 have ly:=hl i ys σ H hi p
 refine⟨by lia,?_⟩
 by_cases hlt:i<n
 ·refine .inr ⟨hlt,Pv (i+1),fun zs σ' H' p'=>⟨n-(i+1),by lia,rfl,hlt,p'⟩,fun x H' y=>?_⟩
  obtain⟨e,y⟩:=y
  subst e y
  exact hs i ys σ _ hlt p
 ·have e:i=n:=by lia
  subst e
  exact .inl ⟨jf_ _,hd ys σ H p⟩
end L2
namespace L2
open PySem PySem.Spec PyProof.Rows
section
variable {X:Cx}
theorem SD {bs:List Bool}{its:List Value}(r:Vals (bs.map V.bl) its){i:Nat}{v:Value}(h:its[i]?=some v):∃b,bs[i]?=some b/\v=.bool b:=by
 have hi:i<its.length:=(jd_.mp h).1
 have hl:=r.length
 rw[jb_]at hl
 obtain⟨u,hu,ru⟩:=r.get (i:=i) (x:=V.bl bs[i]) (by rw[jh_];simp[show i<bs.length by lia])
 rw[h]at hu
 cases hu
 exact⟨bs[i],by simp[show i<bs.length by lia],ru⟩
theorem GN_ (bs:List Bool):(List.range bs.length).map (fun i=>bs.getD i false)=bs:=
 qJ_ (by simp) fun i _ h=>by simp[h]
theorem AU_ {bs:List Bool}:(List.range bs.length).all (fun i=>bs.getD i false)=bs.all id:=by
 have e:=qY_ (fun l=>l.all id) (GN_ bs)
 rw[List.all_map]at e;exact e
theorem Xj {bs:List Bool}{its:List Value}{A:Around}{P:Program}{w:World}(r:Vals (bs.map V.bl) its):TruthOf P w A (fun i v=>its.toArray[i]?=some v) (fun i=>bs.getD i false):=by
 intro i v s Q E hv hq
 obtain⟨b,hb,e⟩:=SD r (by simpa using hv)
 subst e
 refine q2_ ?_
 have e:bs.getD i false=b:=by rw[ja_,hb];rfl
 have hq':Q (bs.getD i false) s:=hq
 rw[e]at hq'
 exact hq'
theorem CF_ (hc:X.calm=true):Hi X (.builtin "all") (fun xs H Q=>∃(p:Addr) (bs:List Bool),xs=[.ref p]/\SqL X.K H p (bs.map V.bl)/\Q (.bl (bs.all id)) H):=by
 intro pins s σ H xs us Q I r h
 obtain⟨p,bs,rfl,hq,q⟩:=h
 obtain⟨u,rfl,ru⟩:=vals1 r
 cases ru
 obtain⟨its,rv,pl,hz⟩:=I.list hq
 have hlen:=rv.length
 rw[jb_]at hlen
 have hh:X.A.in1.handled=none:=I.ok.hd hc
 obtain⟨o,ho,_⟩:=id pl.isList
 have hne:p≠s.heap.objs.size:=jG_ (jp_ ho)
 refine call_all_walk (x2_ pl.isList ?_)
 refine⟨s.heap.objs.size,_,_,its.toArray.size,_,_,fun i=>bs.getD i false,rfl,Walks.list hh _ p hne its.toArray,⟨⟨_,jy_ _ rfl,rfl,rfl⟩,pl.isList.at fun o e=>jm_ _ e⟩,Xj rv,fun h' tk hk=>?_⟩
 refine⟨.bl (bs.all id),H,I.kept (t':=tk) fun b o e=>hk b o ?_ (jm_ _ e),?_,q⟩
 ·intro hb
  have e':b=s.heap.objs.size:=by simpa using hb
  exact absurd (jp_ e) (by rw[e'];exact jW_ _)
 ·rw[jl_,<-hlen,AU_];rfl
theorem HU:Hi X (.builtin "isinstance") (fun xs H Q=>∃x c cv t b,xs=[x,c]/\TyOf X.K H x t/\(∀u,RelV c u->u=cv)/\kitOne X.K t cv=some b/\Q (.bl b) H):=by
 intro pins s σ H xs us Q I r h
 obtain⟨x,c,cv,t,b,rfl,ty,hc,hk,q⟩:=h
 obtain⟨u,w',rfl,rx,rc⟩:=vals2 r
 rw[hc _ rc]
 exact AE_ I rx ty hk fun tk=>⟨.bl b,H,I.tok tk,rfl,q⟩
noncomputable def EqD (K:α3)(H:Hp):Nat->V->V->Bool->Prop
 |0,x,y,b=>Sv x=true/\Sv y=true/\b=eqV x y
 |n+1,x,y,b=>(Sv x=true/\Sv y=true/\b=eqV x y) \/ ∃a c xs ys,x=.ref a/\y=.ref c/\((SqL K H a xs/\SqL K H c ys)\/(SqT K H a xs/\SqT K H c ys)) /\
   ∃e:Nat->Bool,(∀i x y,xs[i]?=some x->ys[i]?=some y->EqD K H n x y (e i))/\b=(decide (xs.length=ys.length)&&(List.range (min xs.length ys.length)).all e)
theorem in1_units (A:Around):A.in1.units=A.units+1:=rfl
theorem Yg  (h:Sv x=true):eqV x x=true:=by
 cases x<;>first|rfl|(simp[eqV];done)|exact absurd (show false=true from h) jo_
theorem EqD.self     (I:Inv X pins σ H s):∀(n:Nat) {x:V} {b:Bool},EqD X.K H n x x b->b=true:=by
 intro n
 induction n with
 |zero=>
  rintro x b ⟨fx,_,rfl⟩
  exact Yg fx
 |succ n ih=>
  rintro x b (⟨fx,_,rfl⟩|⟨a,c,xs,ys,rfl,e2,hq,e,he,rfl⟩)
  ·exact Yg fx
  ·cases e2
   have exy:xs=ys:=by
    rcases hq with ⟨h1,h2⟩|⟨h1,h2⟩
    ·exact I.list_inj h1 h2
    ·exact I.tuple_inj h1 h2
   subst exy
   simp only[decide_true,Bool.true_and,Nat.min_self,xF_,j9_]
   intro i hi
   exact ih (he i xs[i] xs[i] (by simp[hi]) (by simp[hi]))
theorem AV_   : ((List.range (min n m)).all e&&n==m)=(decide (n=m)&&(List.range (min n m)).all e):=by
 rw[Bool.and_comm]
 congr 1
theorem EqD.at     (I:Inv X pins σ H s):∀(n:Nat) (A:Around) {x y:V} {u v:Value} {b:Bool},A.units+n<cLine->RelV x u->RelV y v->EqD X.K H n x y b ->
  SeqAt.EqAt A s u v b/\∀a c,x=.ref a->y=.ref c->SeqAt.RcAt A s u v b:=by
 intro n
 induction n with
 |zero=>
  intro A x y u v b hu rx ry h
  obtain⟨fx,fy,rfl⟩:=h
  refine⟨DN_ rx ry fx fy,?_⟩
  rintro a c rfl rfl
  exact absurd (show false=true from fx) jo_
 |succ n ih=>
  intro A x y u v b hu rx ry h
  have hself:=h
  rcases h with ⟨fx,fy,rfl⟩|⟨a,c,xs,ys,rfl,rfl,hq,e,he,rfl⟩
  ·refine⟨DN_ rx ry fx fy,?_⟩
   rintro a c rfl rfl
   exact absurd (show false=true from fx) jo_
  ·cases rx
   cases ry
   have key:∀(its its2:List Value),Vals xs its->Vals ys its2->∀j (h1:j<its.toArray.size) (h2:j<its2.toArray.size),SeqAt.EqAt A.in1 s its.toArray[j] its2.toArray[j] (e j):=fun its its2 r1 r2 j h1 h2=>by
    have l1:=r1.length
    have l2:=r2.length
    rw[jl_]at h1 h2
    obtain⟨u1,g1,q1⟩:=r1.get (i:=j) (x:=xs[j]'s!"") (by simp[show j<xs.length by lia])
    obtain⟨u2,g2,q2⟩:=r2.get (i:=j) (x:=ys[j]'s!"") (by simp[show j<ys.length by lia])
    have k1:its.toArray[j]'(by rw[jl_];exact h1)=u1:=by
     have:=(jd_.mp g1).2
     simpa using this
    have k2:its2.toArray[j]'(by rw[jl_];exact h2)=u2:=by
     have:=(jd_.mp g2).2
     simpa using this
    rw[k1,k2]
    exact (ih A.in1 (by rw[in1_units];lia) q1 q2 (he j _ _ (by simp[show j<xs.length by lia]) (by simp[show j<ys.length by lia]))).1
   have rc:SeqAt.RcAt A s (.ref a) (.ref c) (decide (xs.length=ys.length)&&(List.range (min xs.length ys.length)).all e):=by
    rcases hq with ⟨h1,h2⟩|⟨h1,h2⟩
    ·obtain⟨its,r1,p1,_⟩:=I.list h1
     obtain⟨its2,r2,p2,_⟩:=I.list h2
     have l1:=r1.length
     have l2:=r2.length
     by_cases hl:xs.length=ys.length
     ·have:=SeqAt.RcAt.lists (e:=e) p1.isList p2.isList (by rw[jl_,jl_];lia) s!"" (key its its2 r1 r2)
      rw[jl_,<-l1]at this
      rw[qg_ hl,Bool.true_and,<-hl,Nat.min_self]
      exact this
     ·rw[qj_ hl,Bool.false_and]
      exact SeqAt.RcAt.lists_lengths p1.isList p2.isList (by rw[jl_,jl_];simp;lia) s!""
    ·obtain⟨its,r1,p1,_⟩:=I.tuple h1
     obtain⟨its2,r2,p2,_⟩:=I.tuple h2
     have l1:=r1.length
     have l2:=r2.length
     have:=SeqAt.RcAt.tuples (e:=e) (show s.heap.IsTuple a its.toArray from p1) (show s.heap.IsTuple c its2.toArray from p2) s!"" (key its its2 r1 r2)
     rw[jl_,jl_,<-l1,<-l2,AV_]at this
     exact this
   refine⟨?_,fun a' c' _ _=>rc⟩
   by_cases hac:a=c
   ·subst hac
    rw[EqD.self I (n+1) hself]
    exact SeqAt.EqAt.same _
   ·exact SeqAt.EqAt.of_refs hac rc
noncomputable def rEqD (K:α3)(n:Nat):R2:=fun x y H Q=>∃a c b,x=.ref a/\y=.ref c/\EqD K H n x y b/\Q (.bl b) H
theorem GO_ (n:Nat)(hu:X.A.units+n<cLine):OpR X (compareOp .Eq) (rEqD X.K n):=by
 intro pins s σ H x y v u Q I rx ry h
 obtain⟨a,c,b,ex,ey,h,q⟩:=h
 exact (EqD.at I n X.A hu rx ry h).2 a c ex ey _ _ _ _ ⟨.bl b,H,I,rfl,q⟩
theorem EqD.flat {K:α3}    (hq:(SqL K H a xs/\SqL K H c ys)\/(SqT K H a xs/\SqT K H c ys))(fx:∀x∈xs,Sv x=true)(fy:∀y∈ys,Sv y=true)(hi:∀x∈xs,∀y∈ys,eqV x y=decide (x=y))(n:Nat):
  EqD K H (n+1) (.ref a) (.ref c) (decide (xs=ys)):=by
 have base:∀m i x y,xs[i]?=some x->ys[i]?=some y->EqD K H m x y (decide (x=y)):=fun m i x y h1 h2=>by
  have m1:=jj_ h1
  have m2:=jj_ h2
  cases m with
  |zero=>exact⟨fx _ m1,fy _ m2,(hi _ m1 _ m2).symm⟩
  |succ m=>exact .inl ⟨fx _ m1,fy _ m2,(hi _ m1 _ m2).symm⟩
 refine .inr ⟨a,c,xs,ys,rfl,rfl,hq,fun i=>match xs[i]?,ys[i]? with|some x,some y=>decide (x=y)|_,_=>true,fun i x y h1 h2=>?_,?_⟩
 ·simp only[h1,h2]
  exact base n i x y h1 h2
 ·rw[xe_]
  simp only[q4_,qh_,xF_,j9_]
  constructor
  ·rintro rfl
   refine⟨rfl,fun i hi=>?_⟩
   have hi:i<xs.length:=by lia
   simp[hi]
  ·rintro⟨hl,h⟩
   refine qC_ fun i=>?_
   by_cases hi:i<xs.length
   ·have:=h i s!""
    simp[hi,show i<ys.length by lia]at this
    simp[hi,show i<ys.length by lia,this]
   ·rw[ju_ s!"",ju_ s!""]
end
end L2
namespace L2
open PySem PySem.Spec PyProof.Rows
noncomputable def GP_ (outer:List (Str×NameKind))(sc:Scope):Bool:=
 sc.kind == .function&&sc.names.all (fun y=>y.2 != .cell&&(y.2 != .local||sc.names.lookup y.1==some .local)&&(y.2 != .free||outer.lookup y.1==some .cell||outer.lookup y.1==some .free))
theorem DK   (h:GP_ X.env.scope.names sc=true):BlkSc X sc:=by
 unfold GP_ at h
 rw[qh_,xF_]at h
 obtain⟨h1,h2⟩:=h
 refine⟨by simpa using h1,fun y hy z=>?_,fun y hy z=>?_,fun y hy z=>?_⟩
 ·have:=h2 y hy
  simp only[qh_]at this
  have:=this.1.1
  rw[z]at this
  exact absurd this (by decide)
 ·have:=h2 y hy
  simp only[qh_]at this
  have:=this.1.2
  rw[z]at this
  simpa using this
 ·have:=h2 y hy
  simp only[qh_]at this
  have:=this.2
  rw[z]at this
  have t:(X.env.scope.names.lookup y.1==some .cell||X.env.scope.names.lookup y.1==some .free)=true:=by simpa using this
  rw[Bool.or_eq_true]at t
  rcases t with t|t
  ·exact .inl (by show X.env.scope.names.lookup y.1=some .cell;simpa using t)
  ·exact .inr (by show X.env.scope.names.lookup y.1=some .free;simpa using t)
section
variable {t u:TS} {te ta tb tc':TE} {tt tu:TT} {A B:TA} {D:Ends} {σ:St} {H:Hp} {Q:VK} {R:Bool->Hp->Prop} {S:List V->Hp->Prop} {i:Nat} {v:V} {g:TG} {r r':R2} {K:α3} {wi:TI} {cp:Caps}
theorem GQ_:tSeq t u D σ H=t {D with nx:=u D} σ H:=rfl
theorem DS_:Gs_ D σ H=D.nx σ H:=rfl
theorem GR_:tAsg te g D σ H=te σ H fun x H1=>g x σ H1 D.nx:=rfl
theorem AW_  : IZ i v σ H N=N (σ.set i (some v)) H:=rfl
theorem GS_:tVar i σ H Q=∃v,σ[i]?=some (some v)/\Q v H:=rfl
theorem r_c:tC v σ H Q=Q v H:=rfl
theorem r_op:tOp r ta tb σ H Q=ta σ H fun x H1=>tb σ H1 fun y H2=>r x y H2 Q:=rfl
theorem r_un  : tUn f ta σ H Q=ta σ H fun x H1=>f x H1 Q:=rfl
theorem r_I    : rI C f x y H Q=∃i j,x=.int i/\y=.int j/\C i j/\Q (f i j) H:=rfl
theorem r_I0   : rI0 f x y H Q=∃i j,x=.int i/\y=.int j/\Q (f i j) H:=rfl
theorem r_U   : rU f x H Q=∃i,x=.int i/\Q (f i) H:=rfl
theorem DT_    : GB_ sp dvs E A σ H Q=A σ H fun vs H1=>sp (vs++dvs) H1 Q E:=rfl
theorem DU_:GA_ te A σ H S=te σ H fun x H1=>A σ H1 fun xs H2=>S (x::xs) H2:=rfl
theorem GT_:tNil σ H S=S [] H:=rfl
theorem GU_:tRet te D σ H=te σ H D.rt:=rfl
theorem DV_:Gt_ te D σ H=te σ H fun _ H1=>D.nx σ H1:=rfl
theorem r_if:tIfS tt t u D σ H=tt σ H fun b H1=>if b=true then t D σ H1 else u D σ H1:=rfl
theorem r_B:tB te σ H R=te σ H fun x H1=>∃c,x=.bl c/\R c H1:=rfl
theorem DW_:Cq_ te σ H R=te σ H fun x H1=>∃c,x=.bl c/\R c H1:=rfl
theorem GV_:tAnd tt tu σ H R=tt σ H fun c H1=>if c=true then tu σ H1 R else R false H1:=rfl
theorem r_or:tOr tt tu σ H R=tt σ H fun c H1=>if c=true then R true H1 else tu σ H1 R:=rfl
theorem GW_:tNot tt σ H R=tt σ H fun c H1=>R (!c) H1:=rfl
theorem DX_:Gq_ ta tb σ H Q=ta σ H fun x H1=>∃c,x=.bl c/\if c=true then tb σ H1 Q else Q (.bl false) H1:=rfl
theorem DY_:Gr_ ta σ H Q=ta σ H fun x H1=>∃c,x=.bl c/\Q (.bl (!c)) H1:=rfl
theorem AX_:DM_ r r' ta tb tc' σ H Q=ta σ H fun x H1=>tb σ H1 fun y H2=>r x y H2 fun z H3=>∃k,z=.bl k/\(if k=true then tc' σ H3 fun w' H4=>r' y w' H4 Q else Q (.bl false) H3):=rfl
theorem GX_:tIf tt ta tb σ H Q=tt σ H fun c H1=>if c=true then ta σ H1 Q else tb σ H1 Q:=rfl
theorem r_CB  : tCB f A σ H Q=A σ H fun vs H1=>f vs H1 Q:=rfl
theorem GY_:tLst A σ H Q=A σ H fun xs H1=>xs.length<=sizeLine/\∀p,H1 p=none->Q (.ref p) (upd H1 p (.lst xs)):=rfl
theorem GZ_:tTup A σ H Q=A σ H fun xs H1=>xs.length<=sizeLine/\∀p,H1 p=none->Q (.ref p) (upd H1 p (.tup xs)):=rfl
theorem Ha_  : rIxL K x y H Q=∃p xs i v,x=.ref p/\y=.int i/\SqL K H p xs/\atI xs i=some v/\Q v H:=rfl
theorem Hb_  : rIxT K x y H Q=∃p xs i v,x=.ref p/\y=.int i/\SqT K H p xs/\atI xs i=some v/\Q v H:=rfl
theorem r_sl   : tSl f te tl th σ H Q=te σ H fun x H1=>tl σ H1 fun l H2=>th σ H2 fun u H3=>f x l u H3 Q:=rfl
theorem DZ_  : GF_ te σ H U=te σ H fun x H1=>∃i,x=.int i/\U (some i) H1:=rfl
theorem Yh  : AH_ σ H U=U none H:=rfl
theorem Hc_  {lo hi:Option Int}:rSlL K x lo hi H Q=∃a xs,x=.ref a/\SqL K H a xs/\∀p,H p=none->Q (.ref p) (upd H p (.lst (cutV xs lo hi))):=rfl
theorem r_BM   : tBM K T f te A σ H Q=te σ H fun x H1=>tyV K T x H1/\A σ H1 fun xs H2=>f x xs H2 Q:=rfl
theorem Yi   : AM_ x vs H Q=∃l xs y,x=.ref l/\vs=[y]/\H l=some (.lst xs)/\xs.length<sizeLine/\Q .non (upd H l (.lst (xs++[y]))):=rfl
theorem Ea_    : gSub to ti ts v σ H N=to σ H fun o H1=>ti σ H1 fun i H2=>ts o i v H2 fun H3=>N σ H3:=rfl
theorem Eb_   : GH_ o k v H N=∃p xs m j,o=.ref p/\k=.int m/\H p=some (.lst xs)/\ixN xs.length m=some j/\N (upd H p (.lst (xs.set j v))):=rfl
theorem r_Eq  : rEq x y H Q=(scal x y=true/\Q (.bl (decide (x=y))) H):=rfl
theorem r_Ne  : rNe x y H Q=(scal x y=true/\Q (.bl (!decide (x=y))) H):=rfl
theorem Hd_   : rEqD K n x y H Q=∃a c b,x=.ref a/\y=.ref c/\EqD K H n x y b/\Q (.bl b) H:=rfl
theorem AY_  : Gw_ K te σ H Z=te σ H fun x H1=>∃a,x=.ref a/\(∃xs,SqL K H1 a xs)/\Z (Itl K a) H1:=rfl
theorem Ec_  : iTup K te σ H Z=te σ H fun x H1=>∃a,x=.ref a/\(∃xs,SqT K H1 a xs)/\Z (Itt K a) H1:=rfl
theorem AZ_  : Gx_ A σ H Z=A σ H fun vs H1=>∃j:Int,vs=[.int j] /\ -(2 ^ 62)<=j/\j<2 ^ 62/\Z (Itr 0 j.toNat) H1:=rfl
theorem He_  : tAug i te ti D σ H=∃x,σ[i]?=some (some x)/\te σ H fun y H1=>ti x y H1 fun z H2=>D.nx (σ.set i (some z)) H2:=rfl
theorem r_ip   : ipI f x y H Q=∃i j,x=.int i/\y=.int j/\Q (.int (f i j)) H:=rfl
theorem Ba_:OQ σ H R=R true H:=rfl
end
theorem Same.new    (h:H p=none):Same H (upd H p o):=fun b u e=>by rw[AD (Bu e h)];exact e
theorem Same.newT    (s:Same H H')(h:H' p=none):Same H (upd H' p o):=s.trans (Same.new h)
theorem Same.over    (s:Same H H')(h:H p=none):Same H (upd H' p o):=fun b u e=>by rw[AD (Bu e h)];exact s b u e
theorem Same.seqT {K:α3}    (e:Same H H')(h:SqT K H a xs):SqT K H' a xs:=by
 rcases h with (h|⟨o,h⟩)|h
 ·exact .inl (.inl (e _ _ h))
 ·exact .inl (.inr ⟨o,e _ _ h⟩)
 ·exact .inr h
theorem hu9   (hr:Room k A):A.units+8<cLine:=by have:=hr.units;lia
section
variable {K:α3} {wi:TI} {cp:Caps} {g:TG} {tc:TT} {te:TE} {σ:St} {H:Hp} {Q:VK}
theorem Hf_               : (cxOf CX P w K mg base N qual scope f cd A outer s H E).K=K:=rfl
noncomputable def Kc (J:It)(cp:Caps)(g:TG)(tc:TT)(te:TE)(σ:St)(H1:Hp)(Q:VK):Prop:=∃W:Nat->Nat->List V->St->Hp->Prop,(∃m,W 0 m [] (cp.st σ) H1)/\∀i m ys σ' H',W i m ys σ' H' ->
 ys.length<sizeLine/\((J.stop i H'/\∀D,H' D=none->Q (.ref D) (upd H' D (.lst ys)))\/(J.go i H'/\∃N:List V->St->Hp->Prop,(∀zs σ2 H2,N zs σ2 H2->∃m',m'<m/\W (i+1) m' zs σ2 H2)/\∀x H2,J.yld i H' x H2->g x σ' H2 fun σ2 H3=>tc σ2 H3 fun b H4=>
  if b=true then te σ2 H4 fun v H5=>N (ys++[v]) σ2 H5 else N ys σ2 H4))
theorem Ed_:CD_ wi cp g tc te σ H Q=wi σ H fun J H1=>Kc J cp g tc te σ H1 Q:=rfl
noncomputable def ForW (J:It)(g:TG)(tb:TS)(D:Ends)(σ:St)(H1:Hp):Prop:=∃W:Nat->Nat->St->Hp->Prop,(∃m,W 0 m σ H1)/\∀i m σ H,W i m σ H ->
 (J.stop i H/\D.nx σ H)\/(J.go i H/\∃N:St->Hp->Prop,(∀σ' H',N σ' H'->∃m',m'<m/\W (i+1) m' σ' H')/\∀x H',J.yld i H x H'->g x σ H' fun σ2 H2=>tb {D with nx:=N,ct:=N,bk:=D.nx} σ2 H2)
theorem Hg_   : tFor wi g tb D σ H=wi σ H fun J H1=>ForW J g tb D σ H1:=rfl
theorem forL        (Pv:Nat->St->Hp->Prop)(h0:Pv 0 σ H)(hl:∀i σ H,i<=xs.length->Pv i σ H->SqL K H a xs)
  (hs:∀i x σ H,xs[i]?=some x->Pv i σ H->g x σ H fun σ2 H2=>tb {D with nx:=Pv (i+1),ct:=Pv (i+1),bk:=D.nx} σ2 H2) (hd:∀σ H,Pv xs.length σ H->D.nx σ H):ForW (Itl K a) g tb D σ H:=Cp_ Pv h0 hl hs hd
theorem forT        (Pv:Nat->St->Hp->Prop)(h0:Pv 0 σ H)(hl:∀i σ H,i<=xs.length->Pv i σ H->SqT K H a xs)
  (hs:∀i x σ H,xs[i]?=some x->Pv i σ H->g x σ H fun σ2 H2=>tb {D with nx:=Pv (i+1),ct:=Pv (i+1),bk:=D.nx} σ2 H2) (hd:∀σ H,Pv xs.length σ H->D.nx σ H):ForW (Itt K a) g tb D σ H:=Ff_ Pv h0 hl hs hd
theorem forR {lo:Int}       (Pv:Nat->St->Hp->Prop)(h0:Pv 0 σ H)
  (hs:∀i σ H,i<n->Pv i σ H->g (.int (lo+i)) σ H fun σ2 H2=>tb {D with nx:=Pv (i+1),ct:=Pv (i+1),bk:=D.nx} σ2 H2) (hd:∀σ H,Pv n σ H->D.nx σ H):ForW (Itr lo n) g tb D σ H:=Ay_ Pv h0 hs hd
theorem Fr_   (Pv:Nat->List V->St->Hp->Prop)(h0:Pv 0 [] (cp.st σ) H)(hz:xs.length<sizeLine)
  (hl:∀i ys σ H,i<=xs.length->Pv i ys σ H->SqL K H a xs/\ys.length<=i)
  (hs:∀i x ys σ H,xs[i]?=some x->Pv i ys σ H->g x σ H fun σ2 H2=>tc σ2 H2 fun b H3=>if b=true then te σ2 H3 fun v H4=>Pv (i+1) (ys++[v]) σ2 H4 else Pv (i+1) ys σ2 H3)
  (hd:∀ys σ H,Pv xs.length ys σ H->∀D,H D=none->Q (.ref D) (upd H D (.lst ys))):Kc (Itl K a) cp g tc te σ H Q:=AT_ Pv h0 hz hl hs hd
theorem CG_   (Pv:Nat->List V->St->Hp->Prop)(h0:Pv 0 [] (cp.st σ) H)(hz:xs.length<sizeLine)
  (hl:∀i ys σ H,i<=xs.length->Pv i ys σ H->SqT K H a xs/\ys.length<=i)
  (hs:∀i x ys σ H,xs[i]?=some x->Pv i ys σ H->g x σ H fun σ2 H2=>tc σ2 H2 fun b H3=>if b=true then te σ2 H3 fun v H4=>Pv (i+1) (ys++[v]) σ2 H4 else Pv (i+1) ys σ2 H3)
  (hd:∀ys σ H,Pv xs.length ys σ H->∀D,H D=none->Q (.ref D) (upd H D (.lst ys))):Kc (Itt K a) cp g tc te σ H Q:=CE_ Pv h0 hz hl hs hd
theorem OR {lo:Int}  (Pv:Nat->List V->St->Hp->Prop)(h0:Pv 0 [] (cp.st σ) H)(hz:n<sizeLine)
  (hl:∀i ys σ H,i<=n->Pv i ys σ H->ys.length<=i)
  (hs:∀i ys σ H,i<n->Pv i ys σ H->g (.int (lo+i)) σ H fun σ2 H2=>tc σ2 H2 fun b H3=>if b=true then te σ2 H3 fun v H4=>Pv (i+1) (ys++[v]) σ2 H4 else Pv (i+1) ys σ2 H3)
  (hd:∀ys σ H,Pv n ys σ H->∀D,H D=none->Q (.ref D) (upd H D (.lst ys))):Kc (Itr lo n) cp g tc te σ H Q:=Y4 Pv h0 hz hl hs hd
theorem SE    (f:V->V)(e:cp.st σ=none::σ')(hl:SqT K H a xs)(hz:xs.length<sizeLine)(hs:∀x∈xs,∀R:VK,R (f x) H->te (some x::σ') H R)(hd:∀D,H D=none->Q (.ref D) (upd H D (.lst (xs.map f)))):
  Kc (Itt K a) cp (IZ 0) OQ te σ H Q:=by
 refine CG_ (xs:=xs) (fun i ys σ2 H2=>H2=H/\ys=(xs.take i).map f/\∃o,σ2=o::σ') ⟨rfl,by simp,none,e⟩ hz (fun i ys σ2 H2 hi h=>?_) (fun i x ys σ2 H2 hx h=>?_) (fun ys σ2 H2 h=>?_)
 ·obtain⟨rfl,rfl,_⟩:=h
  exact⟨hl,by rw[jb_,jR_];lia⟩
 ·obtain⟨rfl,rfl,o,rfl⟩:=h
  refine hs x (jj_ hx) _ ⟨rfl,?_,some x,rfl⟩
  rw[qb_,hx];simp
 ·obtain⟨rfl,rfl,_⟩:=h
  rw[jM_]
  exact hd
theorem CH_    (f:V->V)(e:cp.st σ=none::σ')(hl:SqL K H a xs)(hz:xs.length<sizeLine)(hs:∀x∈xs,∀R:VK,R (f x) H->te (some x::σ') H R)(hd:∀D,H D=none->Q (.ref D) (upd H D (.lst (xs.map f)))):
  Kc (Itl K a) cp (IZ 0) OQ te σ H Q:=by
 refine Fr_ (xs:=xs) (fun i ys σ2 H2=>H2=H/\ys=(xs.take i).map f/\∃o,σ2=o::σ') ⟨rfl,by simp,none,e⟩ hz (fun i ys σ2 H2 hi h=>?_) (fun i x ys σ2 H2 hx h=>?_) (fun ys σ2 H2 h=>?_)
 ·obtain⟨rfl,rfl,_⟩:=h
  exact⟨hl,by rw[jb_,jR_];lia⟩
 ·obtain⟨rfl,rfl,o,rfl⟩:=h
  refine hs x (jj_ hx) _ ⟨rfl,?_,some x,rfl⟩
  rw[qb_,hx];simp
 ·obtain⟨rfl,rfl,_⟩:=h
  rw[jM_]
  exact hd
end
noncomputable def tCut (t u:TS):TS:=fun D σ H=>∃R:St->Hp->Prop,t {D with nx:=R} σ H/\∀σ' H',R σ' H'->u D σ' H'
theorem G3  {st:Stmt}{rest:List Stmt}  (h1:PS X st t)(h2:PSs X rest u):PSs X (st::rest) (tCut t u):=by
 intro pins s σ H D I h
 obtain⟨R,ha,hb⟩:=h
 refine wpAny_execs_cons (thn (h1 pins s σ H {D with nx:=R} I ha) fun f s1 q=>?_)
 cases f with
 |next=>
  obtain⟨σ',H',I',q⟩:=q
  exact h2 pins s1 σ' H' D I' (hb σ' H' q)
 |ret v=>exact q
 |brk=>exact q
 |cont=>exact q
theorem Au:1000000<sizeLine:=by rw[sizeLine_eq];decide
theorem Lf {ns:α2}{x:V}(h:x∈ns.map V.int):∃n,n∈ns/\x=.int n:=by
 obtain⟨n,hn,e⟩:=jv_.mp h
 exact⟨n,hn,e.symm⟩
theorem J5 {ns:α2}{i:Nat}{x:V}(h:(ns.map V.int)[i]?=some x):∃n,ns[i]?=some n/\x=.int n:=by
 rw[jh_]at h
 cases e:ns[i]? with
 |none=>rw[e]at h;cases h
 |some n=>rw[e]at h;exact⟨n,rfl,(jB_ h).symm⟩
theorem Hh_ {n:Nat}{i:Int}(h0:0<=i)(h1:i<n):ixN n i=some i.toNat:=by
 unfold ixN;rw[if_pos h0,if_pos h1]
theorem Hi_     (h0:0<=i)(h:xs[i.toNat]?=some v):atI xs i=some v:=by
 have:=AY h
 rwa [show ((i.toNat:Nat):Int)=i by lia]at this
theorem Lg {K:α3}  : kitOne K t t=some true:=by unfold kitOne;rw[if_pos (by simp)]
theorem VN {K:α3}:kitOne K (.type "int") (.type "bool")=some false:=by
 first|rfl|decide +kernel|(unfold kitOne;kernel_rfl)
theorem OS  : ∀u,RelV (V.ty n) u->u=.type n:=fun _ h=>h
theorem Fs_  : ∀u,RelV (V.ref a) u->u=.ref a:=fun _ h=>h
end L2
namespace L2
open PySem PySem.W PySem.Spec PySem.Calls PyProof.Rows
section
variable {prog:Program} {w:World} {A:Around} {E:Value->Shared->Prop} {s:Shared} {K:Frag} {x D:Addr} {ox:Obj}
structure ExcCls (K:Frag)(D:Addr):Prop where
 ga:findIn K (.ref D) "__getattribute__"=some (some (.builtin "BaseException.__getattribute__"))
 hk:findIn K (.ref D) "__getattr__"=some none
 cl:(clsIn K D).isSome=true
 ca:findIn K (.ref D) "__class__"=some (some (.builtin "object.__class__"))
 gs:specialIn K (.builtin "object.__class__") "__get__"=some (some (.builtin "getset_descriptor.__get__"))
 tk:takesIn K (.builtin "object.__class__")=some true
 mo:mroIn K D (.type "object")=some true
 mb:mroIn K D (.type "BaseException")=some true
noncomputable def SF (x D:Addr)(h:Heap):Prop:=∃ox,h.get? x=some ox/\ox.cls=.ref D
theorem SF.type   (I:SF x D h):Looks M h (typeOf (.ref x)) (.ref D):=by
 obtain⟨ox,h1,h2⟩:=I
 exact h2 ▸ (Looks.ld h1).andThen .now
theorem CI_   (X:K.In h)(C:ExcCls K D):Looks M h (Builtin.ObjectAttr.find (.ref x) (.ref D) "__class__") (.bind (.builtin "getset_descriptor.__get__") (.builtin "object.__class__")):=
 (looks_findIn X C.ca).andThen ((show Looks M h (Builtin.ObjectAttr.getOf (some (.builtin "object.__class__"))) _ from looks_specialIn X C.gs).andThen
  ((show Looks M h (Builtin.ObjectAttr.dataDescriptor? (some (.builtin "object.__class__")) (some (.builtin "getset_descriptor.__get__"))) (some (.builtin "getset_descriptor.__get__",.builtin "object.__class__")) from (looks_takesIn X C.tk).andThen .now).andThen (Looks.tag .now)))
open Builtin Builtin.ObjectAttr Builtin.Getset_descriptor in
theorem Ft_ {R:Result->Shared->Prop}{tp:Value}(X:K.In s.heap)(I:SF x D s.heap)(hm:mroIn K D (.type "object")=some true)(h:R (.ok (.ret (.ref D))) s):codeAny (model prog w) A (.call (.builtin "getset_descriptor.__get__") ⟨[.builtin "object.__class__",.ref x,tp],[]⟩) R s:=by
 have l0:=I.type (M:=model prog w)
 have l1:=looks_mroIn (M:=model prog w) X hm
 obtain⟨_,_,_,_,_⟩:=s
 have sg:=KF.slot_gs
 refine codeAny_call_builtin sg.plain KF.entry_gs (sg.check _ _ _ _ _ _ _ _ KF.type_class (KF.args_gs _ _ _) ?_)
 unfold Builtin.«getset_descriptor.__get__» descrGet
 rw[dga_obj]
 unfold descrGetter descrCheckInstance isInstance descrNameAndClass
 refine je_ (js_ ?_)
 simp only[KF.owner_class]
 repeat lk
 refine⟨Code.quiet_builtin _ (by decide +kernel),codeAny_builtin KF.entry_class ?_⟩
 unfold Builtin.«object.__class__» shownTypeOf
 repeat lk
 exact h
theorem Bb_    (X:K.In s.heap)(I:SF x D s.heap)(C:ExcCls K D)(hq:Q () s):wpAny M A (checkBuiltinCall "BaseException.__getattribute__" ⟨[.ref x,nameV],[]⟩) Q E s:=by
 have a1:=F.args_bexc_ga (.ref x) nameV
 have l0:=I.type (M:=M)
 have l1:=looks_mroIn (M:=M) X C.mb
 obtain⟨_,_,_,_,_⟩:=s
 simp only[checkBuiltinCall,show builtinKind "BaseException.__getattribute__"=some .slot by decide +kernel,show splitId "BaseException.__getattribute__"=some ("BaseException","__getattribute__") by decide +kernel,isInstance]
 repeat (first|lk|wp_step)
 exact hq
theorem Bc_   (X:K.In s.heap)(I:SF x D s.heap)(C:ExcCls K D)(hq:Q (.done (.ret (.ref D))) s):wpAny (model prog w) A (Builtin.«object.__getattribute__» ⟨[.ref x,.str "__class__" tk],[]⟩) Q E s:=by
 obtain⟨hh,g,d,t,os⟩:=s
 have L0:=I.type (M:=model prog w)
 have L1:=CI_ (M:=model prog w) (x:=x) X C
 unfold Builtin.«object.__getattribute__»
 refine je_ (js_ ?_)
 refine je_ (js_ ?_)
 refine je_ (L0.at ?_)
 refine je_ (L1.at ?_)
 show wpAny _ _ (Builtin.ObjectAttr.bindTo _ _ _ _) _ _ _
 unfold Builtin.ObjectAttr.bindTo
 dsimp only
 refine je_ (qS_ (wpAny_call (Ft_ (K:=K) (s:=⟨hh,g,d,t,os⟩) X I C.mo ?_)))
 exact js_ hq
theorem Bd_  (X:K.In s.heap)(I:SF x D s.heap)(C:ExcCls K D)(h:Q (some (.ref D)) {s with toks:=s.toks+1}):wpAny (model prog w) A (getAttr? (.ref x) "__class__") Q E s:=by
 obtain⟨hh,g,d,t,os⟩:=s
 have L0:=I.type (M:=model prog w)
 have L1:=looks_findIn (M:=model prog w) X C.ga
 have L2:=looks_findIn (M:=model prog w) X C.hk
 unfold getAttr? getAttrBy? getAttrBy
 refine je_ (wpAny_mkText (je_ (xS_ (qS_ (je_ (L0.at (je_ (L1.at ?_))))))))
 show wpAny _ _ (getAttrByItsOwn _ _ _ _ _ _) _ _ _
 unfold getAttrByItsOwn hookBefore
 refine je_ ?_
 rw[if_pos (by rfl)]
 refine L2.at (je_ (xS_ (qS_ ?_)))
 unfold callGetattribute
 rw[if_neg (by decide)]
 unfold boundAndCalled
 have f3:=PySem.F.attr_ValueError.ga.bind (.ref x)
 refine je_ (wpAny_of_eq f3 ?_)
 refine wpAny_call (codeAny_call_builtin PySem.F.attr_ValueError.ga.plain F.entry_bexc_ga (Bb_ (K:=K) (s:=⟨hh,g,d,t+1,os⟩) X I C (Bc_ (K:=K) (s:=⟨hh,g,d,t+1,os⟩) X I C ?_)))
 exact js_ (js_ h)
theorem CJ_ (C:ExcCls K D):KitX K (.ref x) (.ref D) (SF x D):=by
 have cl:=C.cl
 unfold clsIn at cl
 refine⟨fun _ _ _ I=>I.type,fun _ _ X _=>?_,fun h tp dd its n sl X htp=>?_,fun X I k=>Bd_ X I C k⟩
 ·split at cl
  ·rename_i ho
   intro A' Q' E' s' k q
   exact je_ (wpAny_loadPart (k _ _ (X _ _ ho)) (js_ q))
  ·cases cl
 ·split at cl
  ·rename_i ho
   cases hb:(Value.ref D==Value.ref tp) with
   |false=>rfl
   |true=>
    obtain rfl:D=tp:=Value.ref.inj (zC_.mp hb)
    cases (X _ _ ho).symm.trans htp
  ·cases cl
end
section
variable {P:Program} {w:World}
theorem Bz.there     (x:Bz P w H h a o):∃ob,h.get? a=some ob:=by
 induction o with
 |lst xs=>obtain⟨_,_,_,_,e⟩:=x;exact⟨_,e⟩
 |tup xs=>obtain⟨_,_,_,ob,e,_⟩:=x;exact⟨_,e⟩
 |dK kvs=>obtain⟨_,_,_,_,o,_,_,e,_⟩:=x;exact⟨_,e⟩
 |dT kvs=>obtain⟨_,_,_,_,o,_,_,e,_⟩:=x;exact⟨_,e⟩
 |set S n=>obtain⟨o,_,_,_,e,_⟩:=x;exact⟨_,e⟩
 |ins C dx fs=>obtain⟨_,_,_,e,_⟩:=x;exact⟨_,e⟩
 |own y=>obtain⟨_,e⟩:=x;exact⟨_,e⟩
 |xd fs=>obtain⟨_,⟨_,_,_,e,_⟩,_⟩:=x;exact⟨_,e⟩
 |rng lo hi=>obtain⟨_,_,_,e⟩:=x;exact⟨_,e⟩
 |frz ob u ih=>obtain⟨e,_⟩:=x;exact⟨_,e⟩
 |tbl ps=>exact⟨_,(show h.get? a=some _ from x)⟩
 |met f y=>exact⟨_,(show h.get? a=some _ from x)⟩
 |ext φ=>obtain⟨_,⟨_,e⟩,_⟩:=x;exact⟨_,e⟩
structure Fly (P:Program)(w:World)(fs:List Addr)(H1 H':Hp)(h1 g B:Heap):Prop where
 un:Un fs [] H1 H' h1 g
 hok:HOk P w H' g
 cov:∀b o,g.get? b=some o->(H' b≠none \/ ∃o',h1.get? b=some o')->b∉fs->B.get? b=some o
theorem Fly.move  {H1 H':Hp}{h1 g B h2:Heap}(x:Fly P w fs H1 H' h1 g B)(frees:∀b∈fs,H' b=none)(st:B.StaysIn h2)(up:∀b∈fs,∀o,g.get? b=some o->∃sl,h2.get? b=some {o with slots:=sl}):Fly P w fs H1 H' h1 h2 B:=by
 have keep:∀b o,g.get? b=some o->(H' b≠none \/ ∃o',h1.get? b=some o')->b∉fs->h2.get? b=some o:=fun b o e h n=>st b o (x.cov b o e h n)
 have nfs:∀b u,H' b=some u->b∉fs:=fun b u e z=>by rw[frees b z]at e;cases e
 refine⟨⟨fun b o e n hb hx=>?_,fun b o e n hb hx=>?_,fun b o e n hx=>x.un.free b o e n hx,fun b o e hx=>?_,x.un.tups,x.un.frzs,x.un.tbls⟩,fun b u e=>?_,fun b o e h n=>?_⟩
 ·exact keep b o (x.un.keep b o e n hb hx) (.inr ⟨o,e⟩) hb
 ·obtain⟨sl,e1⟩:=x.un.slot b o e n hb hx
  obtain⟨sl',e2⟩:=up b hb _ e1
  exact⟨sl',e2⟩
 ·obtain⟨o',e1⟩:=x.un.there b o e hx
  by_cases hb:b∈fs
  ·obtain⟨sl',e2⟩:=up b hb _ e1
   exact⟨_,e2⟩
  ·exact⟨o',keep b o' e1 (.inr ⟨o,e⟩) hb⟩
 ·refine (x.hok b u e).stay (fun c v hc q=>?_) (fun _ q=>q) fun _ _ q=>q
  rcases hc with rfl|hc
  ·exact keep c v q (.inl (by rw[e];simp)) (nfs c u e)
  ·exact keep c v q (.inl (by rw[hc];simp)) (nfs c _ hc)
 ·-- B has it still
  have ⟨o1,e1⟩:∃o1,g.get? b=some o1:=by
   rcases h with h|⟨o',h⟩
   ·cases q:H' b with
    |none=>exact absurd q h
    |some u=>exact (x.hok b u q).there
   ·exact x.un.there b o' h (by simp)
  have e2:=x.cov b o1 e1 h n
  have e3:=st b o1 e2
  rw[e]at e3
  cases e3
  exact e2
noncomputable def CXe (P:Program)(w:World):CXT:=fun outer H s E e s'=>∃(ea:Addr) (cls a0:Value) (H':Hp) (B:Heap),e=.ref ea/\s'.os=s.os/\AllBare s'.gens/\Fly P w (frs outer) H H' s.heap s'.heap B/\Heap.FlyingW B outer ea cls a0 s'.heap/\E cls none H'
theorem Lh    {H1 H':Hp}  {g B:Heap}(I:Inv X pins σ H1 s1)(x:Fly P w (frs X.stack) H1 H' s1.heap g B):∀b∈frs X.stack,H' b=none:=fun b hb=>by
 obtain⟨_,o,ho,_⟩:=I.stack.mem hb
 exact x.un.free b o ho (I.stkFree b hb) (by simp)
theorem VO {K:α3}             (hE:∀c d H',E' c d H'->E c d H'):
  VB (CXe P w) (cxOf (CXe P w) P w K mg base N qual scope f cd A outer s H E) E':=by
 intro pins σ H1 s1 e s' I hc
 obtain⟨ea,cls,a0,H',B,rfl,os,bare,fl,fw,q⟩:=hc
 have fr:(cxOf (CXe P w) P w K mg base N qual scope f cd A outer s H E).A.frames=some (envOfC qual scope s.heap.objs.size f cd::outer):=I.ok.frames
 refine wpAny_leaves_onW fr rfl fw fun h' fw' ups=>?_
 have fl2:=fl.move (Lh I fl) fw'.1 (fun b hb o e=>by
  obtain⟨_,o',ho',nf⟩:=fw.2.2.1.mem hb
  rw[e]at ho';cases ho'
  exact ups b o e nf)
 have I2:Inv (cxOf (CXe P w) P w K mg base N qual scope f cd A outer s H E) pins σ H' {s' with heap:=h' }:=I.call' (s':={s' with heap:=h' }) os fl2.un fl2.hok bare (fun b hb=>by cases hb)
 refine⟨ea,cls,a0,H',B,rfl,I2.os,I2.bare,⟨I2.base,I2.hok,fun b o e h n=>fl2.cov b o e ?_ (fun z=>?_)⟩,fw',hE _ _ _ q⟩
 ·rcases h with h|⟨o',h⟩
  ·exact .inl h
  ·obtain⟨o2,e2⟩:=I.base.there b o' h (by show b∉([]:List Addr);simp)
   exact .inr ⟨o2,e2⟩
 ·rcases jL_.mp (I.stkSub b z) with e' | e'
  ·rcases h with h|⟨o',h⟩
   ·exact h (by rw[e'];exact I2.free)
   ·have:=jp_ h
    rw[e']at this
    exact absurd (jw_ this I.ok.above) (jW_ _)
  ·exact n e'
theorem Hj_ {K:α3}
   {H1:Hp}
  (I:Inv (cxOf (CXe P w) P w K mg base N qual scope f cd A outer s H E) pins σ H1 s1) (hx:Heap.MadeExcOf s1.heap h' ea cls vs) (q:E cls none H1):
  (cxOf (CXe P w) P w K mg base N qual scope f cd A outer s H E).xe (.ref ea) {s1 with heap:=h' }:=by
 have fr:(cxOf (CXe P w) P w K mg base N qual scope f cd A outer s H E).A.frames=some (envOfC qual scope s.heap.objs.size f cd::outer):=I.ok.frames
 have hin:∀env∈(envOfC qual scope s.heap.objs.size f cd::outer),∀b,env.frame=some b->b∈frs (envOfC qual scope s.heap.objs.size f cd::outer):=fun env he b hb=>zv_.mpr ⟨env,he,hb⟩
 have stk:=I.stack
 have fl:Fly P w (frs (envOfC qual scope s.heap.objs.size f cd::outer)) H1 H1 s1.heap s1.heap (PySem.W.hideAll s1.heap (frs (envOfC qual scope s.heap.objs.size f cd::outer))):=⟨Un.refl,I.hok,fun b o e _ n=>PySem.W.hideAll_get _ e n⟩
 refine wpAny_leaves_madeW (base:=PySem.W.hideAll s1.heap (frs (envOfC qual scope s.heap.objs.size f cd::outer))) (h:=s1.heap) fr rfl (fun b o q=>PySem.W.of_hideAll _ q) ?_ hx fun h'' t fw' ht hnt ups=>?_
 ·exact PySem.W.funFrames_hide stk hin
 ·have fl2:=fl.move (Lh (X:=cxOf (CXe P w) P w K mg base N qual scope f cd A outer s H E) I fl) fw'.1 (fun b hb o e=>by
   obtain⟨_,o',ho',nf⟩:=stk.mem hb
   rw[e]at ho';cases ho'
   exact ups b o (hx.keeps b o e) nf)
  have I2:Inv (cxOf (CXe P w) P w K mg base N qual scope f cd A outer s H E) pins σ H1 {s1 with heap:=h'' }:=I.call' (s':={s1 with heap:=h'' }) rfl fl2.un fl2.hok I.bare (fun b hb=>by cases hb)
  refine⟨ea,cls,.ref t,H1,_,rfl,I2.os,I2.bare,⟨I2.base,I2.hok,fun b o e h n=>fl2.cov b o e ?_ (fun z=>?_)⟩,fw',q⟩
  ·rcases h with h|⟨o',h⟩
   ·exact .inl h
   ·obtain⟨o2,e2⟩:=I.base.there b o' h (by show b∉([]:List Addr);simp)
    exact .inr ⟨o2,e2⟩
  ·rcases jL_.mp (I.stkSub b z) with e' | e'
   ·rcases h with h|⟨o',h⟩
    ·exact h (by rw[e'];exact I2.free)
    ·have:=jp_ h
     rw[e']at this
     exact absurd (jw_ this I.ok.above) (jW_ _)
   ·exact n e'
end
theorem Fu_ {K:Frag}     (X:K.In h)(q:excIn K C bmB newId=true):
  ∃bm N nm q bs hdct sn sub ab col dd k0 k1 k2 k3 k5 mN,h.get? C=some (excClassObj nm q C N bs bm hdct sn sub ab col dd k0 k1 k2 k3 k5 newId)/\h.Ns N mN/\mN "__init__"=none/\OwnTail h bmB bm:=by
 unfold excIn at q
 split at q
 case h_2=>cases q
 rename_i d0 c0 s0 hl
 split at q
 case h_2=>cases q
 rename_i B tl a0 a1 a2 a3 id0 a5 em es
 have g:=X C _ hl
 repeat rw[qh_]at q
 rcases q with ⟨⟨⟨⟨⟨e1,e2⟩,e3⟩,e4⟩,e5⟩,e6⟩
 cases eq_of_beq e1
 cases eq_of_beq e2
 rcases s0 with ⟨l0⟩
 cases es
 rcases c0 with ⟨f0,f1,f2,f3,f4,f5,f6,f7,f8,f9,f10⟩
 cases em
 cases f10
 ·exact⟨tl,f3,f0,f4,f1,f5,f6,f7,f8,f9,d0,a0,a1,a2,a3,a5,h.nsMap f3,g,.of_isNs (isNs_of_in X e5),nsMap_none_of_in X e5 (eq_of_beq e6),tail_of_in X e4⟩
 ·cases e3
def bmV:List Value:=[.type "ValueError",.type "Exception",.type "BaseException",.type "object"]
section
variable {P:Program} {w:World} {K:α3} {mg:Str->α5} {base:Heap} {N:List Str} {qual:Str} {scope:Scope} {f:Addr} {cd:Value} {A:Around} {outer:List Env} {s:Shared} {H:Hp} {E:XK}
noncomputable def Ee_ (C:Addr)(E:XK)(ta:TA):TS:=fun _ σ H=>ta σ H fun vs H1=>vs.length<=sizeLine/\E (.ref C) none H1
theorem OB      {rest:List Expr}  (hm:mg x=some (.ref C))(hx:excIn K C bmV newId=true)(hg:Gl (cxOf (CXe P w) P w K mg base N qual scope f cd A outer s H E) x)
  (hn:newId = "ValueError.__new__") (ha:PA (cxOf (CXe P w) P w K mg base N qual scope f cd A outer s H E) (e₀::rest) ta)
  (he:starEach (e₀::rest) (cxOf (CXe P w) P w K mg base N qual scope f cd A outer s H E).env=(false,eval e₀ (cxOf (CXe P w) P w K mg base N qual scope f cd A outer s H E).env)::starEach rest (cxOf (CXe P w) P w K mg base N qual scope f cd A outer s H E).env:=by rfl)
  (hplain:(backTo cpos (starEach rest (cxOf (CXe P w) P w K mg base N qual scope f cd A outer s H E).env)).any (·.1)=false:=by rfl) (hd:(x==("__debug__" : Str))=false:=by decide):
  PS (cxOf (CXe P w) P w K mg base N qual scope f cd A outer s H E) (.Raise (some (.Call (.Name x np) (e₀::rest) [] cpos)) none pos) (Ee_ C E ta):=by
 intro pins s1 σ H1 D I h
 subst hn
 obtain⟨bm,Nc,nm,q,bs,hdct,sn,sub,ab,col,dd,k0,k1,k2,k3,k5,mN,hC,hN,hni,T⟩:=Fu_ I.mod.kin hx
 refine wpAny_Raise_call_subU (C:=C) (nm:=nm) (q:=q) (N:=Nc) (bs:=bs) (bm:=bm) (hdct:=hdct) (sn:=sn) (sub:=sub) (ab:=ab) (col:=col) (dd:=dd) (k0:=k0) (k1:=k1) (k2:=k2) (k3:=k3) (k5:=k5)
  xz_ (bmB:=bmV) (by decide +kernel) xz_ (mN:=mN) (T.hasType xz_.hasBase) (I.ok.hd rfl) (by rw[he];show (false||(backTo cpos (starEach rest _)).any (·.1))=false;rw[hplain];rfl) hni (OH I hg hm ⟨rfl,?_⟩ hd)
 have hA:=ha cpos pins s1 σ H1 _ I h
 rw[he]at hA ⊢
 refine Calls.evalArgs_plain (thn hA fun us s2 ⟨vs,H2,I2,r2,hz,q2⟩=>⟨rfl,by rw[<-r2.length];exact hz,I2.bk _ _ hC,hN.keeps I2.bk,T.keeps I2.bk,fun h' e hm=>Hj_ I2 hm q2⟩)
end
end L2
namespace L2
open PySem PySem.Spec PyProof.Rows
noncomputable abbrev Cx.body (X:Cx)(xe:Value->Shared->Prop)(pn:α7):Cx:={X with xe:=xe,pn:=pn}
noncomputable abbrev Cx.suite (X:Cx)(ea:Addr)(pn:α7):Cx:={X with A:=X.A.mark (some (.ref ea)),calm:=false,xe:=fun _ _=>False,pn:=pn}
section
variable {X:Cx} {pins pins':α7} {σ:St} {H:Hp} {s:Shared} {xe xe':Value->Shared->Prop} {ea:Addr}
theorem Inv.toBody (I:Inv X pins σ H s):Inv (X.body xe (X.pn++pins)) [] σ H s:=
 ⟨⟨I.ok.mod,I.ok.kind,I.ok.glob,I.ok.blt,I.ok.above,I.ok.inj,I.ok.has,I.ok.cab,I.ok.hd,I.ok.frames,I.ok.stk,I.ok.exf,I.ok.bs,I.ok.bsz,I.ok.noex,I.ok.exfs,I.ok.funs,I.ok.frf⟩,I.os,I.bare,I.base,I.loc,I.cell,I.free,I.freeC,fun p hp=>I.pin p (by simpa using hp),I.hok,I.len⟩
theorem Inv.ofBody (I:Inv (X.body xe (X.pn++pins)) pins' σ H s):Inv X pins σ H s:=
 ⟨⟨I.ok.mod,I.ok.kind,I.ok.glob,I.ok.blt,I.ok.above,I.ok.inj,I.ok.has,I.ok.cab,I.ok.hd,I.ok.frames,I.ok.stk,I.ok.exf,I.ok.bs,I.ok.bsz,I.ok.noex,I.ok.exfs,I.ok.funs,I.ok.frf⟩,I.os,I.bare,I.base,I.loc,I.cell,I.free,I.freeC,fun p hp=>I.pin p (jY_ _ hp),I.hok,I.len⟩
theorem Inv.reBody  (I:Inv (X.body xe pn) pins' σ H s):Inv (X.body xe' pn) pins' σ H s:=
 ⟨⟨I.ok.mod,I.ok.kind,I.ok.glob,I.ok.blt,I.ok.above,I.ok.inj,I.ok.has,I.ok.cab,I.ok.hd,I.ok.frames,I.ok.stk,I.ok.exf,I.ok.bs,I.ok.bsz,I.ok.noex,I.ok.exfs,I.ok.funs,I.ok.frf⟩,I.os,I.bare,I.base,I.loc,I.cell,I.free,I.freeC,I.pin,I.hok,I.len⟩
theorem Inv.toSuite (I:Inv X pins σ H s):Inv (X.suite ea (X.pn++pins)) [] σ H s:=
 ⟨⟨I.ok.mod,I.ok.kind,I.ok.glob,I.ok.blt,I.ok.above,I.ok.inj,I.ok.has,I.ok.cab,fun z=>absurd (show false=true from z) jo_,I.ok.frames,I.ok.stk,I.ok.exf,I.ok.bs,I.ok.bsz,I.ok.noex,I.ok.exfs,I.ok.funs,I.ok.frf⟩,I.os,I.bare,I.base,I.loc,I.cell,I.free,I.freeC,fun p hp=>I.pin p (by simpa using hp),I.hok,I.len⟩
theorem Inv.ofSuite (hd:X.calm=true->X.A.handled=none)(I:Inv (X.suite ea (X.pn++pins)) pins' σ H s):Inv X pins σ H s:=
 ⟨⟨I.ok.mod,I.ok.kind,I.ok.glob,I.ok.blt,I.ok.above,I.ok.inj,I.ok.has,I.ok.cab,hd,I.ok.frames,I.ok.stk,I.ok.exf,I.ok.bs,I.ok.bsz,I.ok.noex,I.ok.exfs,I.ok.funs,I.ok.frf⟩,I.os,I.bare,I.base,I.loc,I.cell,I.free,I.freeC,fun p hp=>I.pin p (jY_ _ hp),I.hok,I.len⟩
theorem Inv.forget       (I:Inv X pins σ H s)(hN:X.N.Nodup)(hi:X.N[i]?=some n)(hx:X.env.scope.names.lookup n=some .local)
  (hl:∀(i:Nat) (x:Str) (v:V),X.N[i]?=some x->σ[i]?=some (some v)->Vis X.env.scope x->∃u,RelV v u/\Look X.env s.heap m x u) (hn:s.heap.Ns X.env.locals m)
  (hn':h'.Ns X.env.locals (fun x=>if x=n then v else m x)) (hs:Heap.SameBut X.env.locals s.heap h'):Inv X pins (σ.set i none) H {s with heap:=h',toks:=t' }:=by
 have cne:=I.cne
 obtain⟨oL,_,_,hoL,_⟩:=id hn
 have tracked:HOk X.prog X.w H h':=fun b ob e=>by
  refine (I.hok b ob e).stay (fun c w' hc q=>(hs.2 c ?_).trans q) (fun _ q=>q) fun _ _ q=>q
  rintro rfl
  rcases hc with rfl|hc
  ·rw[I.free]at e;cases e
  ·rw[I.free]at hc;cases hc
 refine⟨I.ok,I.os,I.bare,⟨fun b o e n hb hx=>?_,fun b o e n hb hx=>?_,I.base.free,fun b o e hx=>?_,I.base.tups,I.base.frzs,I.base.tbls⟩,⟨_,hn',fun j y v' e1 e2 e3=>?_⟩,fun y c e=>?_,I.free,I.freeC,fun p hp=>?_,tracked,by simpa using I.len⟩
 ·exact (hs.2 b (jG_ (jw_ (jp_ e) I.ok.above))).trans (I.base.keep b o e n hb hx)
 ·obtain⟨sl,e1⟩:=I.base.slot b o e n hb hx
  exact⟨sl,(hs.2 b (jG_ (jw_ (jp_ e) I.ok.above))).trans e1⟩
 ·obtain⟨o',e1⟩:=I.base.there b o e hx
  exact⟨o',(hs.2 b (jG_ (jw_ (jp_ e) I.ok.above))).trans e1⟩
 ·by_cases hj:j=i
  ·subst hj
   have hlt:j<σ.length:=by
    have:=(jd_.mp e2).1
    simpa using this
   rw[xn_ hlt]at e2
   cases e2
  ·rw[xA_ (qT_ hj)]at e2
   obtain⟨u',r',q⟩:=hl j y v' e1 e2 e3
   refine⟨u',r',?_⟩
   rcases q with ⟨k,e⟩|⟨k,c,e,z⟩
   ·refine .inl ⟨k,?_⟩
    have:y≠n:=fun e=>hj (So hN e1 (e ▸ hi))
    simp[this,e]
   ·exact .inr ⟨k,c,e,z.sameBut hs (cne y c e)⟩
 ·obtain⟨w',z⟩:=I.cell y c e
  exact⟨w',z.sameBut hs (cne y c e)⟩
 ·obtain⟨e,n,ne,nf,d⟩:=I.pin p hp
  exact⟨(hs.2 p.1 ne).trans e,n,ne,nf,d⟩
end
noncomputable def Li (CX:CXT)(X:Cx)(σ:St)(E:XK):Prop:=∀(pins:α7) (H:Hp) (s:Shared) (e:Value) (s':Shared),Inv X pins σ H s->CX X.stack H s E e s'->X.xe e s'
section
variable {X:Cx} {CX:CXT} {k:Nat} {f C:Addr} {fd:α6} {ps:List Str} {sp:Sp} {dvs:List V} {ds:List Value} {E:St->XK} {x:Str} {p pos:Pos} {e:Expr} {es:List Expr} {t:TA}
theorem Be_ {pins:α7}{σ:St}{H:Hp}{s:Shared}{Q:VK}{us:List Value}{vs:List V}{E:XK}(F:FnOk X.prog X.w X.K X.mg X.base CX k f fd ps sp)(hr:Room k X.A)(hb:AI X.K fd ps ds)(hd:Vals dvs ds)(hx:Li CX X σ E)
  (I:Inv X pins σ H s) (r:Vals vs us) (h:sp (vs++dvs) H Q E):wpAny (model X.prog X.w) X.A (call (.ref f) us) (EP X pins σ Q) X.xe s:=by
 have r2:Vals (vs++dvs) (us++ds):=r.append hd
 have hl:(us++ds).length=ps.length:=by rw[<-r2.length];exact F.len _ _ _ _ h
 refine wpAny_call (codeAny_mono (F.run X.A X.stack s H ⟨us,[]⟩ (us++ds) (vs++dvs) Q E hr I.env0 (hb s us I.kIn hl) r2 h) fun r s' hq=>?_)
 cases r with
 |error e=>exact hx pins H s e s' I hq
 |ok fl=>
  cases fl with
  |ret u=>exact I.after hq
  |next=>exact False.elim hq
  |brk=>exact False.elim hq
  |cont=>exact False.elim hq
end
noncomputable def excO (ea C:Addr):HO:=.ext (SF ea C)
noncomputable def Ends.un (D:Ends)(i:Nat):Ends:={nx:=fun σ H=>D.nx (σ.set i none) H,rt:=D.rt,bk:=fun σ H=>D.bk (σ.set i none) H,ct:=fun σ H=>D.ct (σ.set i none) H}
noncomputable def tTry (K:α3)(Ca:Addr)(i:Nat)(E:St->XK)(tb ts:TS):TS:=fun D σ H=>tb D σ H/\∀σ' cls H',E σ' cls none H' ->
 ∃C,cls=.ref C/\exmOne K (.ref C) (.ref Ca)=some true/\∀ea,H' ea=none->ts (D.un i) (σ'.set i (some (.ref ea))) (upd H' ea (excO ea C))
theorem Hk_           (hN:X.N.Nodup)(hi:X.N[i]?=some n)(hn:X.env.scope.names.lookup n=some .local)
  (hg:Gl X c) (hm:X.mg c=some (.ref Ca)) (hst:X.stack=X.env::X.outer) (hL:X.env.frame=some X.env.locals) (hex:X.ex=[])
  (hb:∀xe pn,(∀σ,Li (CXe X.prog X.w) (X.body xe pn) σ (E σ))->PSs (X.body xe pn) body tb) (hs:∀ea pn,PSs (X.suite ea pn) (b₀::suite) ts) (hd:(c==("__debug__" : Str))=false:=by decide):
  PS X (.Try body [.ExceptHandler (some (.Name c np)) (some n) (b₀::suite) hpos] [] [] pos) (tTry X.K Ca i E tb ts):=by
 intro pins s σ H D I h
 obtain⟨hbody,hhand⟩:=h
 have hB:=hb (fun e s'=>∃pins' σ' H1 s1,Inv (X.body (fun _ _=>True) (X.pn++pins)) pins' σ' H1 s1/\CXe X.prog X.w X.stack H1 s1 (E σ') e s') (X.pn++pins) (fun σ pins' H s e s' I' hcx=>⟨pins',σ,H,s,I'.reBody,hcx⟩) [] s σ H D I.toBody hbody
 refine wpAny_Try_except (qL_ hB (fun f s1 q=>?_) fun e s1 q=>?_)
 ·cases f with
  |next=>obtain⟨σ1,H1,I1,q1⟩:=q;exact xs_ ⟨σ1,H1,I1.ofBody,q1⟩
  |brk=>obtain⟨σ1,H1,I1,q1⟩:=q;exact⟨σ1,H1,I1.ofBody,q1⟩
  |cont=>obtain⟨σ1,H1,I1,q1⟩:=q;exact⟨σ1,H1,I1.ofBody,q1⟩
  |ret v=>obtain⟨x1,σ1,H1,I1,r1,q1⟩:=q;exact⟨x1,σ1,H1,I1.ofBody,r1,q1⟩
 ·obtain⟨pins',σ',H1,s2,I2,ea,cls,a0,H',B,rfl,os,bare,fl,fw,hE⟩:=q
  obtain⟨C,rfl,hexm,hts⟩:=hhand σ' cls H' hE
  have I2':Inv X pins σ' H1 s2:=I2.ofBody
  have fr:X.A.frames=some (X.env::X.outer):=by rw[I.ok.frames,hst]
  have frees:=Lh I2' fl
  have fw0:=fw
  rw[hst]at fw
  have invAt:∀h',Heap.FlyingW B (X.env::X.outer) ea (.ref C) a0 h'->s1.heap.UpToSlots h'->Inv X pins σ' H' {s1 with heap:=h' }:=fun h' fw' ups=>by
   have fl2:=fl.move frees fw'.1 (fun b hb o e=>by
    obtain⟨_,o',ho',nf⟩:=fw0.2.2.1.mem hb
    rw[e]at ho';cases ho'
    exact ups b o e nf)
   exact I2'.call' (s':={s1 with heap:=h' }) os fl2.un fl2.hok bare (fun b hb=>by cases hb)
  refine wpAny_looks_onW fr hL fw fun h4 held4 up4=>?_
  refine wpAny_landsW held4 fun h5 fw5 up5=>?_
  have I5:=invAt h5 fw5 (up4.trans up5)
  have I5m:Inv (X.suite ea (X.pn++pins)) [] σ' H' {s1 with heap:=h5}:=I5.toSuite
  refine wpAny_handleBy_cons (codeAny_handlers_test (OH (X:=X.suite ea (X.pn++pins)) I5m hg hm ?_ hd)) (by intro q;cases q)
  have LT:PySem.W.Looks (model X.prog X.w) h5 (typeOf (.ref ea)) (.ref C):=by
   obtain⟨ob,hob,hoc⟩:=fw5.there
   exact hoc ▸ (PySem.W.Looks.ld hob).andThen .now
  refine (PySem.W.exm_one (K:=X.K) (M:=model X.prog X.w) I5.kIn LT hexm) _ _ _ _ (fun b o e=>e) ?_
  refine codeAny_handlers_suite_as ?_
  refine lands_againW fw5 fun h6 fw6 up6=>?_
  have I6:=invAt h6 fw6 ((up4.trans up5).trans up6)
  -- the exception's object is not tracked yet
  have hne:H' ea=none:=by
   cases q:H' ea with
   |none=>rfl
   |some u=>
    have nfs:ea∉frs X.stack:=fun z=>by rw[frees ea z]at q;cases q
    obtain⟨o,ho⟩:=(fl.hok ea u q).there
    have:=fl.cov ea o ho (.inl (by rw[q];simp)) nfs
    rw[fw.2.1]at this
    cases this
  have new:Bz X.prog X.w (upd H' ea (excO ea C)) h6 ea (excO ea C):=by
   obtain⟨ob,hob,hoc⟩:=fw6.there
   refine⟨⟨ob,hob,hoc⟩,⟨ob,hob⟩,fun g1 g2 ⟨o1,e1,c1⟩ k=>⟨o1,k o1 e1,c1⟩⟩
  have hsz:s2.heap.get? ea=none:=by
   cases q:s2.heap.get? ea with
   |none=>rfl
   |some o=>
    by_cases z:ea∈frs X.stack
    ·obtain⟨_,o',ho',nf⟩:=fw0.2.2.1.mem z
     obtain⟨oe,vs,hoe,_,hdt,_⟩:=fw.first
     rw[ho']at hoe;cases hoe
     exact absurd hdt (nf vs)
    ·obtain⟨o',e'⟩:=fl.un.there ea o q (by simp)
     have:=fl.cov ea o' e' (.inr ⟨o,q⟩) z
     rw[fw.2.1]at this
     cases this
  have I6t:Inv X pins σ' (upd H' ea (excO ea C)) {s1 with heap:=h6}:=by
   refine⟨I6.ok,I6.os,I6.bare,?_,I6.loc,I6.cell,?_,fun x c e=>?_,fun p hp=>?_,I6.hok.track hne new,I6.len⟩
   ·-- newer than the entry
    have h0:X.s₀.heap.get? ea=none:=by
     cases q:X.s₀.heap.get? ea with
     |none=>rfl
     |some o=>
      obtain⟨o',e'⟩:=I2'.base.there ea o q (by rw[hex];simp)
      rw[hsz]at e';cases e'
    refine⟨I6.base.keep,I6.base.slot,fun b o e n hx=>?_,I6.base.there,fun b xs q=>?_,fun b ob xs q=>?_,fun b ps q=>?_⟩
    ·rw[AD (fun z=>by rw[z,h0]at e;cases e)];exact I6.base.free b o e n hx
    ·have:=I6.base.tups b xs q;rw[AD (Bu this hne)];exact this
    ·have:=I6.base.frzs b ob xs q;rw[AD (Bu this hne)];exact this
    ·obtain⟨more,e⟩:=I6.base.tbls b ps q
     exact⟨more,by rw[AD (Bu e hne)];exact e⟩
   ·rw[AD (fun z=>?_)]
    ·exact I6.free
    ·have:=I2'.lt
     obtain⟨m,⟨o,_,_,ho,_⟩,_⟩:=I2'.loc
     rw[z,hsz]at ho;cases ho
   ·rw[AD (fun z=>?_)]
    ·exact I6.freeC x c e
    ·obtain⟨v,o,ho,_⟩:=I2'.cell x c e
     rw[z,hsz]at ho;cases ho
   ·obtain⟨e,n,r⟩:=I6.pin p hp
    refine⟨e,?_,r⟩
    rw[AD (fun z=>?_)]
    ·exact n
    ·have:=(I2'.pin p hp).1
     rw[z,hsz]at this;cases this
  have I6m:Inv (X.suite ea (X.pn++pins)) [] σ' (upd H' ea (excO ea C)) {s1 with heap:=h6}:=I6t.toSuite
  refine Oy (X:=X.suite ea (X.pn++pins)) I6m hN hi (.inl hn) (v:=.ref ea) rfl (fun s7 I7=>?_) (.inr hn)
  refine qL_ (hs ea (X.pn++pins) [] s7 _ _ (D.un i) I7 (hts ea hne)) (fun f s8 q8=>?_) (fun _ _ z=>False.elim z)
  have hcl:(X.env.scope.kind == .class||(X.env.scope.kind == .module&&X.env.locals != X.env.globals))=false:=by rw[I.ok.kind];rfl
  have goes:∀{σ8:St} {H8:Hp},Inv (X.suite ea (X.pn++pins)) [] σ8 H8 s8->∀(R:Unit->Shared->Prop),(∀s9,Inv X pins (σ8.set i none) H8 s9->R () s9) ->
    wpAny (model X.prog X.w) X.A (do bindName X.env n .none;unbindBehindTheSuite X.env n hpos) R X.xe s8:=fun {σ8 H8} I8 R hR=>by
   have I8':Inv X pins σ8 H8 s8:=I8.ofSuite I.ok.hd
   obtain⟨m,hns,hl⟩:=I8'.loc
   exact wpAny_nameGoes_keeps hn hns hcl fun h9 v hn9 sb=>hR _ (I8'.forget hN hi hn hl hns hn9 sb)
  cases f with
  |next=>obtain⟨σ8,H8,I8,q⟩:=q8;exact goes I8 _ fun s9 I9=>⟨_,H8,I9,q⟩
  |brk=>obtain⟨σ8,H8,I8,q⟩:=q8;exact goes I8 _ fun s9 I9=>⟨_,H8,I9,q⟩
  |cont=>obtain⟨σ8,H8,I8,q⟩:=q8;exact goes I8 _ fun s9 I9=>⟨_,H8,I9,q⟩
  |ret v=>obtain⟨x8,σ8,H8,I8,r8,q⟩:=q8;exact goes I8 _ fun s9 I9=>⟨x8,_,H8,I9,r8,q⟩
theorem VP  : Hi X (.builtin "isinstance") (fun xs H Q=>∃ea C c cv b,xs=[.ref ea,c]/\H ea=some (excO ea C)/\ExcCls X.K C/\(∀u,RelV c u->u=cv)/\kitOne X.K (.ref C) cv=some b/\Q (.bl b) H):=by
 intro pins s σ H xs us Q I r h
 obtain⟨ea,C,c,cv,b,rfl,hea,hC,hc,hk,q⟩:=h
 obtain⟨u,w',rfl,rx,rc⟩:=vals2 r
 rw[hc _ rc]
 cases rx
 obtain⟨p,_,_⟩:=(show Bz X.prog X.w H s.heap ea (.ext (SF ea C)) from I.hok ea _ hea)
 exact qn_ (CJ_ hC) I.kIn p hk (fun z=>nomatch z) fun tk=>⟨.bl b,H,I.tok tk,rfl,q⟩
end L2
namespace HT
open PySem PySem.Spec PyProof.Rows
open PySem.AutoSeq1 (wpAny_loadPart')
section
open PySem.SeqAt PySem.MeetsSeq PySem.MeetsSeq2 PySem.MeetsSeq3
theorem int_rmul_tup (a:Int)(t:Tok)(l:Addr)(items:Array Value)(n:Nat)(dd:Option Addr)(sl:Array (α5)):
  Meets (Builtin.«int.__rmul__» ⟨[.int a t,.ref l],[]⟩) (fun _ R s=>s.heap.get? l=some {cls:=.type "tuple",dict:=dd,data:=.seq items n,slots:=sl}/\R (.ok (.ret Value.notImplemented)) s):=
 .of_wp fun prog w A R s h=>by obtain⟨hp,g,d,tk,os⟩:=s;obtain⟨hl,h⟩:=h;wp_walk using qI_ hl;exact⟨_,rfl,h⟩
theorem noFill_tuple_mul:fillsNumberSlot (.type "tuple") "mul"=pure false:=by
 first|exact fillsNumberSlot_false (by decide +kernel)|(unfold fillsNumberSlot;kernel_rfl)|kernel_rfl
theorem repeat_tuple:seqRepeat? (.type "tuple")=pure (some (.builtin "tuple.__mul__")):=by
 unfold seqRepeat?
 rw[PySem.seqSlot_of (T := "tuple") (name := "__mul__") (id := "tuple.__mul__") zh_.lookup (by decide +kernel),PySem.seqSlot_of (T := "tuple") (name := "__rmul__") (id := "tuple.__rmul__") F.slot_tuple_rmul.lookup (by decide +kernel)]
 rfl
theorem tup_mul_one (l:Addr)(items:Array Value)(n:Nat)(dd:Option Addr)(sl:Array (α5))(u:Tok):
  Meets (Builtin.«tuple.__mul__» ⟨[.ref l,.int 1 u],[]⟩) (fun _ R s=>s.heap.get? l=some {cls:=.type "tuple",dict:=dd,data:=.seq items n,slots:=sl}/\R (.ok (.ret (Value.ref l))) s):=
 .of_wp fun prog w A R s h=>by
  obtain⟨hp,g,d,tk,os⟩:=s;obtain⟨hl,h⟩:=h
  have f1:=AutoSeq1.idx_int
  unfold Builtin.«tuple.__mul__»
  wp_walk using qI_ hl
  exact⟨_,rfl,h⟩
theorem tup_mul_none (l:Addr)(items:Array Value)(n:Nat)(dd:Option Addr)(sl:Array (α5))(x:Int)(u:Tok)(h0:¬ items.isEmpty=true)(h1:x<=0)(h2 : -(2 ^ 63)<=x):
  Meets (Builtin.«tuple.__mul__» ⟨[.ref l,.int x u],[]⟩) (fun _ R s=>s.heap.get? l=some {cls:=.type "tuple",dict:=dd,data:=.seq items n,slots:=sl}/\R (.ok (.ret (Value.ref s.heap.objs.size))) {s with heap:=s.heap.push {cls:=.type "tuple",data:=.seq #[]} }):=
 .of_wp fun prog w A R s h=>by
  obtain⟨hp,g,d,tk,os⟩:=s;obtain⟨hl,h⟩:=h
  have f1:=AutoSeq1.idx_int
  have c1:(decide (x < -(2 ^ 63:Int))||decide (x >= 2 ^ 63))=false:=by simp;lia
  have c2:(items.isEmpty||x==1)=false:=by simp at h0 ⊢;exact⟨h0,by lia⟩
  have c3:(decide (x<=0)||items.isEmpty)=true:=by simp[h1]
  unfold Builtin.«tuple.__mul__»
  wp_walk using qI_ hl
  rw[if_neg (by rw[c1];exact jo_)]
  wp_walk using qI_ hl
  rw[if_neg (by rw[c2];exact jo_)]
  rw[if_pos c3]
  wp_walk using qI_ hl
  exact⟨_,rfl,h⟩
theorem tup_mul_many (l:Addr)(items:Array Value)(n:Nat)(dd:Option Addr)(sl:Array (α5))(x:Int)(u:Tok)(h0:¬ items.isEmpty=true)(h1:1<x)(h2:x<2 ^ 63)(h3:items.size*x.toNat<=sizeLine):
  Meets (Builtin.«tuple.__mul__» ⟨[.ref l,.int x u],[]⟩) (fun _ R s=>s.heap.get? l=some {cls:=.type "tuple",dict:=dd,data:=.seq items n,slots:=sl}/\R (.ok (.ret (Value.ref s.heap.objs.size))) {s with heap:=s.heap.push {cls:=.type "tuple",data:=.seq ((List.replicate x.toNat items).foldl (· ++ ·) #[])} }):=
 .of_wp fun prog w A R s h=>by
  obtain⟨hp,g,d,tk,os⟩:=s;obtain⟨hl,h⟩:=h
  have f1:=AutoSeq1.idx_int
  have hs:sizeLine=16777216:=sizeLine_eq
  have c1:(decide (x < -(2 ^ 63:Int))||decide (x >= 2 ^ 63))=false:=by simp;lia
  have c2:(items.isEmpty||x==1)=false:=by simp at h0 ⊢;exact⟨h0,by lia⟩
  have c3:(decide (x<=0)||items.isEmpty)=false:=by simp at h0 ⊢;exact⟨by lia,h0⟩
  obtain⟨k,rfl⟩:∃k:Nat,x=(k:Int):=⟨x.toNat,by lia⟩
  have c4:¬ ((items.size:Int)*(k:Int) > (2 ^ 63-1) / 8):=by
   rw[jA_]at h3
   have:((items.size*k:Nat):Int)=(items.size:Int)*(k:Int):=by push_cast;rfl
   lia
  have c5:Builtin.Tuple.tupleTooMany ((items.size:Int)*(k:Int))=false:=by
   unfold Builtin.Tuple.tupleTooMany
   rw[jA_]at h3
   have:((items.size*k:Nat):Int)=(items.size:Int)*(k:Int):=by push_cast;rfl
   simp
   lia
  unfold Builtin.«tuple.__mul__»
  wp_walk using qI_ hl
  rw[if_neg (by rw[c1];exact jo_)]
  wp_walk using qI_ hl
  rw[if_neg (by rw[c2];exact jo_)]
  rw[if_neg (by rw[c3];exact jo_),if_neg c4,if_neg (by rw[c5];exact jo_)]
  wp_walk using qI_ hl
  have hz:¬ (List.foldl (fun x1 x2=>x1++x2) #[] (List.replicate ((k:Int)).toNat items)).size > sizeLine:=by
   have:=L2.foldl_rep items.toList k []
   rw[xQ_]at this
   have e:items.toList.toArray=items:=by simp
   rw[e]at this
   rw[jA_,this,jl_,L2.len_rep]
   rw[jA_]at h3
   rw[qK_,Nat.mul_comm]
   lia
  rw[if_neg hz]
  wp_walk using qI_ hl
  exact⟨_,rfl,h⟩
end
end HT
namespace L2
open PySem PySem.Spec PyProof.Rows
section
variable {X:Cx}
noncomputable def OT (K:α3):R2:=fun x y H Q=>∃l k xs,x=.ref l/\y=.int k/\SqT K H l xs/\xs ≠ [] /\ -(2 ^ 63)<=k/\k<2 ^ 63/\xs.length*k.toNat<=sizeLine /\
 (k=1->Q (.ref l) H)/\(k≠1->∀p,H p=none->Q (.ref p) (upd H p (.tup (List.replicate k.toNat xs).flatten)))
theorem Jc:OpR X (binaryOp .Mult) (OT X.K):=by
 intro pins s σ H x y v u Q I rx ry h
 obtain⟨l,k,xs,rfl,rfl,hq,hne,h1,h2,hz,q1,q2⟩:=h
 cases rx
 obtain⟨t,rfl⟩:=ry
 obtain⟨its,r,p1,_⟩:=I.tuple hq
 have hlen:=r.length
 have hn':¬ its.toArray.isEmpty=true:=by
  intro z
  have:its=[]:=by simpa using z
  exact hne (r.nil_iff.mp this)
 obtain⟨⟨cls,dd,data,sl⟩,ho,hc,n,hd⟩:=id p1
 simp only at hc hd
 subst hc hd
 refine wpAny_binaryOp_repeat_ref (T := "tuple") (U := "int") (by decide) ⟨_,ho,rfl⟩ (fun s'=>typeIs_int s' k t) HT.noFill_tuple_mul F.fills_int_mul zr_ HT.repeat_tuple F.slot_int_index.lookup
  (xK_ zr_ (typeIs_int s k t) F.entry_int_rmul (F.args_int_rmul_2 _ _) (HT.int_rmul_tup k t l its.toArray n dd sl) ⟨ho,rfl,⟨_,ho,rfl⟩,?_⟩)
 by_cases k1:k=1
 ·subst k1
  exact xK_ zh_ ⟨_,ho,rfl⟩ F.entry_tuple_mul (F.args_tuple_mul_2 _ _) (HT.tup_mul_one l its.toArray n dd sl t) ⟨ho,⟨.ref l,H,I,rfl,q1 rfl⟩⟩
 ·have fin:∀(ys:List Value),Vals (List.replicate k.toNat xs).flatten ys->EP X pins σ Q (.ref s.heap.objs.size) {s with heap:=s.heap.push {cls:=.type "tuple",data:=.seq ys.toArray} }:=fun ys rv=>
   ⟨.ref s.heap.objs.size,_,I.laid (t':=s.toks) (o:=.tup (List.replicate k.toNat xs).flatten) (fun b ob q=>jm_ _ q) (jf_ _) ⟨by rw[len_rep,Nat.mul_comm];exact hz,_,rv,IsTup.new _ _⟩,rfl,q2 k1 _ (I.hok.fresh (jf_ _))⟩
  by_cases k0:k<=0
  ·refine xK_ zh_ ⟨_,ho,rfl⟩ F.entry_tuple_mul (F.args_tuple_mul_2 _ _) (HT.tup_mul_none l its.toArray n dd sl k t hn' k0 h1) ⟨ho,?_⟩
   exact fin [] (by rw[show k.toNat=0 by lia];exact .nil)
  ·refine xK_ zh_ ⟨_,ho,rfl⟩ F.entry_tuple_mul (F.args_tuple_mul_2 _ _) (HT.tup_mul_many l its.toArray n dd sl k t hn' s!"" h2 (by rw[jl_,<-hlen];exact hz)) ⟨ho,?_⟩
   have e:=foldl_rep its k.toNat []
   rw[xQ_]at e
   have e':List.foldl (fun x1 x2=>x1++x2) #[] (List.replicate k.toNat its.toArray)=(List.replicate k.toNat its).flatten.toArray:=e
   rw[e']
   exact fin _ (r.rep k.toNat)
noncomputable def CF (K:α3):R2:=fun x y H Q=>∃a b xs ys,x=.ref a/\y=.ref b/\SqT K H a xs/\SqT K H b ys/\xs.length+ys.length<=sizeLine /\
 (xs=[]->Q (.ref b) H)/\(xs ≠ []->ys=[]->Q (.ref a) H)/\(xs ≠ []->ys ≠ []->∀p,H p=none->Q (.ref p) (upd H p (.tup (xs++ys))))
theorem B6:OpR X (binaryOp .Add) (CF X.K):=by
 intro pins s σ H x y v u Q I rx ry h
 obtain⟨a,b,xs,ys,rfl,rfl,ha,hb,hz,q0,q1,q2⟩:=h
 by_cases hx:xs=[]
 ·subst hx
  cases rx
  cases ry
  obtain⟨its,r1,p1,_⟩:=I.tuple ha
  obtain⟨its2,r2,p2,_⟩:=I.tuple hb
  have:its=[]:=r1.nil_iff.mpr rfl
  subst this
  obtain⟨⟨cls,dd,data,sl⟩,ho,hc,n,hd⟩:=id p1
  obtain⟨⟨cls2,dd2,data2,sl2⟩,ho2,hc2,n2,hd2⟩:=id p2
  simp only at hc hd hc2 hd2
  subst hc hd hc2 hd2
  exact concat_meets ⟨_,ho,rfl⟩ ⟨_,ho2,rfl⟩ noFill_tuple_add seq_tuple_add xZ_ xO_ (xJ_ _ _)
   (PyProof.Rows.tuple_addW0 a b _ _ n n2 dd dd2 sl sl2 rfl) ⟨ho,ho2,⟨.ref b,H,I,rfl,q0 rfl⟩⟩
 ·exact Fi_ pins s σ H _ _ v u Q I rx ry ⟨a,b,xs,ys,rfl,rfl,ha,hb,hx,hz,q1 hx,q2 hx⟩
end
theorem Bf_      (Pv:Nat->St->Hp->Prop)(h0:∃m,Pv m σ H)
  (hs:∀m σ H,Pv m σ H->c σ H fun b H1=>if b=true then ∃N:St->Hp->Prop,(∀σ' H',N σ' H'->∃m',m'<m/\Pv m' σ' H')/\tb {D with nx:=N,ct:=N,bk:=D.nx} σ H1 else D.nx σ H1):DK_ c tb D σ H:=⟨Pv,h0,hs⟩
section
variable {K:α3} {H:Hp} {Q:VK}
theorem OT.of    (hq:SqT K H l xs)(hne:xs ≠ [])(h1 : -(2 ^ 63)<=k)(h2:k<2 ^ 63)(hz:xs.length*k.toNat<=sizeLine)(h:∀p H',Same H H'->SqT K H' p (List.replicate k.toNat xs).flatten->Q (.ref p) H'):OT K (.ref l) (.int k) H Q:=by
 refine⟨l,k,xs,rfl,rfl,hq,hne,h1,h2,hz,fun e=>?_,fun _ p hp=>h p _ (Same.new hp) (SqT.of Ac)⟩
 subst e
 exact h l H (Same.refl _) (by simpa using hq)
theorem CF.of   (ha:SqT K H a xs)(hb:SqT K H b ys)(hz:xs.length+ys.length<=sizeLine)(h:∀p H',Same H H'->SqT K H' p (xs++ys)->Q (.ref p) H'):CF K (.ref a) (.ref b) H Q:=by
 refine⟨a,b,xs,ys,rfl,rfl,ha,hb,hz,fun e=>?_,fun _ e=>?_,fun _ _ p hp=>h p _ (Same.new hp) (SqT.of Ac)⟩
 ·subst e;exact h b H (Same.refl _) (by simpa using hb)
 ·subst e;exact h a H (Same.refl _) (by simpa using ha)
end
theorem Hl_ {K:α3}    {lo hi:Option Int}:rSlT K x lo hi H Q=∃a xs,x=.ref a/\SqT K H a xs /\
 ¬ (HT.sIx xs.length 0 lo=0/\HT.sIx xs.length xs.length hi=xs.length)/\∀p,H p=none->Q (.ref p) (upd H p (.tup (cutV xs lo hi))):=rfl
inductive TyW (K:α3)(H:Hp):V->Value->Prop where
 | non:TyW K H .non (.type "NoneType")
 | bl (x:Bool):TyW K H (.bl x) (.type "bool")
 | int (i:Int):TyW K H (.int i) (.type "int")
 | str (x:Str):TyW K H (.str x) (.type "str")
 | lst {a:Addr} {xs:List V} (e:SqL K H a xs):TyW K H (.ref a) (.type "list")
 | tup {a:Addr} {xs:List V} (e:SqT K H a xs):TyW K H (.ref a) (.type "tuple")
 | exc {a C:Addr} (e:H a=some (excO a C)) (c:ExcCls K C):TyW K H (.ref a) (.ref C)
theorem Ez  : Hi X (.builtin "isinstance") (fun xs H Q=>∃x c cv t b,xs=[x,c]/\TyW X.K H x t/\(∀u,RelV c u->u=cv)/\kitOne X.K t cv=some b/\Q (.bl b) H):=by
 intro pins s σ H xs us Q I r h
 obtain⟨x,c,cv,t,b,rfl,ty,hc,hk,q⟩:=h
 cases ty with
 |non=>exact HU pins s σ H _ us Q I r ⟨_,c,cv,_,b,rfl,.non,hc,hk,q⟩
 |bl y=>exact HU pins s σ H _ us Q I r ⟨_,c,cv,_,b,rfl,.bl y,hc,hk,q⟩
 |int y=>exact HU pins s σ H _ us Q I r ⟨_,c,cv,_,b,rfl,.int y,hc,hk,q⟩
 |str y=>exact HU pins s σ H _ us Q I r ⟨_,c,cv,_,b,rfl,.str y,hc,hk,q⟩
 |exc e hC=>exact VP pins s σ H _ us Q I r ⟨_,_,c,cv,b,rfl,e,hC,hc,hk,q⟩
 |@lst a xs e=>
  obtain⟨u,w',rfl,rx,rc⟩:=vals2 r
  rw[hc _ rc]
  cases rx
  obtain⟨its,_,pl,_⟩:=I.list e
  obtain⟨o,ho,hcl,_⟩:=pl.isList
  exact qn_ zz_ I.kIn ⟨o,ho,hcl⟩ hk (fun z=>nomatch z) fun tk=>⟨.bl b,H,I.tok tk,rfl,q⟩
 |@tup a xs e=>
  obtain⟨u,w',rfl,rx,rc⟩:=vals2 r
  rw[hc _ rc]
  cases rx
  obtain⟨its,_,⟨o,ho,hcl,_⟩,_⟩:=I.tuple e
  exact qn_ PySem.W.kitx_tuple I.kIn ⟨o,ho,hcl⟩ hk (fun z=>nomatch z) fun tk=>⟨.bl b,H,I.tok tk,rfl,q⟩
end L2
namespace GW
noncomputable def DJ (L:Int):α2->Int
 |[]=>0
 |x::r=>DJ L r*L+x+1
noncomputable def BE (L:Int)(w:α2):Int:=DJ L w.reverse
noncomputable def inW (L x:Int):Bool:=decide (0<=x)&&decide (x<L)
noncomputable def isW (L:Int)(ws:α2):Bool:=ws.all (inW L)
theorem Fv_  : inW L x=true↔0<=x/\x<L:=by simp[inW]
theorem Bo   : isW L ws=true ↔ ∀x∈ws,0<=x/\x<L:=by simp[isW,Fv_]
theorem VQ (L:Int):BE L []=0:=rfl
noncomputable def many (L:Int):Nat->Int
 |0=>0
 |k+1=>many L k*L+1
theorem Gx {L:Int}(hL:0<L):∀k,0<=many L k
 |0=>x3_ _
 |k+1=>by
  have:=x8_ (Gx hL k) (xi_ hL)
  show 0<=many L k*L+1
  lia
theorem Gh {L:Int}(hL:0<L):∀{l:α2},(∀x∈l,0<=x/\x<L)->many L l.length<=DJ L l/\DJ L l<many L (l.length+1)
 |[],_=>by simp[DJ,many]
 |x::r,h=>by
  have hx:=h x jC_
  obtain⟨h1,h2⟩:=Gh hL (l:=r) fun y hy=>h y (jt_ _ hy)
  show many L r.length*L+1<=DJ L r*L+x+1/\DJ L r*L+x+1<many L (r.length+1)*L+1
  have a1:=j1_ h1 (xi_ hL)
  have a2:=j1_ (show DJ L r+1<=many L (r.length+1) by lia) (xi_ hL)
  rw[x4_]at a2
  lia
theorem NA  (hL:0<L)  (h:isW L w=true):many L w.length<=BE L w/\BE L w<many L (w.length+1):=by
 have:=Gh hL (l:=w.reverse) (fun x hx=>Bo.mp h x (List.mem_reverse.mp hx))
 rw[List.length_reverse]at this
 exact this
theorem VR  (hL:0<L)  (h:j<=k):many L j<=many L k:=by
 induction h with
 |refl=>exact x3_ _
 |step _ ih=>
  rename_i m _
  refine Int.le_trans ih ?_
  show many L m<=many L m*L+1
  have:many L m*1<=many L m*L:=Int.mul_le_mul_of_nonneg_left s!"" (Gx hL m)
  lia
theorem RT  (hL:0<L)  (h:isW L w=true)(k:Nat):w.length<=k↔BE L w<many L (k+1):=by
 obtain⟨h1,h2⟩:=NA hL h
 constructor
 ·intro hk
  exact Int.lt_of_lt_of_le h2 (VR hL s!"")
 ·intro hp
  refine xE_ fun hk=>?_
  have:=VR hL (show k+1<=w.length from hk)
  lia
theorem Du (L:Int)(w:α2)(x:Int):BE L (w++[x])=BE L w*L+x+1:=by
 unfold BE
 rw[List.reverse_append];rfl
end GW
namespace L2
open PySem PySem.Spec PyProof.Rows
theorem boot_ValueError:bootBuiltins "ValueError"=some (.type "ValueError"):=by decide +kernel
section
variable {P:Program} {w:World} {K:α3} {mg:Str->α5} {base:Heap}
theorem Fun.okE  {st:Stmt}      (F:Fun K x qual st f fd)(S:FnScope N ps (Af st))(len:∀vs H Q E,sp vs H Q E->vs.length=ps.length)
  (hbody:∀(cdv:Value) (A:Around) (outer:List Env) (s:Shared) (H:Hp) (vs:List V) (Q:VK) (E:XK),Room k (A.deeper (envOfC qual (Af st) s.heap.objs.size f cdv))->sp vs H Q E ->
   ∃t,PSs (cxOf (CXe P w) P w K mg base N qual (Af st) f cdv A outer s H E) (Av st) t/\t {nx:=fun _ H'=>Q .non H',rt:=Q} (start N vs) H):FnOk P w K mg base (CXe P w) (k+1) f fd ps sp:=by
 obtain⟨oc,od,kV,doc,pm,an,cdv,ct,osl,rfl,lk,hcd⟩:=F.ex
 exact GD_ lk hcd S len fun A outer s H vs Q E hr hsp=>hbody cdv A outer s H vs Q E hr hsp
theorem Jd  : VB (CXe P w) X E0:=fun _ _ _ _ _ _ _ h=>by
 obtain⟨_,_,_,_,_,_,_,_,_,_,q⟩:=h
 exact q.elim
end
section
variable {te ta tb:TE} {A:TA} {D:Ends} {σ:St} {H:Hp} {Q:VK} {K:α3} {tbd ts:TS}
theorem Hm_  : rCat x y H Q=∃l b xs zs,x=.ref l/\y=.ref b/\H l=some (.lst xs)/\H b=some (.lst zs)/\xs.length+zs.length<=sizeLine/\∀p,H p=none->Q (.ref p) (upd H p (.lst (xs++zs))):=rfl
theorem Hn_  : rRep x y H Q=∃l k xs,x=.ref l/\y=.int k/\H l=some (.lst xs) /\ -(2 ^ 63)<=k/\k<2 ^ 63/\xs.length*k.toNat<=sizeLine/\∀p,H p=none->Q (.ref p) (upd H p (.lst (List.replicate k.toNat xs).flatten)):=rfl
theorem Bg_   : Ee_ C E A D σ H=A σ H fun vs H1=>vs.length<=sizeLine/\E (.ref C) none H1:=rfl
theorem Ho_    : tTry K Ca i E tbd ts D σ H=(tbd D σ H/\∀σ' cls H',E σ' cls none H' ->
 ∃C,cls=.ref C/\exmOne K (.ref C) (.ref Ca)=some true/\∀ea,H' ea=none->ts (D.un i) (σ'.set i (some (.ref ea))) (upd H' ea (excO ea C))):=rfl
theorem Ef_  : (Ends.un D i).nx σ H=D.nx (σ.set i none) H:=rfl
theorem Eg_   : (Ends.un D i).rt v H=D.rt v H:=rfl
end
end L2
namespace L2
open PySem PySem.Spec PyProof.Rows
theorem Fw_ (x y:Int):eqV (.int x) (.int y)=decide (V.int x=V.int y):=by
 by_cases h:x=y
 ·subst h;simp[eqV]
 ·rw[qj_ (fun z=>h (by injection z))];simp[eqV,h]
theorem EqD.ints {K:α3}{H:Hp}{a c:Addr}{xs ys:α2}(hq:(SqL K H a (xs.map V.int)/\SqL K H c (ys.map V.int))\/(SqT K H a (xs.map V.int)/\SqT K H c (ys.map V.int)))(n:Nat):EqD K H (n+1) (.ref a) (.ref c) (decide (xs=ys)):=by
 have:=EqD.flat hq (fun x hx=>by obtain⟨_,_,rfl⟩:=Lf hx;rfl) (fun x hx=>by obtain⟨_,_,rfl⟩:=Lf hx;rfl) (fun x hx y hy=>by obtain⟨_,_,rfl⟩:=Lf hx;obtain⟨_,_,rfl⟩:=Lf hy;exact Fw_ _ _) n
 have e:decide (xs.map V.int=ys.map V.int)=decide (xs=ys):=by
  rw[xe_]
  simp only[q4_]
  constructor
  ·intro h
   exact (List.map_inj_right (fun a b h=>by injection h)).mp h
  ·intro h;rw[h]
 rw[e]at this
 exact this
end L2
namespace L2
open PySem PySem.Spec PyProof.Rows
noncomputable def iSeq (K:α3)(tl:TE):TI:=fun σ H R=>tl σ H fun x H1=>∃a,x=.ref a/\(((∃xs,SqL K H1 a xs)/\R (Itl K a) H1)\/((∃xs,SqT K H1 a xs)/\R (Itt K a) H1))
theorem Eh_ {K:α3}     : iSeq K te σ H Z=te σ H fun x H1=>∃a,x=.ref a/\(((∃xs,SqL K H1 a xs)/\Z (Itl K a) H1)\/((∃xs,SqT K H1 a xs)/\Z (Itt K a) H1)):=rfl
theorem Bh_    (hl:PE X l tl):PI X tg l (iSeq X.K tl):=by
 intro pins s σ H R I h
 refine thn (hl pins s σ H _ I h) fun v s1 ⟨x,H1,I1,r1,q1⟩=>?_
 obtain⟨a,e,q⟩:=q1
 subst e
 cases r1
 rcases q with ⟨⟨xs,hq⟩,q⟩|⟨⟨xs,hq⟩,q⟩
 ·obtain⟨its,rv,p,hz⟩:=I1.list hq
  refine x2_ p.isList ?_
  refine⟨s1.heap.objs.size,[s1.heap.objs.size],_,_,H1,rfl,I1.kept (t':=s1.toks) fun b o e=>jm_ _ e,Vz a _,⟨_,jy_ _ rfl,rfl,rfl⟩,fun b hb=>?_,q⟩
  have e:b=s1.heap.objs.size:=by simpa using hb
  subst e
  exact I1.fpOk (jf_ _) (I1.hok.fresh (jf_ _))
 ·obtain⟨its,rv,p,hz⟩:=I1.tuple hq
  refine xp_ (show s1.heap.IsTuple a its.toArray from p) ?_
  refine⟨s1.heap.objs.size,[s1.heap.objs.size],_,_,H1,rfl,I1.kept (t':=s1.toks) fun b o e=>jm_ _ e,RL a _,⟨_,jy_ _ rfl,rfl,rfl⟩,fun b hb=>?_,q⟩
  have e:b=s1.heap.objs.size:=by simpa using hb
  subst e
  exact I1.fpOk (jf_ _) (I1.hok.fresh (jf_ _))
end L2
namespace GW
theorem Bi_  (hL:0<L):∀{xs ys:α2},isW L xs=true->isW L ys=true->BE L xs=BE L ys->xs=ys:=by
 have key:∀{l m:α2},(∀x∈l,0<=x/\x<L)->(∀x∈m,0<=x/\x<L)->DJ L l=DJ L m->l=m:=by
  intro l
  induction l with
  |nil=>
   intro m _ hm h
   cases m with
   |nil=>rfl
   |cons y s=>
    have hy:=hm y jC_
    have:=(Gh hL (l:=s) fun z hz=>hm z (jt_ _ hz)).1
    have h0:=Gx hL s.length
    have hp:=x8_ (show 0<=DJ L s by lia) (xi_ hL)
    have h':(0:Int)=DJ L s*L+y+1:=h
    lia
  |cons x r ih=>
   intro m hl hm h
   have hx:=hl x jC_
   cases m with
   |nil=>
    have:=(Gh hL (l:=r) fun z hz=>hl z (jt_ _ hz)).1
    have h0:=Gx hL r.length
    have hp:=x8_ (show 0<=DJ L r by lia) (xi_ hL)
    have h':DJ L r*L+x+1=(0:Int):=h
    lia
   |cons y s=>
    have hy:=hm y jC_
    have h':DJ L r*L+x+1=DJ L s*L+y+1:=h
    have e1:DJ L r=DJ L s:=by
     rcases Int.lt_trichotomy (DJ L r) (DJ L s) with hlt|he|hlt
     ·have:=j1_ (show DJ L r+1<=DJ L s by lia) (xi_ hL)
      rw[x4_]at this;lia
     ·exact he
     ·have:=j1_ (show DJ L s+1<=DJ L r by lia) (xi_ hL)
      rw[x4_]at this;lia
    rw[e1]at h'
    rw[ih (fun z hz=>hl z (jt_ _ hz)) (fun z hz=>hm z (jt_ _ hz)) e1,show x=y by lia]
 intro xs ys hx hy h
 have:=key (l:=xs.reverse) (m:=ys.reverse) (fun x h=>Bo.mp hx x (List.mem_reverse.mp h)) (fun x h=>Bo.mp hy x (List.mem_reverse.mp h)) h
 exact List.reverse_inj.mp this
end GW
namespace L2
open PySem PySem.Spec PyProof.Rows
theorem NB  {K:α3}(hK:X.K=K):Hi X (.builtin "isinstance") (fun xs H Q=>∃x c cv t b,xs=[x,c]/\TyW K H x t/\(∀u,RelV c u->u=cv)/\kitOne K t cv=some b/\Q (.bl b) H):=by
 subst hK
 exact Ez
section
variable {X:Cx} {K:α3}
theorem Fv (h:X.K=K):IxR X (rIxT K):=by subst h;exact Am
theorem Yj (h:X.K=K):IxR X (rIxL K):=by subst h;exact BM
end
end L2
namespace GW
noncomputable def Hp_ (ways:α1)(r x:Int):Int:=(ways.getD r.toNat []).getD x.toNat 0
end GW
namespace L2
open PySem PySem.Spec PyProof.Rows GW
theorem Bj_    (h:xs[xs.length-1]?=some v):atI xs (-1)=some v:=by
 have hlt:=(jd_.mp h).1
 unfold atI ixN
 rw[if_neg s!"",if_pos s!""]
 show xs[(-1+(xs.length:Int)).toNat]?=some v
 rw[show (-1+(xs.length:Int)).toNat=xs.length-1 by lia]
 exact h
theorem Gy {ns:α2}{i:Int}{v:Int}(h0:0<=i)(h:ns[i.toNat]?=some v):atI (ns.map V.int) i=some (V.int v):=Hi_ h0 (by rw[jh_,h];rfl)
theorem AV {K:α3}    (hp:H p=some (.lst zs))(h:SqT K H t xs):SqT K (upd H p (.lst ys)) t xs:=by
 rcases h with (q|⟨o,q⟩)|q
 ·refine .inl (.inl ?_)
  rw[AD (fun z=>by rw[z,hp]at q;cases q)];exact q
 ·refine .inl (.inr ⟨o,?_⟩)
  rw[AD (fun z=>by rw[z,hp]at q;cases q)];exact q
 ·exact .inr q
end L2
namespace PySem
open Sem (wp)
open AutoSeq1 (wpAny_loadPart')
section
variable {prog:Program} {w:World} {A:Around} {E:Value->Shared->Prop} {s:Shared}
theorem newT   (hl:l.length<=sizeLine)(h:∀h',s.heap.push {cls:=.type "tuple",data:=.seq l.toArray}=h'->Q (.ref s.heap.objs.size) {s with heap:=h' }):wpAny (model prog w) A (newTuple l) Q E s:=wpAny_newTuple (h _ rfl)
theorem psh {h h':Heap}{o:Obj}(q:h.push o=h')(ho:o.isFreed=false):(∀c u,h.get? c=some u->h'.get? c=some u)/\h'.get? h.objs.size=some o/\h'.objs.size=h.objs.size+1:=by
 subst q
 exact⟨fun c u x=>jm_ _ x,jy_ _ ho,qH_ ..⟩
theorem Mq {it l:Addr}    (hit:s.heap.IsTupleIter it l i)(hl:s.heap.IsTuple l items)
  (hQ:∀x h',items[i]?=some x->h'.IsTupleIter it l (i+1)->Heap.SameBut it s.heap h'->Q x {s with heap:=h' })
  (hE:items[i]?=none->A.handled=none/\∀h' e,Heap.ExtBut it s.heap h'->(∃o,h'.get? e=some o/\o.cls=.type "StopIteration")->E (.ref e) {s with heap:=h' }):wpAny (model prog w) A (Builtin.SmallTypes.nextOf (.ref it)) Q E s:=by
 obtain⟨⟨c,dc,da,sl⟩,ho,hc,hd⟩:=id hit
 obtain⟨⟨c',dc',da',sl'⟩,hol,hc',nl,hdl⟩:=hl
 replace hc:c=_:=hc;replace hd:da=_:=hd;replace hc':c'=_:=hc';replace hdl:da'=_:=hdl
 subst hc hd hc' hdl
 have e1:=F.slot_tuple_iterator_next
 unfold Builtin.SmallTypes.nextOf
 refine je_ (qB_ hit.typeIs e1 (qy_ e1 hit.typeIs F.entry_tuple_iterator_next ?_ (F.args_tuple_iterator_next_1 _)))
 wp_walk
 cases hx:items[i]? with
 |some x=>
  simp only[jA_,hx]
  wp_walk
  exact⟨x,rfl,js_ (hQ x _ hx ⟨_,xt_ _ ho (by simp[Obj.mapFields,Obj.isFreed]),rfl,by simp[Obj.mapFields,rawInt]⟩ (xH_ ..))⟩
 |none=>
  obtain⟨hh,hE⟩:=hE hx
  have h1:A.in1.handled=none:=hh
  simp only[jA_,hx]
  wp_walk
  unfold raiseNew
  wp_walk
  exact hE _ _ (((xH_ ..).extBut.push _).push _) ⟨_,jy_ _ rfl,rfl⟩
theorem Draws.tuple (hh:A.handled=none)(it l:Addr)(hne:l≠it)(items:Array Value):
  Draws prog w A it [it,l] items.size (fun i v=>items[i]?=some v) (fun i h=>h.IsTupleIter it l i/\h.IsTuple l items) where
 live:=fun _ _ st=>let ⟨o,e,_⟩:=st.1;⟨o,e⟩
 frame:=fun _ _ _ st k=>⟨st.1.at fun o e=>k it (by simp) o e,let ⟨o,e,r⟩:=st.2;⟨o,k l (by simp) o e,r⟩⟩
 item:=fun i t Q E hi st q=>Mq st.1 st.2 (fun x h' e1 e2 e3=>q x h' t.toks e1 ⟨e2,st.2.extBut e3.extBut hne⟩ e3) fun z=>by rw[Array.getElem?_eq_none_iff]at z;lia
 done:=fun t Q E st q=>Mq st.1 st.2 (fun x h' e1=>by have:=(qG_.mp e1).1;lia) fun _=>⟨hh,q⟩
theorem Kd    (hL:s.heap.IsTuple l items)
  (h:∀h',IsEnum h' (s.heap.objs.size+1) s.heap.objs.size 0 .none->h'.IsTupleIter s.heap.objs.size l 0->h'.objs.size=s.heap.objs.size+2->(∀b o,s.heap.get? b=some o->h'.get? b=some o)->Q (.ref (s.heap.objs.size+1)) {s with heap:=h' }):
  wpAny (model prog w) A (call (.type "enumerate") [.ref l]) Q E s:=by
 have M:Meets (Builtin.«enumerate.__new__» ⟨[.type "enumerate",.ref l],[]⟩) fun _ R t=>t.heap.IsTuple l items/\∀h',IsEnum h' (t.heap.objs.size+1) t.heap.objs.size 0 .none->h'.IsTupleIter t.heap.objs.size l 0->h'.objs.size=t.heap.objs.size+2->(∀b o,t.heap.get? b=some o->h'.get? b=some o)->R (.ok (.ret (.ref (t.heap.objs.size+1)))) {t with heap:=h' }:=.of_wp fun prog w A R t ⟨hl,q⟩=>by
  have hsub:=sub_enumerate
  obtain⟨hp,g,d,tk,os⟩:=t
  obtain⟨⟨c,dc,da,sl⟩,e1,hc,n,hd⟩:=id hl
  have fin:∀f,f=Fin.done (.ret (.ref (hp.push {cls:=.type "tuple_iterator",data:=.fields #[.ref l,.int 0 0]}).objs.size))->∃x,f=.done (.ret x)/\R (.ok (.ret x)) ⟨(hp.push {cls:=.type "tuple_iterator",data:=.fields #[.ref l,.int 0 0]}).push {cls:=.type "enumerate",data:=.fields #[.none,.bool false,.ref hp.objs.size,rawInt 0,.none,.none]},g,d,tk,os⟩:=fun f hf=>by
   have z:=qH_ hp {cls:=.type "tuple_iterator",data:=.fields #[.ref l,.int 0 0]}
   rw[z]at hf
   have y:=jy_ (hp.push {cls:=.type "tuple_iterator",data:=.fields #[.ref l,.int 0 0]}) (o:={cls:=.type "enumerate",data:=.fields #[.none,.bool false,.ref hp.objs.size,rawInt 0,.none,.none]}) rfl
   rw[z]at y
   exact⟨_,hf,q _ y ⟨_,jm_ _ (jy_ _ rfl),rfl,rfl⟩ (by rw[qH_,z]) fun b o x=>jm_ _ (jm_ _ x)⟩
  wp_walk using xM_ e1
  refine wpAny_stack_any fun st=>js_ ?_
  split
  ·rename_i c _ _ _ _ _
   cases (c==Value.type "enumerate")<;>(wp_walk using xM_ e1,xp_ hl;exact fin _ rfl)
  ·wp_walk using xM_ e1,xp_ hl
   exact fin _ rfl
 exact callType_new F.called_enumerate (by decide) (F.typeCall_enumerate_1 _) (F.newCall_enumerate_1 _) (fun obj=>F.args_object_init_2 obj _) F.entry_enumerate_new M ⟨hL,fun h' a b c d=>⟨⟨_,a,rfl⟩,h h' a b c d⟩⟩
end
end PySem
namespace L2
open PySem PySem.Spec PyProof.Rows
section
variable {X:Cx} {pins:α7} {σ:St} {H:Hp} {s:Shared}
theorem Inv.un2  {e it:Addr}(I:Inv X pins σ H s)(k:∀b o,b≠e->b≠it->s.heap.get? b=some o->h'.get? b=some o)(f1:FpOk X pins H e)(f2:FpOk X pins H it):Un (frs X.stack) [e,it] H H s.heap h'/\HOk X.prog X.w H h':=by
 have ne:∀b u,H b=some u->b≠e/\b≠it:=fun b u q=>⟨(fun z=>by rw[z,f1.1]at q;cases q),(fun z=>by rw[z,f2.1]at q;cases q)⟩
 have nch:∀{b:Addr},b ∉ [e,it]->b≠e/\b≠it:=fun hb=>by simpa using hb
 refine⟨⟨fun b o q _ _ hb=>k b o (nch hb).1 (nch hb).2 q,fun b o q _ _ hb=>⟨o.slots,k b o (nch hb).1 (nch hb).2 q⟩,fun _ _ _ n _=>n,fun b o q hb=>⟨o,k b o (nch hb).1 (nch hb).2 q⟩,fun _ _ q=>q,fun _ _ _ q=>q,fun b ps q=>⟨#[],by rw[q];simp⟩⟩,fun b u q=>?_⟩
 refine (I.hok b u q).stay (fun c v hc qv=>?_) (fun _ q=>q) fun _ _ q=>q
 have hne:c≠e/\c≠it:=by
  rcases hc with rfl|hc
  ·exact ne _ _ q
  ·exact ne _ _ hc
 exact k c v hne.1 hne.2 qv
theorem FpOk.ch  (f:FpOk X pins H b):(b∈X.ex\/X.s₀.heap.objs.size<=b)/\b≠X.env.locals/\(∀x c,X.env.cells.lookup x=some c->c≠b)/\∀p∈X.pn++pins,p.1≠b:=⟨f.2.2.2.1,f.2.1,f.2.2.2.2.1,f.2.2.2.2.2⟩
end
noncomputable def Itn (K:α3)(a:Addr)(xs:List V):It:=⟨fun i H=>i<xs.length/\SqT K H a xs,fun i H x H'=>∃t v,H t=none/\xs[i]?=some v/\x=.ref t/\H'=upd H t (.tup [.int i,v]),fun i H=>i=xs.length/\SqT K H a xs⟩
theorem Y5 {P:Program}{w:World}{K:α3}{elts:List Expr}{x1}{tpos:Pos}(a e it:Addr)(hei:e≠it)(hai:a≠it)(hae:a≠e)(xs:List V):Turn P w K (.Tuple elts x1 tpos) (Itn K a xs) [e,it] e (fun i h=>∃old,IsEnum h e it (i:Nat) old/\h.IsTupleIter it a i) where
 mem:=by simp
 obj:=fun i h st b hb=>by
  obtain⟨old,h1,o,h2,c,d⟩:=st
  rcases jL_.mp hb with rfl|hb
  ·exact⟨_,h1,fun v z=>by cases z⟩
  ·rw[jg_.mp hb]
   exact⟨o,h2,fun v z=>by rw[d]at z;cases z⟩
 keep:=fun i h h' st k=>by
  obtain⟨old,h1,h2⟩:=st
  exact⟨old,k e (by simp) _ h1,h2.at fun o q=>k it (by simp) o q⟩
 item:=by
  intro X hP hw hK hc i pins s σ H E I hf st hg
  subst hP hw hK
  obtain⟨hi,hq⟩:=hg
  obtain⟨old,he,hit⟩:=st
  obtain⟨its,rv,p,hz⟩:=I.tuple hq
  have hl:=rv.length
  have pt:s.heap.IsTuple a its.toArray:=p
  have f1:=hf e (by simp)
  have f2:=hf it (by simp)
  have Dw:=Draws.tuple (prog:=X.prog) (w:=X.w) (A:=X.A.in1) (I.ok.hd hc) it a hai its.toArray
  refine wpAny_pyNext_enum_itemD Dw he ⟨hit,pt⟩ (by simp;lia) hei (by simp[hei,qT_ hae]) fun u h' tk hu heo hst' hget hsz hk=>?_
  have hT:s.heap.objs.size≠e:=xh_ (jp_ he)
  refine⟨_,rfl,wpAny_letOwnedTupleGo_enum heo fun h2 he2 hs2=>?_⟩
  have hk2:∀b o,b≠e->b≠it->s.heap.get? b=some o->h2.get? b=some o:=fun b o h1 h3 q=>(hs2.2 b h1).trans (hk b o h1 h3 q)
  obtain⟨un,hok⟩:=I.un2 hk2 f1 f2
  have hn:H s.heap.objs.size=none:=I.hok.fresh (jf_ _)
  have hv:xs[i]?=some xs[i]:=by simp[hi]
  obtain⟨u',hu',ru⟩:=rv.get hv
  have eu:u'=u:=by
   have hu2:its[i]?=some u:=by simpa using hu
   rw[hu']at hu2
   exact jB_ hu2
  subst eu
  have hget2:h2.get? s.heap.objs.size=some {cls:=.type "tuple",data:=.seq #[.int i tk,u']}:=(hs2.2 _ hT).trans hget
  have new:Bz X.prog X.w (upd H s.heap.objs.size (.tup [.int i,xs[i]])) h2 s.heap.objs.size (.tup [.int i,xs[i]]):=⟨by have:=Au;simp;lia,[.int i tk,u'],.cons ⟨tk,rfl⟩ (.cons ru .nil),_,hget2,rfl,_,rfl⟩
  refine⟨.ref s.heap.objs.size,upd H s.heap.objs.size (.tup [.int i,xs[i]]),I.call' (s':={s with heap:=h2,toks:=tk+1}) (ch:=[e,it]) rfl (un.track (jf_ _) hn) (hok.track hn new) I.bare (fun b hb=>?_),rfl,⟨_,_,hn,hv,rfl,rfl⟩,?_,fun b hb=>?_⟩
  ·exact (hf b hb).ch
  ·refine⟨u',by simpa using he2,?_⟩
   exact hst'.1.at fun o q=>(hs2.2 it (qT_ hei)).trans q
  ·have hb':=hf b hb
   have:∃o,s.heap.get? b=some o:=by
    rcases jL_.mp hb with rfl|hb
    ·exact⟨_,he⟩
    ·rw[jg_.mp hb]
     obtain⟨o,ho,_⟩:=hit
     exact⟨o,ho⟩
   obtain⟨o,ho⟩:=this
   rw[AD (jG_ (jp_ ho))]
   exact hb'.1
 done:=by
  intro X hP hw hK hc i pins s σ H E I hf st hg
  subst hP hw hK
  obtain⟨hi,hq⟩:=hg
  subst hi
  obtain⟨old,he,hit⟩:=st
  obtain⟨its,rv,p,hz⟩:=I.tuple hq
  have hl:=rv.length
  have pt:s.heap.IsTuple a its.toArray:=p
  have Dw:=Draws.tuple (prog:=X.prog) (w:=X.w) (A:=X.A.in1) (I.ok.hd hc) it a hai its.toArray
  obtain⟨f0,f1,f2,f3,f4,f5⟩:=hf it (by simp)
  refine wpAny_pyNext_enum_endD Dw he ⟨by rw[jl_,<-hl];exact hit,pt⟩ fun h' eb=>⟨rfl,I.turned (t':=s.toks) (fun b o hb e=>eb b o hb e) f0 f1 f3 f4 f5⟩
 self:=fun A i s Q E st h=>by
  obtain⟨old,he,_⟩:=st
  exact x5_ he h
noncomputable def Ei_ (K:α3)(tl:TE):TI:=fun σ H R=>tl σ H fun x H1=>∃a xs,x=.ref a/\SqT K H1 a xs/\R (Itn K a xs) H1
theorem Yk {K:α3}     : Ei_ K te σ H Z=te σ H fun x H1=>∃a xs,x=.ref a/\SqT K H1 a xs/\Z (Itn K a xs) H1:=rfl
theorem Ej_ {K:α3}       : gTup K n t v σ H N=∃a xs,v=.ref a/\SqT K H a xs/\xs.length=n/\t xs σ H N:=rfl
theorem Bk_       : YY t u vs σ H N=∃v r,vs=v::r/\t v σ H fun σ' H'=>u r σ' H' N:=rfl
theorem Ek_     : gNil vs σ H N=(vs=[]/\N σ H):=rfl
theorem SH   {x1}     (hg:Gl X "enumerate")(hm:X.mg "enumerate"=none)(he:PE X e te)(hs:starEach [e] X.env=[(false,eval e X.env)]:=by rfl):PI X (.Tuple elts x1 tpos) (.Call (.Name "enumerate" p) [e] [] pos) (Ei_ X.K te):=by
 intro pins s σ H R I h
 refine Call_ (La I hg hm boot_enumerate (qw_ (thn (Aa he Ab hs pos pins s σ H (fun vs H1=>∃a xs,vs=[.ref a]/\SqT X.K H1 a xs/\R (Itn X.K a xs) H1) I ?_) fun us s1 ⟨vs,H1,I1,r1,q1⟩=>?_) hs rfl))
 ·show te σ H _
  have:(fun x H1=>∃a xs,x=V.ref a/\SqT X.K H1 a xs/\R (Itn X.K a xs) H1)=(fun x H1=>tNil σ H1 fun xs H2=>∃a ys,x::xs=[V.ref a]/\SqT X.K H2 a ys/\R (Itn X.K a ys) H2):=by
   funext x H1
   simp[tNil]
  rw[<-this]
  exact h
 ·obtain⟨a,xs,rfl,hq,q⟩:=q1
  cases r1 with
  |cons r rr=>
   cases rr
   cases r
   obtain⟨its,rv,p,hz⟩:=I1.tuple hq
   have pt:s1.heap.IsTuple a its.toArray:=p
   obtain⟨oa,hoa,_⟩:=id pt
   have ha:=jp_ hoa
   refine Kd pt fun h' he' hit' hsz hk=>?_
   refine x5_ (s:={s1 with heap:=h' }) he' ?_
   have I2:Inv X pins σ H1 {s1 with heap:=h' }:=I1.kept (t':=s1.toks) hk
   refine⟨s1.heap.objs.size+1,[s1.heap.objs.size+1,s1.heap.objs.size],_,_,H1,rfl,I2,Y5 a (s1.heap.objs.size+1) s1.heap.objs.size (Nat.succ_ne_self _) (jG_ ha) (jG_ (qR_ ha)) xs,⟨_,he',hit'⟩,fun b hb=>?_,q⟩
   have hle:s1.heap.objs.size<=b:=by
    rcases jL_.mp hb with rfl|hb
    ·lia
    ·rw[jg_.mp hb];exact jf_ _
   exact I1.fpOk hle (I1.hok.fresh hle)
theorem forN {K:α3}        (Pv:Nat->St->Hp->Prop)(h0:Pv 0 σ H)(hl:∀i σ H,i<=xs.length->Pv i σ H->SqT K H a xs)
  (hs:∀i v σ H t,xs[i]?=some v->Pv i σ H->H t=none->g (.ref t) σ (upd H t (.tup [.int i,v])) fun σ2 H2=>tb {D with nx:=Pv (i+1),ct:=Pv (i+1),bk:=D.nx} σ2 H2) (hd:∀σ H,Pv xs.length σ H->D.nx σ H):ForW (Itn K a xs) g tb D σ H:=by
 refine⟨fun i m σ H=>m=xs.length-i/\i<=xs.length/\Pv i σ H,⟨xs.length,by simp,qt_ _,h0⟩,?_⟩
 rintro i m σ H ⟨rfl,hi,p⟩
 by_cases hlt:i<xs.length
 ·refine .inr ⟨⟨hlt,hl i σ H hi p⟩,Pv (i+1),fun σ' H' p'=>⟨xs.length-(i+1),by lia,rfl,hlt,p'⟩,fun x H' y=>?_⟩
  obtain⟨t,v,hn,hv,rfl,rfl⟩:=y
  exact hs i v σ H t hv p hn
 ·have e:i=xs.length:=by lia
  subst e
  exact .inl ⟨⟨rfl,hl _ σ H hi p⟩,hd σ H p⟩
section
variable {td ty tv tx:TE} {D:Ends} {σ:St} {H:Hp} {Q:VK}
theorem El_:GK_ td ty σ H Q=td σ H fun x H1=>ty σ H1 fun y H2=>∃a v,x=.ref a/\DGet H2 a y (some v)/\Q v H2:=rfl
theorem Em_:GL_ td ty tv D σ H=tv σ H fun v H1=>td σ H1 fun x H2=>ty σ H2 fun y H3=>∃a H4,x=.ref a/\DPut H3 a y v H4/\D.nx σ H4:=rfl
theorem En_  : Fo_ trs σ H Q=∀p,H p=none->OO trs σ (upd H p (.dK [])) fun ps H2=>H2 p=some (.dK [])/\∃kvs:List (Key×V),ps=kvs.map (fun kv=>(kV kv.1,kv.2))/\kvs.length<=15/\Q (.ref p) (upd H2 p (.dK (Ny [] kvs))):=rfl
theorem Yl  : OO [] σ H R=R [] H:=rfl
theorem Ym   : OO ((td,tv)::r) σ H R=td σ H fun x H1=>tv σ H1 fun y H2=>OO r σ H2 fun ps H3=>R ((x,y)::ps) H3:=rfl
end
end L2
namespace GW
noncomputable def Eo_ (w:α2):List (Int×α2)->Nat->α2->List (Int×α2)
 |ents,_,[]=>ents
 |ents,x,g::r=>Eo_ w (if g∈ents.map (·.1) then ents else ents++[(g,w++[(x:Int)])]) (x+1) r
noncomputable def bfs (ways:α1):Nat->List (Int×α2)->Nat->List (Int×α2)
 |0,ents,_=>ents
 |f+1,ents,i=>match ents[i]? with
  |none=>ents
  |some e=>bfs ways f (Eo_ e.2 ents 0 (ways.getD e.1.toNat [])) (i+1)
noncomputable def Bl_ (ways:α1):List (Int×α2):=bfs ways (ways.length+1) [(0,[])] 0
noncomputable def Seen (L:Int)(ways:α1)(ents:List (Int×α2))(r:Int)(w:α2)(x:Nat):Prop:=∀y:Int,0<=y->y<x->∃e'∈ents,e'.1=Hp_ ways r y/\BE L e'.2<=BE L (w++[y])
end GW
namespace L2
open PySem PySem.Spec PyProof.Rows GW
noncomputable def Ents (K:α3)(H:Hp)(d:Addr)(ents:List (Int×α2)):Prop:=∃kvs:List (Key×V),H d=some (.dK kvs)/\kvs.length=ents.length/\∀(i:Nat) (e:Int×α2),ents[i]?=some e->∃t,kvs[i]?=some (Sum.inl e.1,V.ref t)/\SqT K H t (e.2.map V.int)
theorem VS {K:α3}     (hp:H p=some (.dK kvs))(h:SqT K H t xs):SqT K (upd H p (.dK kvs')) t xs:=by
 rcases h with (q|⟨o,q⟩)|q
 ·refine .inl (.inl ?_)
  rw[AD (fun z=>by rw[z,hp]at q;cases q)];exact q
 ·refine .inl (.inr ⟨o,?_⟩)
  rw[AD (fun z=>by rw[z,hp]at q;cases q)];exact q
 ·exact .inr q
theorem Ents.no {K:α3}   {ents:List (Int×α2)}(h:Ents K H d ents)  (hg:g∉ents.map (·.1)):DGet H d (.int g) none:=by
 obtain⟨kvs,h1,h2,h3⟩:=h
 have e:valV kvs (Sum.inl g:Key)=none:=by
  unfold valV
  rw[Option.map_eq_none_iff,List.find?_eq_none]
  intro kv hkv
  obtain⟨i,hi,e⟩:=xI_ hkv
  obtain⟨t,a,_⟩:=h3 i ents[i] (by simp[show i<ents.length by lia])
  have e2:kvs[i]?=some kv:=by rw[jc_ hi,e]
  rw[e2]at a
  cases a
  simp only[q4_]
  intro z
  injection z with z
  exact hg (jv_.mpr ⟨ents[i],jD_ _,z⟩)
 have:=DGet.k (k:=(Sum.inl g:Key)) h1
 rw[e]at this
 exact this
theorem Ents.put {K:α3}   {ents:List (Int×α2)}   (h:Ents K H d ents)(hg:g∉ents.map (·.1))(hz:ents.length<1000)(ht:SqT K H t (w.map V.int)):∃H',DPut H d (.int g) (.ref t) H'/\(∃kvs kvs',H d=some (.dK kvs)/\H'=upd H d (.dK kvs'))/\Ents K H' d (ents++[(g,w)]):=by
 have hno:=h.no hg
 obtain⟨kvs,h1,h2,h3⟩:=h
 have hl:=Au
 have hv:valV kvs (Sum.inl g:Key)=none:=by
  rcases hno with ⟨kvs',k,e,ey,er⟩|⟨kvs',k,b,e,ey,_⟩
  ·have e1:kvs'=kvs:=by
    rcases e with e|⟨o,e⟩
    ·rw[h1]at e;cases e;rfl
    ·rw[h1]at e;cases e
   subst e1
   cases k with
   |inl m=>
    have:m=g:=by injection ey with ey;exact ey.symm
    subst this
    exact er.symm
   |inr m=>cases ey
  ·cases ey
 have hp:putK kvs (Sum.inl g:Key) (V.ref t)=kvs++[(Sum.inl g,V.ref t)]:=by
  unfold putK
  rw[Ld,hv]
  rfl
 refine⟨_,DPut.k (k:=(Sum.inl g:Key)) h1 s!"",⟨kvs,_,h1,rfl⟩,kvs++[(Sum.inl g,V.ref t)],by rw[Ac,hp],by simp[h2],fun i e he=>?_⟩
 by_cases hi:i<ents.length
 ·rw[jn_ hi]at he
  obtain⟨t',a,b⟩:=h3 i e he
  exact⟨t',by rw[jn_ s!""];exact a,VS h1 b⟩
 ·have hlt:=(jd_.mp he).1
  rw[jk_,jZ_]at hlt
  have e1:i=ents.length:=by lia
  subst e1
  rw[jq_ (jf_ _),qr_]at he
  simp at he
  subst he
  exact⟨t,by rw[jq_ s!"",h2,qr_];rfl,VS h1 ht⟩
end L2
namespace L2
open PySem PySem.Spec PyProof.Rows
noncomputable def ups (n:Nat):α2:=(List.range n).map fun i:Nat=>(i:Int)
noncomputable def rNeD (K:α3)(n:Nat):R2:=fun x y H Q=>∃a c b,x=.ref a/\y=.ref c/\EqD K H n x y b/\Q (.bl (!b)) H
theorem Hq_ {K:α3}     : rNeD K n x y H Q=∃a c b,x=.ref a/\y=.ref c/\EqD K H n x y b/\Q (.bl (!b)) H:=rfl
theorem Yn  (n:Nat)(hu:X.A.units+n<cLine):OpR X (compareOp .NotEq) (rNeD X.K n):=by
 intro pins s σ H x y v u Q I rx ry h
 obtain⟨a,c,b,rfl,rfl,h,q⟩:=h
 cases rx
 cases ry
 cases n with
 |zero=>exact absurd (show false=true from h.1) jo_
 |succ n=>
  rcases h with ⟨fx,_⟩|⟨a',c',xs,ys,e1,e2,hq,e,he,rfl⟩
  ·exact absurd (show false=true from fx) jo_
  ·cases e1
   cases e2
   have key:∀(its its2:List Value),Vals xs its->Vals ys its2->∀j (h1:j<its.toArray.size) (h2:j<its2.toArray.size),SeqAt.EqAt X.A.in1 s its.toArray[j] its2.toArray[j] (e j):=fun its its2 r1 r2 j h1 h2=>by
    have l1:=r1.length
    have l2:=r2.length
    rw[jl_]at h1 h2
    obtain⟨u1,g1,q1⟩:=r1.get (i:=j) (x:=xs[j]'s!"") (by simp[show j<xs.length by lia])
    obtain⟨u2,g2,q2⟩:=r2.get (i:=j) (x:=ys[j]'s!"") (by simp[show j<ys.length by lia])
    have k1:its.toArray[j]'(by rw[jl_];exact h1)=u1:=by
     have:=(jd_.mp g1).2
     simpa using this
    have k2:its2.toArray[j]'(by rw[jl_];exact h2)=u2:=by
     have:=(jd_.mp g2).2
     simpa using this
    rw[k1,k2]
    exact (EqD.at I n X.A.in1 (by rw[in1_units];lia) q1 q2 (he j _ _ (by simp[show j<xs.length by lia]) (by simp[show j<ys.length by lia]))).1
   have fin:EP X pins σ Q (.bool (!(decide (xs.length=ys.length)&&(List.range (min xs.length ys.length)).all e))) s:=⟨.bl _,H,I,rfl,q⟩
   rcases hq with ⟨h1,h2⟩|⟨h1,h2⟩
   ·obtain⟨its,r1,p1,_⟩:=I.list h1
    obtain⟨its2,r2,p2,_⟩:=I.list h2
    have l1:=r1.length
    have l2:=r2.length
    by_cases hl:xs.length=ys.length
    ·have:=SeqAt.RcNeAt.lists (e:=e) p1.isList p2.isList (by rw[jl_,jl_];lia) s!"" (key its its2 r1 r2)
     rw[jl_,<-l1]at this
     rw[qg_ hl,Bool.true_and,<-hl,Nat.min_self]at fin
     exact this _ _ _ _ fin
    ·have:=SeqAt.RcNeAt.lists_lengths (A:=X.A) p1.isList p2.isList (by rw[jl_,jl_];simp;lia) s!""
     rw[qj_ hl,Bool.false_and]at fin
     exact this _ _ _ _ fin
   ·obtain⟨its,r1,p1,_⟩:=I.tuple h1
    obtain⟨its2,r2,p2,_⟩:=I.tuple h2
    have l1:=r1.length
    have l2:=r2.length
    have:=SeqAt.RcNeAt.tuples (e:=e) (show s.heap.IsTuple a its.toArray from p1) (show s.heap.IsTuple c its2.toArray from p2) s!"" (key its its2 r1 r2)
    rw[jl_,jl_,<-l1,<-l2,AV_]at this
    exact this _ _ _ _ fin
noncomputable def Ep_ (tk tv:TE):TE:=Fo_ [(tk,tv)]
theorem CK_     (hk:PE X k tk)(hv:PE X v tv):PE X (.Dict [some k] [v] pos) (Ep_ tk tv):=Fp_ (CC_ hk hv Fn_) rfl rfl (by intro z;cases z) (by show 1<=15;decide)
theorem Bm_     : Ep_ tk tv σ H Q=∀p,H p=none->tk σ (upd H p (.dK [])) fun x H1=>tv σ H1 fun y H2=>H2 p=some (.dK [])/\∃kvs:List (Key×V),[(x,y)]=kvs.map (fun kv=>(kV kv.1,kv.2))/\kvs.length<=15/\Q (.ref p) (upd H2 p (.dK (Ny [] kvs))):=rfl
theorem Vals.ofIx:∀{xs:List V} {us:List Value},us.length=xs.length->(∀(i:Nat) (v:Value),us[i]?=some v->∃x,xs[i]?=some x/\RelV x v)->Vals xs us
 |[],[],_,_=>.nil
 |[],_::_,h,_=>by simp at h
 |_::_,[],h,_=>by simp at h
 |x::xs,u::us,h,k=>by
  refine .cons ?_ (Vals.ofIx (by simpa using h) fun i v hv=>?_)
  ·obtain⟨y,e,r⟩:=k 0 u rfl
   cases e
   exact r
  ·obtain⟨y,e,r⟩:=k (i+1) v (by simpa using hv)
   exact⟨y,by simpa using e,r⟩
theorem VT   (h:Xd k v=true):RelV (kV k) v:=by
 rcases Cw h with ⟨i,t,rfl,e⟩|⟨x,t,rfl,e⟩
 ·exact⟨t,e⟩
 ·exact⟨t,e⟩
noncomputable def Itm (K:α3)(a:Addr)(xs:List V):It:=⟨fun i H=>i<xs.length/\SqL K H a xs,fun i H x H'=>∃t v,H t=none/\xs[i]?=some v/\x=.ref t/\H'=upd H t (.tup [.int i,v]),fun i H=>i=xs.length/\SqL K H a xs⟩
theorem Y6 {P:Program}{w:World}{K:α3}{elts:List Expr}{x1}{tpos:Pos}(a e it:Addr)(hei:e≠it)(hai:a≠it)(hae:a≠e)(xs:List V):Turn P w K (.Tuple elts x1 tpos) (Itm K a xs) [e,it] e (fun i h=>∃old,IsEnum h e it (i:Nat) old/\h.IsListIter it a i) where
 mem:=by simp
 obj:=fun i h st b hb=>by
  obtain⟨old,h1,o,h2,c,d⟩:=st
  rcases jL_.mp hb with rfl|hb
  ·exact⟨_,h1,fun v z=>by cases z⟩
  ·rw[jg_.mp hb]
   exact⟨o,h2,fun v z=>by rw[d]at z;cases z⟩
 keep:=fun i h h' st k=>by
  obtain⟨old,h1,h2⟩:=st
  exact⟨old,k e (by simp) _ h1,h2.at fun o q=>k it (by simp) o q⟩
 item:=by
  intro X hP hw hK hc i pins s σ H E I hf st hg
  subst hP hw hK
  obtain⟨hi,hq⟩:=hg
  obtain⟨old,he,hit⟩:=st
  obtain⟨its,rv,p,hz⟩:=I.list hq
  have hl:=rv.length
  have pt:s.heap.IsList a its.toArray:=p.isList
  have f1:=hf e (by simp)
  have f2:=hf it (by simp)
  have Dw:=Draws.list (prog:=X.prog) (w:=X.w) (A:=X.A.in1) (I.ok.hd hc) it a hai its.toArray
  refine wpAny_pyNext_enum_itemD Dw he ⟨hit,pt⟩ (by simp;lia) hei (by simp[hei,qT_ hae]) fun u h' tk hu heo hst' hget hsz hk=>?_
  have hT:s.heap.objs.size≠e:=xh_ (jp_ he)
  refine⟨_,rfl,wpAny_letOwnedTupleGo_enum heo fun h2 he2 hs2=>?_⟩
  have hk2:∀b o,b≠e->b≠it->s.heap.get? b=some o->h2.get? b=some o:=fun b o h1 h3 q=>(hs2.2 b h1).trans (hk b o h1 h3 q)
  obtain⟨un,hok⟩:=I.un2 hk2 f1 f2
  have hn:H s.heap.objs.size=none:=I.hok.fresh (jf_ _)
  have hv:xs[i]?=some xs[i]:=by simp[hi]
  obtain⟨u',hu',ru⟩:=rv.get hv
  have eu:u'=u:=by
   have hu2:its[i]?=some u:=by simpa using hu
   rw[hu']at hu2
   exact jB_ hu2
  subst eu
  have hget2:h2.get? s.heap.objs.size=some {cls:=.type "tuple",data:=.seq #[.int i tk,u']}:=(hs2.2 _ hT).trans hget
  have new:Bz X.prog X.w (upd H s.heap.objs.size (.tup [.int i,xs[i]])) h2 s.heap.objs.size (.tup [.int i,xs[i]]):=⟨by have:=Au;simp;lia,[.int i tk,u'],.cons ⟨tk,rfl⟩ (.cons ru .nil),_,hget2,rfl,_,rfl⟩
  refine⟨.ref s.heap.objs.size,upd H s.heap.objs.size (.tup [.int i,xs[i]]),I.call' (s':={s with heap:=h2,toks:=tk+1}) (ch:=[e,it]) rfl (un.track (jf_ _) hn) (hok.track hn new) I.bare (fun b hb=>?_),rfl,⟨_,_,hn,hv,rfl,rfl⟩,?_,fun b hb=>?_⟩
  ·exact (hf b hb).ch
  ·refine⟨u',by simpa using he2,?_⟩
   exact hst'.1.at fun o q=>(hs2.2 it (qT_ hei)).trans q
  ·have hb':=hf b hb
   have:∃o,s.heap.get? b=some o:=by
    rcases jL_.mp hb with rfl|hb
    ·exact⟨_,he⟩
    ·rw[jg_.mp hb]
     obtain⟨o,ho,_⟩:=hit
     exact⟨o,ho⟩
   obtain⟨o,ho⟩:=this
   rw[AD (jG_ (jp_ ho))]
   exact hb'.1
 done:=by
  intro X hP hw hK hc i pins s σ H E I hf st hg
  subst hP hw hK
  obtain⟨hi,hq⟩:=hg
  subst hi
  obtain⟨old,he,hit⟩:=st
  obtain⟨its,rv,p,hz⟩:=I.list hq
  have hl:=rv.length
  have pt:s.heap.IsList a its.toArray:=p.isList
  have Dw:=Draws.list (prog:=X.prog) (w:=X.w) (A:=X.A.in1) (I.ok.hd hc) it a hai its.toArray
  obtain⟨f0,f1,f2,f3,f4,f5⟩:=hf it (by simp)
  refine wpAny_pyNext_enum_endD Dw he ⟨by rw[jl_,<-hl];exact hit,pt⟩ fun h' eb=>⟨rfl,I.turned (t':=s.toks) (fun b o hb e=>eb b o hb e) f0 f1 f3 f4 f5⟩
 self:=fun A i s Q E st h=>by
  obtain⟨old,he,_⟩:=st
  exact x5_ he h
noncomputable def Eq_ (K:α3)(tl:TE):TI:=fun σ H R=>tl σ H fun x H1=>∃a xs,x=.ref a/\SqL K H1 a xs/\R (Itm K a xs) H1
theorem Yo {K:α3}     : Eq_ K te σ H Z=te σ H fun x H1=>∃a xs,x=.ref a/\SqL K H1 a xs/\Z (Itm K a xs) H1:=rfl
theorem Yp   {x1}     (hg:Gl X "enumerate")(hm:X.mg "enumerate"=none)(he:PE X e te)(hs:starEach [e] X.env=[(false,eval e X.env)]:=by rfl):PI X (.Tuple elts x1 tpos) (.Call (.Name "enumerate" p) [e] [] pos) (Eq_ X.K te):=by
 intro pins s σ H R I h
 refine Call_ (La I hg hm boot_enumerate (qw_ (thn (Aa he Ab hs pos pins s σ H (fun vs H1=>∃a xs,vs=[.ref a]/\SqL X.K H1 a xs/\R (Itm X.K a xs) H1) I ?_) fun us s1 ⟨vs,H1,I1,r1,q1⟩=>?_) hs rfl))
 ·show te σ H _
  have:(fun x H1=>∃a xs,x=V.ref a/\SqL X.K H1 a xs/\R (Itm X.K a xs) H1)=(fun x H1=>tNil σ H1 fun xs H2=>∃a ys,x::xs=[V.ref a]/\SqL X.K H2 a ys/\R (Itm X.K a ys) H2):=by
   funext x H1
   simp[tNil]
  rw[<-this]
  exact h
 ·obtain⟨a,xs,rfl,hq,q⟩:=q1
  cases r1 with
  |cons r rr=>
   cases rr
   cases r
   obtain⟨its,rv,p,hz⟩:=I1.list hq
   have pt:s1.heap.IsList a its.toArray:=p.isList
   obtain⟨oa,hoa,_⟩:=id pt
   have ha:=jp_ hoa
   refine call_enumerate_list pt fun h' he' hit' hsz hk=>?_
   refine x5_ (s:={s1 with heap:=h' }) he' ?_
   have I2:Inv X pins σ H1 {s1 with heap:=h' }:=I1.kept (t':=s1.toks) hk
   refine⟨s1.heap.objs.size+1,[s1.heap.objs.size+1,s1.heap.objs.size],_,_,H1,rfl,I2,Y6 a (s1.heap.objs.size+1) s1.heap.objs.size (Nat.succ_ne_self _) (jG_ ha) (jG_ (qR_ ha)) xs,⟨_,he',hit'⟩,fun b hb=>?_,q⟩
   have hle:s1.heap.objs.size<=b:=by
    rcases jL_.mp hb with rfl|hb
    ·lia
    ·rw[jg_.mp hb];exact jf_ _
   exact I1.fpOk hle (I1.hok.fresh hle)
theorem forM {K:α3}        (Pv:Nat->St->Hp->Prop)(h0:Pv 0 σ H)(hl:∀i σ H,i<=xs.length->Pv i σ H->SqL K H a xs)
  (hs:∀i v σ H t,xs[i]?=some v->Pv i σ H->H t=none->g (.ref t) σ (upd H t (.tup [.int i,v])) fun σ2 H2=>tb {D with nx:=Pv (i+1),ct:=Pv (i+1),bk:=D.nx} σ2 H2) (hd:∀σ H,Pv xs.length σ H->D.nx σ H):ForW (Itm K a xs) g tb D σ H:=by
 refine⟨fun i m σ H=>m=xs.length-i/\i<=xs.length/\Pv i σ H,⟨xs.length,by simp,qt_ _,h0⟩,?_⟩
 rintro i m σ H ⟨rfl,hi,p⟩
 by_cases hlt:i<xs.length
 ·refine .inr ⟨⟨hlt,hl i σ H hi p⟩,Pv (i+1),fun σ' H' p'=>⟨xs.length-(i+1),by lia,rfl,hlt,p'⟩,fun x H' y=>?_⟩
  obtain⟨t,v,hn,hv,rfl,rfl⟩:=y
  exact hs i v σ H t hv p hn
 ·have e:i=xs.length:=by lia
  subst e
  exact .inl ⟨⟨rfl,hl _ σ H hi p⟩,hd σ H p⟩
noncomputable def rng (i j:Int):α2:=(List.range (j-i).toNat).map fun k:Nat=>i+(k:Int)
end L2
namespace PySem
open Sem (wp)
noncomputable def Heap.DEnt (h:Heap)(d:Addr)(es:Array DictEntry)(ep:Nat):Prop:=∃o,h.get? d=some o/\o.ExactDict/\o.data=.dict es ep
section
variable {prog:Program} {w:World} {A:Around} {E:Value->Shared->Prop} {s:Shared} {d it:Addr} {es:Array DictEntry} {i ep:Nat}
theorem Heap.DEnt.typeIs (h:s.heap.DEnt d es ep):s.TypeIs (.ref d) "dict" := let ⟨o,ho,hc,_⟩:=h;⟨o,ho,hc.1⟩
theorem Heap.DEnt.at {h h':Heap}(x:h.DEnt d es ep)(e:∀o,h.get? d=some o->h'.get? d=some o):h'.DEnt d es ep:=let ⟨o,ho,r⟩:=x;⟨o,e _ ho,r⟩
theorem Heap.DEnt.lt_size {h:Heap}(x:h.DEnt d es ep):d<h.objs.size:=let ⟨_,ho,_⟩:=x;jp_ ho
theorem OU  (hd:(d==sysModules)=false)(hm:s.heap.DEnt d es ep)
  (hQ:Q (.ref s.heap.objs.size) {s with heap:=s.heap.push {cls:=.type "dict_keyiterator",data:=.fields #[.ref d,.int 0 0,.int es.size 0,.int ep 0]} }):wpAny (model prog w) A (pyIter (.ref d)) Q E s:=by
 have hT:=hm.typeIs
 obtain⟨o,ho,hc,hdat⟩:=id hm
 refine wpAny_pyIter_slot hT F.slot_dict_iter (qy_ F.slot_dict_iter hT F.entry_dict_iter (?_:wpAny _ _ (Builtin.«dict.__iter__» _) _ _ s) (F.args_dict_iter_1 _))
 unfold Builtin.«dict.__iter__»;refine wpAny_bind ?_
 unfold Builtin.Dict.dictSlotNone;refine wpAny_bind (wpAny_notOrdered_dict hT ?_)
 show wpAny _ _ (pure (Value.ref d)) _ _ s;refine js_ ?_
 show wpAny _ _ (Builtin.Dict.showsAll d >>= _) _ _ s;unfold Builtin.Dict.showsAll
 rw[if_neg (fun z=>by rw[hd]at z;cases z)]
 refine je_ (js_ (je_ (wpAny_dictEntries ho hdat (je_ (wpAny_dictEpoch ho hdat ?_)))))
 refine je_ (qq_ (js_ ⟨_,rfl,"dict_keyiterator",_,⟨_,jy_ _ rfl,rfl⟩,qP_.lookup,?_⟩));simpa [rawInt] using hQ
theorem IF  (hit:s.heap.IsKeyIter it d i es.size ep)(hm:s.heap.DEnt d es ep)(hlt:i<es.size)
  (hQ:∀h',h'.IsKeyIter it d (i+1) es.size ep->Heap.SameBut it s.heap h'->Q (some es[i].key) {s with heap:=h' }):wpAny (model prog w) A (pyNext (.ref it)) Q E s:=by
 obtain⟨o,ho,hc,hd⟩:=id hit
 obtain⟨od,hod,hcd,hdd⟩:=id hm
 have hown:Builtin.Dict_items.ownsTuple "dict_keyiterator"=false:=by decide
 unfold pyNext
 refine je_ (xS_ (qB_ (name:=Str.ofString "__next__") hit.typeIs qP_ (qy_ qP_ hit.typeIs F.entry_dict_keyiterator_next ?_ (F.args_dict_keyiterator_next_1 _))))
 refine je_ (js_ (je_ (je_ ?_)))
 first|refine je_ (qW_ hit.typeIs (js_ (je_ (wpAny_fieldsOf ho hd ?_))))|refine je_ (xf_ hit.typeIs (js_ (je_ (wpAny_fieldsOf ho hd ?_))))
 simp only[hown,xT_,xP_];show wpAny _ _ (if (Value.ref d==Value.none)=true then _ else _) _ _ s
 rw[if_neg (show ¬ ((Value.ref d==Value.none)=true) from fun z=>jo_ z)]
 refine je_ (js_ (je_ (wpAny_dictEntries hod hdd ?_)))
 rw[if_neg (by simp)];refine je_ (js_ (je_ (wpAny_dictEpoch hod hdd ?_)))
 rw[if_neg (by simp)];refine js_ ?_
 simp only[show ¬ ((i:Int)<0) from by lia,xP_,jA_,Array.getElem?_eq_getElem hlt];refine je_ ?_
 first|refine je_ (qW_ hit.typeIs (js_ (je_ (zb_ hit.typeIs ?_))))|refine je_ (xf_ hit.typeIs (js_ (je_ (zb_ hit.typeIs ?_))))
 show wpAny _ _ (setField (.ref it) 1 (rawInt ((i:Int)+1)) >>= _) _ _ s;refine je_ (wpAny_setField ho hd (by simp) ?_)
 have hit':(s.heap.update it (Obj.mapFields (·.setIfInBounds 1 (rawInt ((i:Int)+1))))).IsKeyIter it d (i+1) es.size ep:=⟨_,xt_ _ ho (Obj.isFreed_of_fields (Obj.data_mapFields hd _)),(Obj.cls_mapFields ..).trans hc,by rw[Obj.data_mapFields hd];simp[rawInt]⟩
 refine je_ (qS_ (je_ (zb_ (s:={s with heap:=s.heap.update it (Obj.mapFields (·.setIfInBounds 1 (rawInt ((i:Int)+1))))}) hit'.typeIs ?_)))
 show wpAny _ _ (pure es[i].key) _ _ _;exact js_ (js_ ⟨_,rfl,js_ (hQ _ hit' (xH_ ..))⟩)
theorem Je  (hh:A.handled=none)(hit:s.heap.IsKeyIter it d i es.size ep)(hm:s.heap.DEnt d es ep)(hge:es.size<=i)
  (hQ:∀h',Heap.ExtBut it s.heap h'->Q none {s with heap:=h' }):wpAny (model prog w) A (pyNext (.ref it)) Q E s:=by
 obtain⟨o,ho,hc,hd⟩:=id hit
 obtain⟨od,hod,hcd,hdd⟩:=id hm
 have hown:Builtin.Dict_items.ownsTuple "dict_keyiterator"=false:=by decide
 unfold pyNext
 refine je_ (xS_ (qB_ (name:=Str.ofString "__next__") hit.typeIs qP_ (qy_ qP_ hit.typeIs F.entry_dict_keyiterator_next ?_ (F.args_dict_keyiterator_next_1 _))))
 refine je_ (js_ (je_ (je_ ?_)))
 first|refine je_ (qW_ hit.typeIs (js_ (je_ (wpAny_fieldsOf ho hd ?_))))|refine je_ (xf_ hit.typeIs (js_ (je_ (wpAny_fieldsOf ho hd ?_))))
 simp only[hown,xT_,xP_];show wpAny _ _ (if (Value.ref d==Value.none)=true then _ else _) _ _ s
 rw[if_neg (show ¬ ((Value.ref d==Value.none)=true) from fun z=>jo_ z)]
 refine je_ (js_ (je_ (wpAny_dictEntries hod hdd ?_)))
 rw[if_neg (by simp)];refine je_ (js_ (je_ (wpAny_dictEpoch hod hdd ?_)))
 rw[if_neg (by simp)];refine js_ ?_
 simp only[show ¬ ((i:Int)<0) from by lia,xP_,jA_,Array.getElem?_eq_none hge];refine je_ ?_
 first|refine je_ (qW_ hit.typeIs (js_ ?_))|refine je_ (xf_ hit.typeIs (js_ ?_))
 show wpAny _ _ (setField (.ref it) 0 .none >>= _) _ _ s;refine je_ (wpAny_setField ho hd (by simp) ?_)
 show wpAny _ _ (newExc (.type "StopIteration") [] >>= _) _ _ _;refine je_ ?_
 simp only[newExc,newTuple];refine je_ (qq_ ?_ (by size_fits))
 refine je_ (m:=firstArgMember _ _) (wpAny_of_eq (a:=Value.none) (by first|rfl|(simp only[firstArgMember];rfl)) (qq_ ?_ (by size_fits)))
 simp only[raiseNew];refine je_ (wpAny_handled ?_)
 rw[show A.in1.handled=none from hh];refine je_ (js_ (wpAny_throw ?_))
 refine je_ (wpAny_isInstance (T := "StopIteration") (b:=true) ⟨_,jy_ _ rfl,rfl⟩ isSubtype_stop (js_ (hQ _ (((xH_ ..).extBut.push _).push _))))
theorem Walks.dent (hh:A.handled=none)(I:Addr)(hne:d≠I):Walks prog w A I [I,d] [I] es.size (fun i v=>∃e,es[i]?=some e/\v=e.key) (fun i h=>h.IsKeyIter I d i es.size ep/\h.DEnt d es ep) where
 sub:=fun b hb=>by simp at hb;simp[hb]
 frame:=fun _ _ _ st hk=>⟨st.1.at fun o e=>hk I (by simp) o e,st.2.at fun o e=>hk d (by simp) o e⟩
 item:=fun i s Q E hi st hQ=>by
  refine IF st.1 st.2 hi fun h' hit' hs'=>?_
  exact hQ _ h' s.toks ⟨es[i],by simp[hi],rfl⟩ ⟨hit',st.2.at fun o e=>hs'.extBut d o hne e⟩ fun b o hb e=>hs'.extBut b o (fun z=>hb (by simp[z])) e
 done:=fun s Q E st hQ=>Je hh st.1 st.2 (jf_ _) fun h' he'=>hQ h' s.toks fun b o hb e=>he' b o (fun z=>hb (by simp[z])) e
 self:=fun _ _ _ _ st hQ=>zl_ st.1 hQ
theorem CL_ (lo:(d==sysModules)=false):PySem.W.KdlSrc prog w "dict" d d es.size (fun i v=>∃e,es[i]?=some e/\v=e.key) (fun h=>h.DEnt d es ep) where
 type:=fun _ hm=>hm.typeIs
 there:=fun _ hm=>⟨hm.lt_size,hm.lt_size⟩
 keep:=fun _ _ hm hk=>hm.at fun o e=>hk d (.inl rfl) o e
 notList:=by decide
 notTuple:=by decide
 hint:=fun _ _ _ _ hm hq=>PySem.W.kdl_hint_dict hm.typeIs hq
 iter:=fun _ _ hh hm=>⟨_,_,(fun _ _ hq=>OU lo hm hq),Walks.dent hh _ (jG_ hm.lt_size),⟨⟨_,jy_ _ rfl,rfl,rfl⟩,hm.at fun o e=>jm_ _ e⟩⟩
end
end PySem
namespace L2
open PySem PySem.Spec PyProof.Rows
theorem J6 {α β:Type}{F:α->β->Prop}:∀{l:List α} {m:List β} {i:Nat} {a:α},Paired F l m->l[i]?=some a->∃b,m[i]?=some b/\F a b
 |_,_,_,_,.nil,e=>by simp at e
 |_,_,0,_,.cons r _,e=>by simp at e;subst e;exact⟨_,rfl,r⟩
 |_,_,i+1,a,.cons _ t,e=>by
  obtain⟨b,h1,h2⟩:=J6 (i:=i) (a:=a) t (by simpa using e)
  exact⟨b,by simpa using h1,h2⟩
theorem Xk       (ok:HOk P w H h)(e:Rd H a (.dT kvs)):
  ∃o es ep,h.get? a=some o/\o.ExactDict/\o.data=.dict es ep/\es.size=kvs.length/\(a==sysModules)=false/\kvs.length<=sizeLine /\
   ∀(i:Nat) (k:List Key) (v:V),kvs[i]?=some (k,v)->∃b en,es[i]?=some en/\en.key=.ref b/\H b=some (.tup (k.map kV)):=by
 obtain⟨z,y,xs,r,o,es,ep,h1,h2,h3,h4,h5⟩:=(show Bz P w H h a (.dT kvs) from Cy_ ok e)
 have hl:=zm_ r
 have hs:es.size=kvs.length:=by rw[<-qK_,h4,jb_,hl]
 refine⟨o,es,ep,h1,h2,h3,hs,y,z,fun i k v hk=>?_⟩
 obtain⟨q,hq,e1,e2,_⟩:=J6 r hk
 refine⟨q.2.1,entryOfKey (tupleKind (CG P w)) q,?_,rfl,e2⟩
 rw[<-xv_,h4,jh_,hq];rfl
section
variable {X:Cx} {pins:α7} {σ:St} {H:Hp} {s:Shared} {a:Addr}
theorem Inv.freeze   (I:Inv X pins σ H s)(e:H a=some (.dT kvs))(ho:s.heap.get? a=some o):Inv X pins σ (upd H a (.frz o (.dT kvs))) s:=by
 refine ON (h':=s.heap) (t':=s.toks) I (by rw[e];exact True.intro) ⟨rfl,fun _ _=>rfl⟩ ⟨o,ho⟩ ?_
 obtain⟨z,y,xs,r,q⟩:=(show Bz X.prog X.w H s.heap a (.dT kvs) from I.hok a _ e)
 refine⟨ho,z,y,xs,Paired.mapP r fun p x hx=>⟨hx.1,?_,hx.2.2⟩,q⟩
 rw[AD (fun z=>by have h1:=hx.2.1;rw[z,e]at h1;cases h1)]
 exact hx.2.1
end
noncomputable def Itd (o:Obj)(a:Addr)(kvs:List (List Key×V)):It:=⟨fun i H=>i<kvs.length/\H a=some (.frz o (.dT kvs)),fun i H x H'=>H'=H/\∃b k v,kvs[i]?=some (k,v)/\x=.ref b/\H b=some (.tup (k.map kV)),fun i H=>kvs.length<=i/\H a=some (.frz o (.dT kvs))⟩
theorem Y7 {P:Program}{w:World}{K:α3}{tg:Expr}{o:Obj}{a it:Addr}{kvs:List (List Key×V)}{es:Array DictEntry}{ep:Nat}(hai:a≠it)(hc:o.ExactDict)(hd:o.data=.dict es ep)(hs:es.size=kvs.length):
  Turn P w K tg (Itd o a kvs) [it] it (fun i h=>h.IsKeyIter it a i es.size ep) where
 mem:=by simp
 obj:=fun i h st b hb=>by
  have e:b=it:=by simpa using hb
  subst e
  obtain⟨o,e,c,d⟩:=st
  exact⟨o,e,fun v z=>by rw[d]at z;cases z⟩
 keep:=fun i h h' st k=>st.at fun o e=>k it (by simp) o e
 item:=by
  intro X hP hw hK hcm i pins s σ H E I hf st hg
  subst hP hw hK
  obtain⟨hi,hq⟩:=hg
  obtain⟨hko,_⟩:=(show Bz X.prog X.w H s.heap a (.frz o (.dT kvs)) from I.hok a _ hq)
  obtain⟨o',es',ep',g1,g2,g3,g4,g5,g6,g7⟩:=Xk I.hok (.inr ⟨o,hq⟩)
  rw[hko]at g1
  cases g1
  rw[hd]at g3
  cases g3
  obtain⟨kv,hkv⟩:∃kv,kvs[i]?=some kv:=⟨kvs[i],by simp[hi]⟩
  obtain⟨k,v⟩:=kv
  obtain⟨b,en,e1,e2,e3⟩:=g7 i k v hkv
  obtain⟨f0,f1,f2,f3,f4,f5⟩:=hf it (by simp)
  have hlt:i<es.size:=by lia
  have ee:es[i]=en:=by rw[Array.getElem?_eq_getElem hlt]at e1;exact jB_ e1
  refine IF st ⟨o,hko,hc,hd⟩ hlt fun h' st' sb=>?_
  have I1:Inv X pins σ H {s with heap:=h' }:=I.turned (t':=s.toks) (fun b o hb e=>(sb.2 b hb).trans e) f0 f1 f3 f4 f5
  obtain⟨io,e,c,d⟩:=id st'
  exact⟨_,rfl,Av_ (s:={s with heap:=h' }) e c d (by decide) ⟨.ref b,H,I1,(by rw[ee,e2];rfl),⟨rfl,b,k,v,hkv,rfl,e3⟩,st',fun b hb=>(hf b hb).1⟩⟩
 done:=by
  intro X hP hw hK hcm i pins s σ H E I hf st hg
  subst hP hw hK
  obtain⟨hi,hq⟩:=hg
  obtain⟨hko,_⟩:=(show Bz X.prog X.w H s.heap a (.frz o (.dT kvs)) from I.hok a _ hq)
  obtain⟨f0,f1,f2,f3,f4,f5⟩:=hf it (by simp)
  exact Je (I.ok.hd hcm) st ⟨o,hko,hc,hd⟩ s!"" fun h' eb=>⟨rfl,I.turned (t':=s.toks) (fun b o hb e=>eb b o hb e) f0 f1 f3 f4 f5⟩
 self:=fun _ _ _ _ _ st h=>zl_ st h
noncomputable def Er_ (td:TE):TI:=fun σ H R=>td σ H fun x H1=>∃a kvs,x=.ref a/\H1 a=some (.dT kvs)/\∀o,R (Itd o a kvs) (upd H1 a (.frz o (.dT kvs)))
theorem Yq     : Er_ te σ H Z=te σ H fun x H1=>∃a kvs,x=.ref a/\H1 a=some (.dT kvs)/\∀o,Z (Itd o a kvs) (upd H1 a (.frz o (.dT kvs))):=rfl
theorem CM_     (hl:PE X l tl):PI X tg l (Er_ tl):=by
 intro pins s σ H R I h
 refine thn (hl pins s σ H _ I h) fun v s1 ⟨x,H1,I1,r1,q1⟩=>?_
 obtain⟨a,kvs,e,hq,q⟩:=q1
 subst e
 cases r1
 obtain⟨o,es,ep,g1,g2,g3,g4,g5,g6,g7⟩:=Xk I1.hok (.inl hq)
 have I2:=I1.freeze hq g1
 refine OU g5 ⟨o,g1,g2,g3⟩ ?_
 refine⟨s1.heap.objs.size,[s1.heap.objs.size],_,_,_,rfl,I2.kept (t':=s1.toks) fun b o e=>jm_ _ e,Y7 (o:=o) (kvs:=kvs) (jG_ (jp_ g1)) g2 g3 g4,⟨_,jy_ _ rfl,rfl,rfl⟩,fun b hb=>?_,q o⟩
 have e:b=s1.heap.objs.size:=by simpa using hb
 subst e
 exact I2.fpOk (jf_ _) (I2.hok.fresh (jf_ _))
theorem forD         (Pv:Nat->St->Hp->Prop)(h0:Pv 0 σ H)(hl:∀i σ H,i<=kvs.length->Pv i σ H->H a=some (.frz o (.dT kvs)))
  (hs:∀i k v b σ H,kvs[i]?=some (k,v)->Pv i σ H->H b=some (.tup (k.map kV))->g (.ref b) σ H fun σ2 H2=>tb {D with nx:=Pv (i+1),ct:=Pv (i+1),bk:=D.nx} σ2 H2) (hd:∀σ H,Pv kvs.length σ H->D.nx σ H):ForW (Itd o a kvs) g tb D σ H:=by
 refine⟨fun i m σ H=>m+i=kvs.length/\Pv i σ H,⟨kvs.length,by lia,h0⟩,fun i m σ H ⟨hm,hp⟩=>?_⟩
 have hq:=hl i σ H s!"" hp
 by_cases hi:i<kvs.length
 ·refine .inr ⟨⟨hi,hq⟩,Pv (i+1),fun σ' H' h=>⟨m-1,by lia,by lia,h⟩,fun x H' hy=>?_⟩
  obtain⟨rfl,b,k,v,hk,rfl,hb⟩:=hy
  exact hs i k v b σ _ hk hp hb
 ·have e:i=kvs.length:=by lia
  subst e
  exact .inl ⟨⟨jf_ _,hq⟩,hd σ H hp⟩
theorem OV  (hc:X.calm=true):Hi X (.type "list") (fun xs H Q=>∃p kvs,xs=[.ref p]/\Rd H p (.dT kvs)/\∀l rs,H l=none->rs.length=kvs.length ->
  (∀(i:Nat) (k:List Key) (v:V),kvs[i]?=some (k,v)->∃b,rs[i]?=some (V.ref b)/\H b=some (.tup (k.map kV)))->Q (.ref l) (upd H l (.lst rs))):=by
 intro pins s σ H xs us Q I r h
 obtain⟨p,kvs,rfl,hp,q⟩:=h
 obtain⟨u,rfl,rx⟩:=vals1 r
 cases rx
 obtain⟨o,es,ep,g1,g2,g3,g4,g5,g6,g7⟩:=Xk I.hok hp
 refine PySem.W.kdl_call (CL_ (es:=es) (ep:=ep) g5) (I.ok.hd hc) ⟨o,g1,g2,g3⟩ s!"" fun h' tk acc' c' hk hD hacc=>?_
 let f:DictEntry->V:=fun e=>match e.key with | .ref b=>V.ref b|_=>.non
 have hat:∀(i:Nat) (k:List Key) (v:V),kvs[i]?=some (k,v)->∃b,(es.toList.map f)[i]?=some (V.ref b)/\H b=some (.tup (k.map kV)):=fun i k v hkv=>by
  obtain⟨b,en,e1,e2,e3⟩:=g7 i k v hkv
  refine⟨b,?_,e3⟩
  rw[jh_,xv_,e1]
  show some (f en)=_
  simp only[f,e2]
 have hlen:(es.toList.map f).length=kvs.length:=by rw[jb_,qK_,g4]
 have hv:Vals (es.toList.map f) acc'.toList:=by
  refine Vals.ofIx (by rw[hlen,<-g4];simpa using hacc.1) fun i v hv=>?_
  obtain⟨e,he,rfl⟩:=hacc.2 i v (by simpa using hv)
  have hi:i<kvs.length:=by rw[<-g4];exact (qG_.mp he).1
  obtain⟨b,en,e1,e2,e3⟩:=g7 i kvs[i].1 kvs[i].2 (by simp[hi])
  rw[he]at e1
  cases e1
  refine⟨V.ref b,?_,by rw[e2];rfl⟩
  rw[jh_,xv_,he]
  show some (f e)=_
  simp only[f,e2]
 exact⟨.ref _,_,I.laid (t':=tk) hk (jf_ _) (show Bz X.prog X.w _ h' _ (.lst (es.toList.map f)) from ⟨by rw[hlen];exact g6,acc'.toList,c',hv,by simpa using hD⟩),rfl,q _ _ (I.hok.fresh (jf_ _)) hlen hat⟩
end L2
namespace GB
open GW
variable {α:Type} [DecidableEq α]
noncomputable def Ik_ (step:α->Int->α)(a:α)(ws:α2):α:=ws.foldl step a
noncomputable def put (step:α->Int->α)(r:α)(w:α2)(ents:List (α×α2))(x:Nat):List (α×α2):=if step r x∈ents.map (·.1) then ents else ents++[(step r x,w++[(x:Int)])]
structure B (L:Int)(step:α->Int->α)(st:α)(ok:α->Prop)(ents:List (α×α2))(i:Nat)(top:Int):Prop where
 hd:ents[0]?=some (st,[])
 il:i<=ents.length
 sh:∀(j:Nat) (e:α×α2),ents[j]?=some e->e.2.length<=j
 nod:(ents.map (·.1)).Nodup
 rng:∀e∈ents,ok e.1
 wd:∀e∈ents,isW L e.2=true/\Ik_ step st e.2=e.1
 inc:∀(j k:Nat) (a b:α×α2),j<k->ents[j]?=some a->ents[k]?=some b->BE L a.2<BE L b.2
 bnd:∀e∈ents,BE L e.2<top
 don:∀j,j<i->∀e,ents[j]?=some e->∀x:Int,0<=x->x<L->∃e'∈ents,e'.1=step e.1 x/\BE L e'.2<=BE L (e.2++[x])
variable {L:Int} {step:α->Int->α} {st:α} {ok:α->Prop} {ents:List (α×α2)} {i:Nat} {top:Int}
noncomputable def Il_ (ways:α1)(r:Int)(ws:α2):Int:=ws.foldl (Hp_ ways) r
end GB
namespace L2
open PySem PySem.Spec PyProof.Rows GW GB
noncomputable def TK (H H':Hp):Prop:=∀b xs,H b=some (.tup xs)->H' b=some (.tup xs)
theorem TK.of  (s:Same H H'):TK H H':=fun b xs h=>s b _ h
end L2
namespace L2
theorem Bn_    : DQ_ σ H Q=∀p,H p=none->Q (.ref p) (upd H p (.dK [])):=rfl
theorem Bo_    : DR_ σ H Q=∀p,H p=none->Q (.ref p) (upd H p (.dT [])):=rfl
end L2
namespace GB
open GW
theorem Bp_   (h:isW L v=true)(g:isW L w=true):isW L (v++w)=true:=Bo.mpr fun x hx=>(jx_.mp hx).elim (Bo.mp h x) (Bo.mp g x)
end GB
namespace L2
open PySem PySem.Spec PyProof.Rows
theorem Xl:∀(names:List (Str×NameKind)) (h:Heap) (acc:List (Str×Addr)) (x:Str) (c:Addr),(cellsFrom h.objs.size names acc).lookup x=some c->((pushCells h names).IsCell c none/\h.objs.size<=c)\/acc.lookup x=some c
 |[],_,_,_,_,e=>.inr e
 | (y,k)::r,h,acc,x,c,e=>by
  unfold cellsFrom at e
  unfold pushCells
  by_cases hk:(k == .cell)=true
  ·rw[if_pos hk]at e ⊢
   have e':(cellsFrom (h.push {cls:=.type "cell",data:=.cell none}).objs.size r ((y,h.objs.size)::acc)).lookup x=some c:=by rw[qH_];exact e
   rcases Xl r _ _ x c e' with ⟨a,b⟩|q
   ·rw[qH_]at b
    exact .inl ⟨a,xg_ b⟩
   ·rw[j0_]at q
    cases hx:x==y with
    |true=>
     rw[hx]at q
     have:h.objs.size=c:=jB_ q
     subst this
     exact .inl ⟨⟨_,pushCells_keeps _ _ _ _ (jy_ _ rfl),rfl⟩,jf_ _⟩
    |false=>rw[hx]at q;exact .inr q
  ·rw[if_neg hk]at e ⊢
   exact Xl r h acc x c e
theorem OC:∀(names:List (Str×NameKind)) (n:Nat) (acc:List (Str×Addr)) (x:Str) (c:Addr),(cellsFrom n names acc).lookup x=some c->n<=c\/acc.lookup x=some c
 |[],_,_,_,_,e=>.inr e
 | (y,k)::r,n,acc,x,c,e=>by
  unfold cellsFrom at e
  by_cases hk:(k == .cell)=true
  ·rw[if_pos hk]at e
   rcases OC r _ _ x c e with b|q
   ·exact .inl (xg_ b)
   ·rw[j0_]at q
    cases hx:x==y with
    |true=>rw[hx]at q;have:n=c:=jB_ q;exact .inl (Nat.le_of_eq this)
    |false=>rw[hx]at q;exact .inr q
  ·rw[if_neg hk]at e
   exact OC r n acc x c e
theorem Bq_:∀(names:List (Str×NameKind)) (n:Nat) (acc:List (Str×Addr)),(∀x y c,acc.lookup x=some c->acc.lookup y=some c->x=y)->(∀x c,acc.lookup x=some c->c<n)->∀x y c,(cellsFrom n names acc).lookup x=some c->(cellsFrom n names acc).lookup y=some c->x=y
 |[],_,_,hi,_,x,y,c,e1,e2=>hi x y c e1 e2
 | (z,k)::r,n,acc,hi,hb,x,y,c,e1,e2=>by
  unfold cellsFrom at e1 e2
  by_cases hk:(k == .cell)=true
  ·rw[if_pos hk]at e1 e2
   refine Bq_ r (n+1) ((z,n)::acc) (fun x y c h1 h2=>?_) (fun x c h=>?_) x y c e1 e2
   ·rw[j0_]at h1 h2
    cases hx:x==z with
    |true=>
     cases hy:y==z with
     |true=>rw[zC_.mp hx,zC_.mp hy]
     |false=>
      rw[hx]at h1;rw[hy]at h2
      have e:n=c:=jB_ h1
      exact absurd (hb y c h2) (by rw[<-e];exact jW_ _)
    |false=>
     cases hy:y==z with
     |true=>
      rw[hx]at h1;rw[hy]at h2
      have e:n=c:=jB_ h2
      exact absurd (hb x c h1) (by rw[<-e];exact jW_ _)
     |false=>rw[hx]at h1;rw[hy]at h2;exact hi x y c h1 h2
   ·rw[j0_]at h
    cases hx:x==z with
    |true=>rw[hx]at h;have e:n=c:=jB_ h;rw[<-e];exact Nat.lt_succ_self _
    |false=>rw[hx]at h;exact qR_ (hb x c h)
  ·rw[if_neg hk]at e1 e2
   exact Bq_ r n acc hi hb x y c e1 e2
theorem Xm:∀(names:List (Str×NameKind)) (n:Nat) (acc:List (Str×Addr)) (x:Str),(∀p∈names,p.1=x->p.2 ≠ .cell)->(cellsFrom n names acc).lookup x=acc.lookup x
 |[],_,_,_,_=>rfl
 | (y,k)::r,n,acc,x,h=>by
  unfold cellsFrom
  by_cases hk:(k == .cell)=true
  ·rw[if_pos hk,Xm r _ _ x fun p hp=>h p (jt_ _ hp),j0_]
   cases hx:x==y with
   |true=>exact absurd (zC_.mp hk) (h (y,k) jC_ (zC_.mp hx).symm)
   |false=>rfl
  ·rw[if_neg hk]
   exact Xm r n acc x fun p hp=>h p (jt_ _ hp)
theorem VU      {globals:Addr}
  (hQ:Q {scope:=sc,locals:=s.heap.objs.size,globals,cells:=cellsFrom (s.heap.objs.size+1) sc.names cl,qual,func:=none,code:=outer.code,frame:=outer.frame,builtins:=outer.builtins} {s with heap:=pushCells (s.heap.push {cls:=.type "dict",data:=.dict #[]}) sc.names}):
  wpAny M A (newFunctionEnv sc globals cl [] qual none .none (some outer)) Q E s:=by
 simp only[newFunctionEnv,Option.isSome_some,zE_]
 refine je_ (wpAny_alloc (je_ (wpAny_layCells _ (fun name kind cells=>by cases hkc:kind==NameKind.cell<;>simp[hkc]) _ _ _ _ ?_)))
 rw[show ({s with heap:=s.heap.push {cls:=.type "dict",data:=.dict #[]} }:Shared).heap.objs.size=s.heap.objs.size+1 from qH_ ..]
 refine je_ ?_
 rw[List.forIn_nil]
 exact js_ (js_ hQ)
noncomputable abbrev ownC (X:Cx)(sc:Scope)(C:Addr):List (Str×Addr):=cellsFrom (C+1) sc.names (clOf X.env sc.names [])
noncomputable abbrev Cx.blkC (X:Cx)(N:List Str)(sc:Scope)(C:Addr)(s₀:Shared)(H₀:Hp)(ex:List Addr):Cx:=
 {X with N:=N,env:=compEnvC sc (ownC X sc C) C X.env,outer:=X.stack,s₀:=s₀,H₀:=H₀,ex:=ex,fn:=fun x=>sc.names.lookup x==some .cell,pn:=[],xe:=fun _ _=>False}
theorem OW {env:Env}:∀(l:List (Str×NameKind)) (acc:List (Str×Addr)) (x:Str) (c:Addr),(x,c)∈clOf env l acc->(x,NameKind.free)∈l\/(x,c)∈acc
 |[],_,_,_,h=>.inr h
 | (n,k)::r,acc,x,c,h=>by
  unfold clOf at h
  by_cases hk:(k == .free)=true
  ·rw[if_pos hk]at h
   rcases OW r _ x c h with q|q
   ·exact .inl (jt_ _ q)
   ·rcases jL_.mp q with q|q
    ·cases q
     rw[zC_.mp hk]
     exact .inl jC_
    ·exact .inr q
  ·rw[if_neg hk]at h
   rcases OW r _ x c h with q|q
   ·exact .inl (jt_ _ q)
   ·exact .inr q
structure BlkScC (X:Cx)(sc:Scope):Prop where
 kind:sc.kind=.function
 one:∀y∈sc.names,∀z∈sc.names,y.1=z.1->y.2=z.2
 loc:∀y∈sc.names,y.2=.local->sc.names.lookup y.1=some .local
 free:∀y∈sc.names,y.2=.free->X.env.kindOf y.1=some .cell\/X.env.kindOf y.1=some .free
section
variable {X:Cx} {pins:α7} {σ:St} {H:Hp} {s:Shared} {sc:Scope} {fp:List Addr}
theorem RU (I:Inv X pins σ H s)(S:BlkScC X sc):∀p∈sc.names,p.2=.free->∃c,X.env.cells.lookup p.1=some c:=fun p hp e=>I.ok.has p.1 (S.free p hp e)
theorem HV (I:Inv X pins σ H s)(S:BlkScC X sc)   (h:(clOf X.env sc.names []).lookup x=some c):X.env.cells.lookup x=some c:=
 Oz sc.names [] (RU I S) (fun q hq=>by cases hq) (x,c) (qd_ h)
theorem Mr  (I:Inv X pins σ H s)(S:BlkScC X sc)   (h:(ownC X sc C).lookup x=some c):C+1<=c\/X.env.cells.lookup x=some c:=by
 rcases OC _ _ _ _ _ h with q|q
 ·exact .inl q
 ·exact .inr (HV I S q)
theorem HW {env:Env}:∀{names:List (Str×NameKind)} {x:Str} {k:NameKind},(names.map (relF env)).lookup x=some k->(k=.cell\/k=.free)->(x,NameKind.free)∈names\/names.lookup x=some .cell
 |[],_,_,h,_=>by simp at h
 | (n,k')::r,x,k,h,hk=>by
  have ih := @HW env r x k
  rw[j4_]at h
  rw[j0_]
  by_cases hb:(k'==NameKind.free&&env.scope.kind == .function&&env.kindOf n==some .cell)=true
  ·rw[OA hb,j0_]at h
   cases hx:x==n with
   |true=>
    have e:x=n:=by simpa using hx
    subst e
    have e2:k'=.free:=by
     simp only[qh_]at hb
     simpa using hb.1.1
    subst e2
    exact .inl jC_
   |false=>
    rw[hx]at h
    rcases ih h hk with q|q
    ·exact .inl (jt_ _ q)
    ·exact .inr q
  ·rw[Sz hb,j0_]at h
   cases hx:x==n with
   |true=>
    rw[hx]at h
    have e:x=n:=by simpa using hx
    subst e
    have e2:k'=k:=jB_ h
    subst e2
    rcases hk with rfl|rfl
    ·exact .inr rfl
    ·exact .inl jC_
   |false=>
    rw[hx]at h
    rcases ih h hk with q|q
    ·exact .inl (jt_ _ q)
    ·exact .inr q
theorem Fx_ {N:List Str}{C:Addr}(I:Inv X pins σ H s)(S:BlkScC X sc)(hC:s.heap.objs.size<=C)(hf:∀b∈fp,FpOk X pins H b)(ho:∀b∈fp,∃o,s.heap.get? b=some o):(X.blkC N sc C s H fp).Ok where
 mod:=I.ok.mod
 kind:=S.kind
 glob:=I.ok.glob
 blt:=I.ok.blt
 above:=hC
 inj:=fun x y c h1 h2=>by
  refine Bq_ sc.names (C+1) (clOf X.env sc.names []) (fun x y c h1 h2=>I.ok.inj x y c (HV I S h1) (HV I S h2)) (fun x c h=>?_) x y c h1 h2
  obtain⟨v,q⟩:=I.cell x c (HV I S h)
  exact qR_ (jw_ q.lt hC)
 has:=fun x hx=>by
  have hx':(x,NameKind.free)∈sc.names\/sc.names.lookup x=some .cell:=by
   rcases hx with hx|hx
   ·exact HW (env:=X.env) hx (.inl rfl)
   ·exact HW (env:=X.env) hx (.inr rfl)
  refine Option.isSome_iff_exists.mp (xY_ sc.names (C+1) (clOf X.env sc.names []) ?_)
  rcases hx' with q|q
  ·obtain⟨c,hc⟩:=J4 (env:=X.env) sc.names [] x (.inl q)
   obtain⟨c',e⟩:=Cj hc
   exact .inr (by rw[e];rfl)
  ·exact .inl q
 cab:=fun x c h e=>by
  have hx:sc.names.lookup x=some .cell:=by simpa using h
  rcases OC _ _ _ _ _ e with q|q
  ·exact jV_ hC (xg_ q)
  ·rcases OW _ _ _ _ (qd_ q) with z|z
   ·have:=S.one _ (qd_ hx) _ z rfl
    cases this
   ·cases z
 hd:=I.ok.hd
 frames:=I.ok.frames
 stk:=.inl rfl
 exf:=fun b hb=>by
  obtain⟨o,ho⟩:=ho b hb
  refine⟨jG_ (jw_ (jp_ ho) hC),fun x c h=>?_⟩
  rcases Mr I S h with q|q
  ·intro z;rw[z]at q;exact absurd (jw_ (jp_ ho) hC) (Nat.not_lt_of_le (xg_ q))
  ·exact (hf b hb).2.2.2.2.1 x c q
 bs:=I.bs
 bsz:=jV_ I.ok.bsz I.sz
 noex:=fun b o e hb=>by
  rcases (hf b hb).2.2.2.1 with z|z
  ·exact I.ok.noex b o e z
  ·exact absurd (jw_ (jp_ (I.ok.bs b o e).1) z) (jW_ _)
 exfs:=fun b hb z=>by
  rcases jL_.mp (I.stkSub b z) with e|e
  ·exact (hf b hb).2.1 e
  ·exact (hf b hb).2.2.1 e
 funs:=I.stack
 frf:=I.stkFree
theorem Y8 {c:Caps}{C:Addr}{s4:Shared}{m:Str->α5}(I:Inv X pins σ H s)(S:BlkScC X sc)(hc:Gw X.N sc c)(hC:s.heap.objs.size<=C)(hf:∀b∈fp,FpOk X pins H b)(ho:∀b∈fp,∃o,s.heap.get? b=some o)
  (hos:s4.os=s.os) (hb:s4.gens=s.gens) (hk:∀b o,s.heap.get? b=some o->s4.heap.get? b=some o) (hn:s4.heap.Ns C m)
  (hcl:∀x c,(ownC X sc C).lookup x=some c->(s4.heap.IsCell c none/\C+1<=c)\/(clOf X.env sc.names []).lookup x=some c):Inv (X.blkC c.names sc C s H fp) [] (c.st σ) H s4 where
 ok:=Fx_ I S hC hf ho
 os:=hos
 bare:=by rw[hb];exact I.bare
 base:=Un.kept hk
 loc:=by
  refine⟨m,hn,fun i x v h1 h2 hv=>?_⟩
  have h1':(c.map (·.1))[i]?=some x:=h1
  have h2':(c.map fun p=>p.2.bind fun j=>(σ[j]?).join)[i]?=some (some v):=h2
  rw[jh_]at h1' h2'
  cases e:c[i]? with
  |none=>rw[e]at h1';cases h1'
  |some p=>
   obtain⟨y,oj⟩:=p
   rw[e]at h1' h2'
   have e1:y=x:=jB_ h1'
   subst e1
   have e2:(oj.bind fun j=>(σ[j]?).join)=some v:=jB_ h2'
   cases oj with
   |none=>cases e2
   |some j=>
    have e3:(σ[j]?).join=some v:=e2
    have e4:σ[j]?=some (some v):=by
     cases q:σ[j]? with
     |none=>rw[q]at e3;cases e3
     |some z=>rw[q]at e3;exact qY_ some e3
    obtain⟨k1,k2⟩:=Gw.get hc e
    have kmem:=qd_ k2
    have k3:X.env.kindOf y=some .cell\/X.env.kindOf y=some .free:=S.free (y,.free) kmem rfl
    have vis:Vis X.env.scope y:=by
     rcases k3 with k|k
     ·exact .inr (.inl k)
     ·exact .inr (.inr k)
    obtain⟨mX,hnX,hl⟩:=I.loc
    obtain⟨u,r,l⟩:=hl j y v k1 e4 vis
    refine⟨u,r,?_⟩
    rcases l with ⟨k,_⟩|⟨_,ca,hca,z⟩
    ·rcases k3 with k' | k'<;>(rw[k]at k';cases k')
    ·obtain⟨kd,hkd,ek⟩:=Jb (env:=X.env) k2
     have hk2:(compEnvC sc (ownC X sc C) C X.env).kindOf y=some kd:=ek
     obtain⟨c',hc'⟩:=J4 (env:=X.env) sc.names [] y (.inl kmem)
     obtain⟨c2,hc2⟩:=Cj hc'
     have e5:=HV I S hc2
     rw[hca]at e5
     have e6:ca=c2:=jB_ e5
     subst e6
     have e7:(ownC X sc C).lookup y=some ca:=by
      rw[Xm sc.names (C+1) _ y fun p hp ep z=>?_]
      ·exact hc2
      ·have:=S.one p hp (y,.free) kmem ep
       rw[z]at this;cases this
     refine .inr ⟨?_,ca,e7,?_⟩
     ·rcases hkd with rfl|rfl
      ·exact .inl hk2
      ·exact .inr hk2
     ·obtain⟨oc,hoc,hd⟩:=z
      exact⟨oc,hk _ _ hoc,hd⟩
 cell:=fun x ca h=>by
  rcases hcl x ca h with ⟨q,_⟩|q
  ·exact⟨_,q⟩
  ·obtain⟨v,oc,hoc,hd⟩:=I.cell x ca (HV I S q)
   exact⟨v,oc,hk _ _ hoc,hd⟩
 free:=I.hok.fresh hC
 freeC:=fun x ca h=>by
  rcases hcl x ca h with ⟨_,q⟩|q
  ·exact I.hok.fresh (jV_ hC (xg_ q))
  ·exact I.freeC x ca (HV I S q)
 pin:=fun p hp=>absurd (show p∈([]:α7) from hp) (by simp)
 hok:=I.hok.kept hk
 len:=by show (c.map _).length=(c.map _).length;rw[jb_,jb_]
theorem CN_ {c:Caps}{C D:Addr}{s':Shared}{σ':St}{H':Hp}{o:HO}(I:Inv X pins σ H s)(J:Inv (X.blkC c.names sc C s H fp) [] σ' H' s')(hf:∀b∈fp,FpOk X pins H b)(hD:s.heap.objs.size<=D)(hn:H' D=none)
  (new:Bz X.prog X.w (upd H' D o) s'.heap D o):Inv X pins σ (upd H' D o) s':=by
 have u:Un (frs X.stack) fp H H' s.heap s'.heap:=J.base
 exact I.call' J.os (u.track hD hn) (J.hok.track hn new) J.bare fun b hb=>⟨(hf b hb).2.2.2.1,(hf b hb).2.1,(hf b hb).2.2.2.2.1,(hf b hb).2.2.2.2.2⟩
end
section
variable {X:Cx} {tg iter elt:Expr} {ifs:List Expr} {sc:Scope} {pos:Pos} {wi:TI} {cp:Caps} {g:TG} {tc:TT} {te:TE}
theorem Y9 (hc:X.calm=true)(S:BlkScC X sc)(hcp:Gw X.N sc cp)
  (hg:∀C s₀ H₀ ex,PG (X.blkC cp.names sc C s₀ H₀ ex) tg g) (hf:∀C s₀ H₀ ex,PF (X.blkC cp.names sc C s₀ H₀ ex) ifs tc) (he:∀C s₀ H₀ ex,PE (X.blkC cp.names sc C s₀ H₀ ex) elt te)
  {pins:α7} {σ:St} {H:Hp} {s:Shared} {J:It} {it:Addr} {fp:List Addr} {tn:Nat->Heap->Prop} {Q:VK} {RR:Value->Addr->Result->Shared->Prop} {E:Value->Shared->Prop}
  (I:Inv X pins σ H s) (T:Turn X.prog X.w X.K tg J fp it tn) (st:tn 0 s.heap) (fpo:∀b∈fp,FpOk X pins H b)
  (hw:∃W:Nat->Nat->List V->St->Hp->Prop,(∃m,W 0 m [] (cp.st σ) H)/\∀i m ys σ' H',W i m ys σ' H' ->
   ys.length<sizeLine/\((J.stop i H'/\∀D,H' D=none->Q (.ref D) (upd H' D (.lst ys)))\/(J.go i H'/\∃N:List V->St->Hp->Prop,(∀zs σ2 H2,N zs σ2 H2->∃m',m'<m/\W (i+1) m' zs σ2 H2)/\∀x H2,J.yld i H' x H2->g x σ' H2 fun σ2 H3=>tc σ2 H3 fun b H4=>
    if b=true then te σ2 H4 fun v H5=>N (ys++[v]) σ2 H5 else N ys σ2 H4)))
  (hR:∀D C s' H' (m:Str->α5),Inv X pins σ H' s'->Q (.ref D) H'->s'.heap.Ns C m->H' C=none->C≠X.env.locals->X.s₀.heap.objs.size<=C->(∀x c,X.env.cells.lookup x=some c->c≠C)->(∀p∈X.pn++pins,p.1≠C)->RR (.ref D) C (.ok .next) s'):
  wpAny (model X.prog X.w) X.A (newList []) (fun acc s₃=>wpAny (model X.prog X.w) X.A (newFunctionEnv sc X.env.globals (clOf X.env sc.names []) [] X.env.qual none .none (some X.env)) (fun cenv s₄=>
   codeAny (model X.prog X.w) X.A (.compStart (.ListComp elt [⟨tg,iter,ifs,0⟩] sc pos) 0 (.ref it) acc {cenv with scope:=relabel sc X.env}) (RR acc cenv.locals) s₄) E s₃) E s:=by
 obtain⟨W,⟨m0,w0⟩,turn⟩:=hw
 refine qq_ (VU ?_)
 dsimp only
 generalize hH2:s.heap.push {cls:=.type "list",dict:=none,data:=.seq ([]:List Value).toArray}=H2
 obtain⟨h₁,hh₁⟩:∃h₁,h₁=pushCells (H2.push {cls:=.type "dict",data:=.dict #[]}) sc.names:=⟨_,rfl⟩
 rw[<-hh₁]
 have hcells:∀x c,(ownC X sc H2.objs.size).lookup x=some c->(h₁.IsCell c none/\H2.objs.size+1<=c)\/(clOf X.env sc.names []).lookup x=some c:=fun x c e=>by
  have:=Xl sc.names (H2.push {cls:=.type "dict",data:=.dict #[]}) (clOf X.env sc.names []) x c (by rw[qH_];exact e)
  rw[qH_]at this
  rw[hh₁];exact this
 have hns₁:h₁.Ns H2.objs.size (fun _=>none):=by rw[hh₁];exact (Heap.Ns.new H2 (.type "dict")).keeps (pushCells_keeps _ _)
 have keep₁:∀b o,H2.get? b=some o->h₁.get? b=some o:=fun b o e=>by rw[hh₁];exact pushCells_keeps _ _ b o (jm_ _ e)
 have hC:H2.objs.size=s.heap.objs.size+1:=by rw[<-hH2,qH_]
 have hDC:s.heap.objs.size≠H2.objs.size:=by rw[hC];exact jG_ (Nat.lt_succ_self _)
 have hCle:s.heap.objs.size<=H2.objs.size:=by rw[hC];exact Nat.le_succ _
 have below:∀b,b<s.heap.objs.size->b≠H2.objs.size:=fun b hb=>by rw[hC];exact jG_ (qR_ hb)
 have old:∀b o,s.heap.get? b=some o->h₁.get? b=some o:=fun b o e=>keep₁ b o (hH2 ▸ jm_ _ e)
 have hacc:h₁.get? s.heap.objs.size=some {cls:=.type "list",data:=.seq ([]:List Value).toArray 0}:=keep₁ _ _ (hH2 ▸ jy_ _ rfl)
 have hst₁:tn 0 h₁:=T.keep 0 _ _ st fun b _ o e=>old b o e
 have hobj:∀b∈fp,∃o,s.heap.get? b=some o:=fun b hb=>let ⟨o,e,_⟩:=T.obj 0 _ st b hb;⟨o,e⟩
 have J0:Inv (X.blkC cp.names sc H2.objs.size s H fp) [] (cp.st σ) H {s with heap:=h₁}:=Y8 I S hcp hCle fpo hobj rfl rfl old hns₁ hcells
 have nfs:∀b,s.heap.objs.size<=b->b∉frs X.stack:=fun b hb z=>by
  rcases jL_.mp (I.stkSub b z) with e|e
  ·exact absurd (jw_ I.lt (by rw[<-e];exact hb)) (jW_ _)
  ·exact I.nofs hb e
 have ncell:∀b,s.heap.objs.size<=b->∀x c,X.env.cells.lookup x=some c->c≠b:=fun b hb x c e z=>by
  obtain⟨v,q⟩:=I.cell x c e
  exact absurd (jw_ q.lt (by rw[z];exact hb)) (jW_ _)
 have fpb:∀{pins':α7} {H':Hp},(∀b∈fp,H' b=none)->(∀p∈pins',p.1∉fp)->∀b∈fp,FpOk (X.blkC cp.names sc H2.objs.size s H fp) pins' H' b:=fun {pins' H'} hn hp b hb=>by
  obtain⟨o,e⟩:=hobj b hb
  refine⟨hn b hb,below b (jp_ e),fun z=>?_,.inl hb,fun x c h=>(by
   rcases Mr I S h with q|q
   ·intro z;rw[z]at q;exact absurd (jp_ e) (Nat.not_lt_of_le (jV_ hCle (xg_ q)))
   ·exact (fpo b hb).2.2.2.2.1 x c q),fun p hp' z=>?_⟩
  ·rcases jL_.mp (I.stkSub b z) with e|e
   ·exact (fpo b hb).2.1 e
   ·exact (fpo b hb).2.2.1 e
  ·have hp'':p∈pins':=by simpa using hp'
   exact hp p hp'' (by rw[z];exact hb)
 have loop:∀s₃:Shared,s₃={s with heap:=h₁} ->
   codeAny (model X.prog X.w) X.A (.compLoop (.ListComp elt [⟨tg,iter,ifs,0⟩] sc pos) 0 (.ref it) (.ref s.heap.objs.size) (compEnvC sc (ownC X sc H2.objs.size) H2.objs.size X.env))
    (RR (.ref s.heap.objs.size) H2.objs.size) s₃:=by
  rintro s₃ rfl
  refine Nz (fun n s'=>∃i σ' H' ys its k,Inv (X.blkC cp.names sc H2.objs.size s H fp) [] σ' H' s'/\tn i s'.heap/\(∀b∈fp,H' b=none)/\H' s.heap.objs.size=none /\
   s'.heap.get? s.heap.objs.size=some {cls:=.type "list",data:=.seq its.toArray k}/\Vals ys its/\W i n ys σ' H') ?_ m0
   ⟨0,_,H,[],[],0,J0,hst₁,fun b hb=>(fpo b hb).1,I.hok.fresh (jf_ _),hacc,.nil,w0⟩
  rintro n s3 ⟨i,σ3,H3,ys,its,k,I3,st3,fr3,hD3,e3,rv,w3⟩
  obtain⟨hz,tr⟩:=turn i n ys σ3 H3 w3
  have hlen:=rv.length
  -- the accumulator stands still while anything else runs
  have dpin:∀p ∈ [(s.heap.objs.size,({cls:=.type "list",data:=.seq its.toArray k}:Obj))],p.1∉fp:=fun p hp z=>by
   have e:p=_:=jg_.mp hp
   subst e
   obtain⟨o,e⟩:=hobj _ z
   exact absurd (jp_ e) (jW_ _)
  have I3':Inv (X.blkC cp.names sc H2.objs.size s H fp) [(s.heap.objs.size,({cls:=.type "list",data:=.seq its.toArray k}:Obj))] σ3 H3 s3:=I3.pins_of fun p hp=>by
   have e:p=_:=jg_.mp hp
   subst e
   exact⟨e3,hD3,hDC,nfs _ (jf_ _),fun v z=>by cases z⟩
  have stat:∀b∈fp,FpOk (X.blkC cp.names sc H2.objs.size s H fp) [(s.heap.objs.size,({cls:=.type "list",data:=.seq its.toArray k}:Obj))] H3 b:=fpb fr3 dpin
  rcases tr with ⟨stop,qn⟩|⟨go,N,hN,step⟩
  ·refine thn (T.done (X.blkC cp.names sc H2.objs.size s H fp) rfl rfl rfl hc i _ s3 σ3 H3 _ I3' stat st3 stop) fun r s4 ⟨hr,I4⟩=>?_
   subst hr
   obtain⟨e4,n4,_⟩:=I4.pin (s.heap.objs.size,({cls:=.type "list",data:=.seq its.toArray k}:Obj)) (by simp)
   have new:Bz X.prog X.w (upd H3 s.heap.objs.size (.lst ys)) s4.heap s.heap.objs.size (.lst ys):=⟨x9_ hz,its,k,rv,e4⟩
   obtain⟨mC,hnC,_⟩:=I4.loc
   have I4':Inv (X.blkC cp.names sc H2.objs.size s H fp) [] σ3 H3 s4:=I4.pins_of fun p hp=>by cases hp
   have I5:=CN_ I I4' fpo (jf_ _) n4 new
   refine hR _ _ s4 _ mC I5 (qn _ n4) hnC ?_ (xh_ (jw_ I.lt hCle)) (jV_ I.sz hCle) (ncell _ hCle) fun p hp z=>?_
   ·rw[AD (qT_ hDC)];exact I4.free
   ·exact absurd (jw_ (jp_ (I.pin p hp).1) (by rw[z];exact hCle)) (jW_ _)
  ·refine thn (T.item (X.blkC cp.names sc H2.objs.size s H fp) rfl rfl rfl hc i _ s3 σ3 H3 _ I3' stat st3 go) fun r s4 ⟨u,hr,h4⟩=>?_
   subst hr
   refine thn h4 fun _ s5 ⟨x,H5,I5,r5,y5,st5,fr5⟩=>?_
   have I5':=I5.pinned (fpb fr5 dpin) (T.obj _ _ st5)
   have fin:∀{σ7:St} {H7:Hp} {s7:Shared},Inv (X.blkC cp.names sc H2.objs.size s H fp) ([(s.heap.objs.size,({cls:=.type "list",data:=.seq its.toArray k}:Obj))]++RM fp s5.heap) σ7 H7 s7 ->
     s7.heap.get? s.heap.objs.size=some {cls:=.type "list",data:=.seq its.toArray k}/\H7 s.heap.objs.size=none/\(∀b∈fp,H7 b=none)/\∀b∈fp,∀o,s5.heap.get? b=some o->s7.heap.get? b=some o:=fun {σ7 H7 s7} I7=>by
    obtain⟨e7,n7,_⟩:=I7.pin (s.heap.objs.size,({cls:=.type "list",data:=.seq its.toArray k}:Obj)) (by simp)
    refine⟨e7,n7,fun b hb=>?_,fun b hb o e=>?_⟩
    ·obtain⟨o,e,_⟩:=T.obj _ _ st5 b hb
     exact (I7.pin (b,o) (jP_ _ (jP_ _ (Gp hb e)))).2.1
    ·exact (I7.pin (b,o) (jP_ _ (jP_ _ (Gp hb e)))).1
   refine qL_ (hg _ _ _ _ _ s5 σ3 H5 x u _ I5' r5 (step x H5 y5)) (fun _ s6 ⟨σ6,H6,I6,q6⟩=>?_) fun _ _ z=>False.elim z
   refine qL_ (hf _ _ _ _ _ s6 σ6 H6 _ I6 q6) (fun ok s7 ⟨H7,I7,q7⟩=>?_) fun _ _ z=>False.elim z
   cases ok with
   |false=>
    rw[if_neg jo_]
    rw[if_neg jo_]at q7
    obtain⟨m',hm,w7⟩:=hN _ _ _ q7
    obtain⟨e7,n7,fr7,k7⟩:=fin I7
    exact⟨m',hm,i+1,σ6,H7,ys,its,k,I7.pins_of (fun p hp=>by cases hp),T.keep _ _ _ st5 k7,fr7,n7,e7,rv,w7⟩
   |true=>
    rw[if_pos rfl]
    rw[if_pos rfl]at q7
    refine qL_ (he _ _ _ _ _ s7 σ6 H7 _ I7 q7) (fun v s8 ⟨y,H8,I8,r8,q8⟩=>?_) fun _ _ z=>False.elim z
    obtain⟨m',hm,w8⟩:=hN _ _ _ q8
    obtain⟨e8,n8,fr8,k8⟩:=fin I8
    refine xK_ F.slot_list_append ⟨_,e8,rfl⟩ F.entry_list_append (zk_ _ _) (zB_ s.heap.objs.size its.toArray k v (by rw[jl_];lia)) ⟨e8,?_⟩
    obtain⟨k',q⟩:∃k',(s8.heap.update s.heap.objs.size (Obj.mapSeq fun x=>x.push v)).get? s.heap.objs.size=some {cls:=.type "list",data:=.seq (its++[v]).toArray k' }:=⟨_,by
     have q:=PySem.IsL.update e8 fun x=>x.push v
     have e:(its++[v]).toArray=its.toArray.push v:=by simp
     rw[e]
     exact q⟩
    have I8':Inv (X.blkC cp.names sc H2.objs.size s H fp) [] σ6 H8 s8:=I8.pins_of fun p hp=>by cases hp
    have I9:Inv (X.blkC cp.names sc H2.objs.size s H fp) [] σ6 H8 {s8 with heap:=s8.heap.update s.heap.objs.size (Obj.mapSeq fun x=>x.push v),toks:=s8.toks}:=
     I8'.turned (it:=s.heap.objs.size) (fun b o hb e=>(qu_ _ _ (qT_ hb)).trans e) n8 hDC (.inr (jf_ _)) (fun x c e=>by
      rcases Mr I S e with q|q
      ·intro z;rw[z]at q;exact absurd (jV_ q hCle) (Nat.not_succ_le_self _)
      ·exact ncell _ (jf_ _) x c q) (fun p hp=>by cases hp)
    refine⟨m',hm,i+1,σ6,H8,ys++[y],its++[v],k',I9,T.keep (i+1) s5.heap _ st5 (fun b hb o e=>?_),fr8,n8,q,rv.append (.cons r8 .nil),w8⟩
    ·refine (qu_ _ _ ?_).trans (k8 b hb o e)
     intro z
     obtain⟨ob,eb⟩:=hobj b hb
     exact absurd (jp_ eb) (by rw[<-z];exact jW_ _)
 exact codeAny_compStart_list (loop _ rfl) (T.self _ 0 _ _ _ hst₁ (loop _ rfl))
theorem CO_ (hc:X.calm=true)(S:BlkScC X sc)(hcp:Gw X.N sc cp)(hi:PI X tg iter wi)
  (hg:∀C s₀ H₀ ex,PG (X.blkC cp.names sc C s₀ H₀ ex) tg g) (hf:∀C s₀ H₀ ex,PF (X.blkC cp.names sc C s₀ H₀ ex) ifs tc) (he:∀C s₀ H₀ ex,PE (X.blkC cp.names sc C s₀ H₀ ex) elt te)
  (hs:∀x,foldedSetIterable iter X.env x=pure x:=by intro _;rfl):PE X (.ListComp elt [⟨tg,iter,ifs,0⟩] sc pos) (CD_ wi cp g tc te):=by
 intro pins s σ H Q I h
 rw[eval_ListComp]
 refine xL_ (use:=none) rfl hs (Mp (RU I S)) S.kind S.loc (thn (hi pins s σ H _ I h) fun xv s₁ h₁=>thn h₁ fun itv s₂ h₂=>?_)
 obtain⟨it,fp,tn,J,H2,e,I2,T,st2,f2,hw⟩:=h₂
 subst e
 refine Y9 (RR:=fun acc C=>compPost (model X.prog X.w) X.A X.xe none (EP X pins σ Q) acc C) hc S hcp hg hf he I2 T st2 f2 hw ?_
 intro D C s' H' m I' q hn hC hL hz hcl hp
 exact⟨m,hn,fun h' hs'=>⟨.ref D,H',I'.turned (t':=s'.toks) (it:=C) (fun b o hb e=>hs'.extBut b o hb e) hC hL (.inr hz) hcl hp,rfl,q⟩⟩
end
noncomputable def Es_ (outer:List (Str×NameKind))(sc:Scope):Bool:=
 sc.kind == .function&&sc.names.all (fun y=>(y.2 != .local||sc.names.lookup y.1==some .local)&&(y.2 != .free||outer.lookup y.1==some .cell||outer.lookup y.1==some .free)&&sc.names.all fun z=>y.1 != z.1||y.2==z.2)
theorem Fy_   (h:Es_ X.env.scope.names sc=true):BlkScC X sc:=by
 unfold Es_ at h
 rw[qh_,xF_]at h
 obtain⟨h1,h2⟩:=h
 refine⟨by simpa using h1,fun y hy z hz e=>?_,fun y hy z=>?_,fun y hy z=>?_⟩
 ·have:=h2 y hy
  simp only[qh_,xF_]at this
  have:=this.2 z hz
  rw[e]at this
  simpa using this
 ·have:=h2 y hy
  simp only[qh_]at this
  have:=this.1.1
  rw[z]at this
  simpa using this
 ·have:=h2 y hy
  simp only[qh_]at this
  have:=this.1.2
  rw[z]at this
  have t:(X.env.scope.names.lookup y.1==some .cell||X.env.scope.names.lookup y.1==some .free)=true:=by simpa using this
  rw[Bool.or_eq_true]at t
  rcases t with t|t
  ·exact .inl (by show X.env.scope.names.lookup y.1=some .cell;simpa using t)
  ·exact .inr (by show X.env.scope.names.lookup y.1=some .free;simpa using t)
end L2
namespace L2
open PySem PySem.Spec PyProof.Rows GW
noncomputable def Yr (K:α3)(H:Hp)(xs:List V)(ws:α1):Prop:=xs.length=ws.length/\∀(i:Nat) (w:α2),ws[i]?=some w->∃t,xs[i]?=some (.ref t)/\H t=some (.tup (w.map V.int))
theorem Yr.mono {K:α3}    (h:Yr K H xs ws)(k:TK H H'):Yr K H' xs ws:=by
 refine⟨h.1,fun i w hw=>?_⟩
 obtain⟨t,a,b⟩:=h.2 i w hw
 exact⟨t,a,k _ _ b⟩
theorem CF.ofS {K:α3}     (ha:H a=some (.tup xs))(hb:H b=some (.tup ys))(hz:xs.length+ys.length<=sizeLine)(h:∀p H',Same H H'->H' p=some (.tup (xs++ys))->Q (.ref p) H'):CF K (.ref a) (.ref b) H Q:=by
 refine⟨a,b,xs,ys,rfl,rfl,SqT.of ha,SqT.of hb,hz,fun e=>?_,fun _ e=>?_,fun _ _ p hp=>h p _ (Same.new hp) Ac⟩
 ·subst e;exact h b H (Same.refl _) (by simpa using hb)
 ·subst e;exact h a H (Same.refl _) (by simpa using ha)
theorem Inv.unL        (I:Inv X pins σ H s)(k:∀b o,b∉fp->s.heap.get? b=some o->h'.get? b=some o)(f:∀b∈fp,FpOk X pins H b):Un (frs X.stack) fp H H s.heap h'/\HOk X.prog X.w H h':=by
 have ne:∀b u,H b=some u->b∉fp:=fun b u q hb=>by rw[(f b hb).1]at q;cases q
 refine⟨⟨fun b o q _ _ hb=>k b o hb q,fun b o q _ _ hb=>⟨o.slots,k b o hb q⟩,fun _ _ _ n _=>n,fun b o q hb=>⟨o,k b o hb q⟩,fun _ _ q=>q,fun _ _ _ q=>q,fun b ps q=>⟨#[],by rw[q];simp⟩⟩,fun b u q=>?_⟩
 refine (I.hok b u q).stay (fun c v hc qv=>?_) (fun _ q=>q) fun _ _ q=>q
 have hne:c∉fp:=by
  rcases hc with rfl|hc
  ·exact ne _ _ q
  ·exact ne _ _ hc
 exact k c v hne qv
end L2
namespace GW
noncomputable def ins (s:α1)(w:α2):α1:=if w∈s then s else s++[w]
end GW
namespace L2
open PySem PySem.Spec PyProof.Rows GW
noncomputable def wkey (w:α2):List Key:=w.map Sum.inl
theorem Xn (w:α2):(wkey w).map kV=w.map V.int:=by unfold wkey;rw[jK_];rfl
theorem CP_  (h:wkey v=wkey w):v=w:=(List.map_inj_right (fun x y z=>Sum.inl.inj z)).mp h
noncomputable def Za (ws:α1)(kvs:List (List Key×V)):Prop:=kvs.map (·.1)=ws.map wkey
theorem Za.len   (h:Za ws kvs):kvs.length=ws.length:=by
 have:=qY_ List.length h
 simpa using this
theorem Za.some_iff   (h:Za ws kvs)(w:α2):(valV kvs (wkey w)).isSome=decide (w∈ws):=by
 rw[<-Ld,xe_,q4_,List.any_eq_true]
 constructor
 ·rintro⟨kv,hkv,e⟩
  have e:=xy_ e
  have:wkey w∈ws.map wkey:=by rw[<-h,<-e];exact jv_.mpr ⟨kv,hkv,rfl⟩
  obtain⟨q,hq,e2⟩:=jv_.mp this
  exact CP_ e2 ▸ hq
 ·intro hw
  have:wkey w∈kvs.map (·.1):=by rw[h];exact jv_.mpr ⟨w,hw,rfl⟩
  obtain⟨kv,hkv,e⟩:=jv_.mp this
  exact⟨kv,hkv,qg_ e⟩
end L2
namespace PySem.W
open PySem PySem.Calls PyProof.Rows PyProof.V PySem.Spec
end PySem.W
namespace L2
open PySem PySem.Spec PyProof.Rows
theorem Ys       (ok:HOk P w H h)(e:Rd H a (.dT kvs)):
  ∃o es ep,h.get? a=some o/\o.ExactDict/\o.data=.dict es ep/\es.size=kvs.length/\(a==sysModules)=false/\kvs.length<=sizeLine /\
   ∀(i:Nat) (k:List Key) (v:V),kvs[i]?=some (k,v)->∃b en,es[i]?=some en/\en.key=.ref b/\H b=some (.tup (k.map kV))/\RelV v en.val:=by
 obtain⟨z,y,xs,r,o,es,ep,h1,h2,h3,h4,h5⟩:=(show Bz P w H h a (.dT kvs) from Cy_ ok e)
 have hl:=zm_ r
 have hs:es.size=kvs.length:=by rw[<-qK_,h4,jb_,hl]
 refine⟨o,es,ep,h1,h2,h3,hs,y,z,fun i k v hk=>?_⟩
 obtain⟨q,hq,e1,e2,e3⟩:=J6 r hk
 refine⟨q.2.1,entryOfKey (tupleKind (CG P w)) q,?_,rfl,e2,e3⟩
 rw[<-xv_,h4,jh_,hq];rfl
theorem Im_     (hg:Gl X x)(hm:∃t,X.mg x=some (.int n t))(hd:(x==("__debug__" : Str))=false:=by decide):PE X (.Name x pos) (tC (.int n)):=by
 obtain⟨t,hm⟩:=hm
 exact Mm hg hm ⟨_,rfl⟩ hd
noncomputable def ents (es:List (α2×Int)):List (List Key×V):=es.map fun e=>(wkey e.1,V.int e.2)
theorem OD  (hc:X.calm=true):Hi X (.builtin "sum") (fun xs H Q=>∃(p:Addr) (ns:α2),xs=[.ref p]/\SqL X.K H p (ns.map V.int)/\Q (.int ns.sum) H):=by
 intro pins s σ H xs us Q I r h
 obtain⟨p,ns,rfl,hq,q⟩:=h
 obtain⟨u,rfl,rx⟩:=vals1 r
 cases rx
 obtain⟨its,r',pl,_⟩:=I.list hq
 have i1:IntsAre its ns:=by simpa using intsAre_of r'
 obtain⟨ys,e⟩:=i1.allInts.items
 have e2:=i1.numsOf
 rw[show its=its.toArray.toList from rfl,e,nums_intItems]at e2
 have hl:=pl.isList
 rw[e]at hl
 refine sum_intListG (I.ok.hd hc) hl fun h' tk t' hk=>?_
 rw[preSum_eq,qm_ (by simp),e2]
 exact⟨.int ns.sum,H,I.kept hk,⟨_,rfl⟩,q⟩
end L2
namespace L2
open PySem PySem.W PySem.Spec PySem.Calls PyProof.Rows
noncomputable def Hr_ (K:α3)(Ca:Addr)(E:St->XK)(tb ts:TS):TS:=fun D σ H=>tb D σ H/\∀σ' cls H',E σ' cls none H'->∃C,cls=.ref C/\exmOne K (.ref C) (.ref Ca)=some true/\ts D σ' H'
theorem Et_ {K:α3}       : Hr_ K Ca E tb ts D σ H=(tb D σ H/\∀σ' cls H',E σ' cls none H'->∃C,cls=.ref C/\exmOne K (.ref C) (.ref Ca)=some true/\ts D σ' H'):=rfl
theorem Fz_          (hg:Gl X c)(hm:X.mg c=some (.ref Ca))(hst:X.stack=X.env::X.outer)(hL:X.env.frame=some X.env.locals)(hex:X.ex=[])
  (hb:∀xe pn,(∀σ,Li (CXe X.prog X.w) (X.body xe pn) σ (E σ))->PSs (X.body xe pn) body tb) (hs:∀ea pn,PSs (X.suite ea pn) (b₀::suite) ts) (hd:(c==("__debug__" : Str))=false:=by decide):
  PS X (.Try body [.ExceptHandler (some (.Name c np)) none (b₀::suite) hpos] [] [] pos) (Hr_ X.K Ca E tb ts):=by
 intro pins s σ H D I h
 obtain⟨hbody,hhand⟩:=h
 have hB:=hb (fun e s'=>∃pins' σ' H1 s1,Inv (X.body (fun _ _=>True) (X.pn++pins)) pins' σ' H1 s1/\CXe X.prog X.w X.stack H1 s1 (E σ') e s') (X.pn++pins) (fun σ pins' H s e s' I' hcx=>⟨pins',σ,H,s,I'.reBody,hcx⟩) [] s σ H D I.toBody hbody
 refine wpAny_Try_except (qL_ hB (fun f s1 q=>?_) fun e s1 q=>?_)
 ·cases f with
  |next=>obtain⟨σ1,H1,I1,q1⟩:=q;exact xs_ ⟨σ1,H1,I1.ofBody,q1⟩
  |brk=>obtain⟨σ1,H1,I1,q1⟩:=q;exact⟨σ1,H1,I1.ofBody,q1⟩
  |cont=>obtain⟨σ1,H1,I1,q1⟩:=q;exact⟨σ1,H1,I1.ofBody,q1⟩
  |ret v=>obtain⟨x1,σ1,H1,I1,r1,q1⟩:=q;exact⟨x1,σ1,H1,I1.ofBody,r1,q1⟩
 ·obtain⟨pins',σ',H1,s2,I2,ea,cls,a0,H',B,rfl,os,bare,fl,fw,hE⟩:=q
  obtain⟨C,rfl,hexm,hts⟩:=hhand σ' cls H' hE
  have I2':Inv X pins σ' H1 s2:=I2.ofBody
  have fr:X.A.frames=some (X.env::X.outer):=by rw[I.ok.frames,hst]
  have frees:=Lh I2' fl
  have fw0:=fw
  rw[hst]at fw
  have invAt:∀h',Heap.FlyingW B (X.env::X.outer) ea (.ref C) a0 h'->s1.heap.UpToSlots h'->Inv X pins σ' H' {s1 with heap:=h' }:=fun h' fw' ups=>by
   have fl2:=fl.move frees fw'.1 (fun b hb o e=>by
    obtain⟨_,o',ho',nf⟩:=fw0.2.2.1.mem hb
    rw[e]at ho';cases ho'
    exact ups b o e nf)
   exact I2'.call' (s':={s1 with heap:=h' }) os fl2.un fl2.hok bare (fun b hb=>by cases hb)
  refine wpAny_looks_onW fr hL fw fun h4 held4 up4=>?_
  refine wpAny_landsW held4 fun h5 fw5 up5=>?_
  have I5:=invAt h5 fw5 (up4.trans up5)
  have I5m:Inv (X.suite ea (X.pn++pins)) [] σ' H' {s1 with heap:=h5}:=I5.toSuite
  refine wpAny_handleBy_cons (codeAny_handlers_test (OH (X:=X.suite ea (X.pn++pins)) I5m hg hm ?_ hd)) (by intro q;cases q)
  have LT:PySem.W.Looks (model X.prog X.w) h5 (typeOf (.ref ea)) (.ref C):=by
   obtain⟨ob,hob,hoc⟩:=fw5.there
   exact hoc ▸ (PySem.W.Looks.ld hob).andThen .now
  refine (PySem.W.exm_one (K:=X.K) (M:=model X.prog X.w) I5.kIn LT hexm) _ _ _ _ (fun b o e=>e) ?_
  refine codeAny_handlers_suite ?_
  refine lands_againW fw5 fun h6 fw6 up6=>?_
  have I6:=invAt h6 fw6 ((up4.trans up5).trans up6)
  refine qL_ (hs ea (X.pn++pins) [] _ _ _ D I6.toSuite hts) (fun f s8 q8=>?_) (fun _ _ z=>False.elim z)
  cases f with
  |next=>obtain⟨σ8,H8,I8,q⟩:=q8;exact⟨σ8,H8,I8.ofSuite I.ok.hd,q⟩
  |brk=>obtain⟨σ8,H8,I8,q⟩:=q8;exact⟨σ8,H8,I8.ofSuite I.ok.hd,q⟩
  |cont=>obtain⟨σ8,H8,I8,q⟩:=q8;exact⟨σ8,H8,I8.ofSuite I.ok.hd,q⟩
  |ret v=>obtain⟨x8,σ8,H8,I8,r8,q⟩:=q8;exact⟨x8,σ8,H8,I8.ofSuite I.ok.hd,r8,q⟩
end L2
namespace PrimeO
noncomputable def HX (p:Nat):Prop:=∀d,2<=d->d<p->p%d≠0
theorem HX.small  (hp:2<=p)(hk:p<k*k)(h:∀d,2<=d->d<k->d<p->p%d≠0):HX p:=by
 intro d h1 h2 h3
 by_cases hd:d<k
 ·exact h d h1 hd h2 h3
 ·have e:d*(p / d)=p:=by have:=Nat.div_add_mod p d;lia
  generalize p / d=q at e
  have hq0:q≠0:=fun z=>by rw[z]at e;lia
  have hq1:q≠1:=fun z=>by rw[z]at e;lia
  have hqk:q<k:=by
   refine Nat.lt_of_not_le fun z=>?_
   have:=qz_ (xE_ hd) z
   lia
  refine h q s!"" hqk ?_ (by rw[<-e];exact Nat.mul_mod_left d q)
  have:2*q<=d*q:=Nat.mul_le_mul_right q h1
  lia
noncomputable def chk (p lo:Nat):Nat->Bool
 |0=>(Nat.beq (Nat.mod p lo) 0).not
 |n+1=>(chk p lo n).and (chk p (Nat.add lo (Nat.pow 2 n)) n)
theorem SI (p:Nat):∀(n lo:Nat),chk p lo n=true->∀d,lo<=d->d<lo+2 ^ n->p%d≠0
 |0,lo,h,d,h1,h2=>by
  have:d=lo:=by simp at h2;lia
  subst this
  intro z
  have z':Nat.mod p d=0:=z
  unfold chk at h
  rw[z']at h
  simp at h
 |n+1,lo,h,d,h1,h2=>by
  unfold chk at h
  have h':=Bool.and_eq_true_iff.mp h
  by_cases hd:d<lo+2 ^ n
  ·exact SI p n lo h'.1 d h1 hd
  ·have e:lo+2 ^ n+2 ^ n=lo+2 ^ (n+1):=by rw[Nat.pow_succ];lia
   exact SI p n (lo+2 ^ n) h'.2 d s!"" s!""
theorem Hj  (hp:2<=p)(h:chk p 2 n=true)(hk:p<(2+2 ^ n)*(2+2 ^ n)):HX p:=
 HX.small hp hk fun d h1 h2 _=>SI p n 2 h d h1 h2
theorem nd2:HX 2:=fun d h1 h2=>by lia
theorem nd3:HX 3:=fun d h1 h2=>by
 have:d=2:=by lia
 subst this;decide
theorem nd5:HX 5:=Hj (n:=0) (by decide) (by decide) (by decide)
theorem nd7:HX 7:=Hj (n:=0) (by decide) (by decide) (by decide)
theorem FA_:HX 65537:=Hj (n:=8) (by decide) (by decide +kernel) (by decide +kernel)
theorem In_:HX 998244353:=Hj (n:=15) (by decide) (by decide +kernel) (by decide +kernel)
theorem Hs_:HX 2147483647:=Hj (n:=16) (by decide) (by decide +kernel) (by decide +kernel)
theorem Eu_:∀(m n:Nat) (f:Nat->Nat),(∀i,i<n->f i<m)->(∀i j,i<j->j<n->f i≠f j)->n<=m
 |0,n,f,h,_=>by
  refine xE_ fun z=>?_
  exact absurd (h 0 z) (Nat.not_lt_zero _)
 |m+1,0,f,_,_=>qt_ _
 |m+1,n+1,f,h,g=>by
  -- the last value is taken out: whoever has the value m takes the value of the last one
  let f':Nat->Nat:=fun i=>if f i=m then f n else f i
  refine Nat.succ_le_succ (Eu_ m n f' (fun i hi=>?_) (fun i j hij hj=>?_))
  ·show (if f i=m then f n else f i)<m
   by_cases e:f i=m
   ·rw[if_pos e]
    have h1:=h n s!""
    have h2:=g i n hi s!""
    lia
   ·rw[if_neg e]
    have:=h i s!""
    lia
  ·show (if f i=m then f n else f i)≠(if f j=m then f n else f j)
   have a:=g i j hij s!""
   have b:=g i n s!"" s!""
   have c:=g j n s!"" s!""
   by_cases e:f i=m
   ·rw[if_pos e]
    by_cases e':f j=m
    ·lia
    ·rw[if_neg e'];lia
   ·rw[if_neg e]
    by_cases e':f j=m
    ·rw[if_pos e'];exact b
    ·rw[if_neg e'];exact a
theorem pow_one {q x:Int}(h:q ∣ x-1):∀n:Nat,q ∣ x ^ n-1
 |0=>by simp
 |n+1=>by
  have e:x ^ (n+1)-1=x ^ n*(x-1)+(x ^ n-1):=by
   rw[zc_,Int.mul_sub];lia
  rw[e]
  exact Int.dvd_add (qM_ h) (pow_one h n)
theorem Br_ {q x:Int}(h:q ∣ x+1):∀n:Nat,q ∣ x ^ (2*n+1)+1
 |0=>by rw[show 2*0+1=1 from rfl,zc_,Int.pow_zero,zt_];exact h
 |n+1=>by
  have e:x ^ (2*(n+1)+1)+1=x*x*(x ^ (2*n+1)+1)-(x-1)*(x+1):=by
   have:x ^ (2*(n+1)+1)=x*x*x ^ (2*n+1):=by
    rw[show 2*(n+1)+1=2*n+1+1+1 from by lia,zc_,zc_,qZ_,xj_]
   rw[this,x6_,x6_,zF_,zD_,zD_,zt_];lia
  rw[e]
  exact zG_ (qM_ (Br_ h n)) (qM_ h)
theorem CQ_:∀(d:Nat),0<d->∃k m,d=2 ^ k*(2*m+1):=by
 intro d
 induction d using Nat.strongRecOn with
 |ind d ih=>
  intro hd
  by_cases h:d%2=0
  ·obtain⟨k,m,e⟩:=ih (d / 2) s!"" s!""
   refine⟨k+1,m,?_⟩
   rw[Nat.pow_succ,Nat.mul_right_comm,<-e];lia
  ·exact⟨0,d / 2,by simp;lia⟩
theorem Io_ {q b:Nat}{e:Nat}(hq:3<=q)(h:(q:Int) ∣ (b:Int) ^ (2 ^ e)+1):2 ^ (e+1)<=q:=by
 have hb:Int.gcd (b:Int) q=1:=by
  have h1:((Int.gcd (b:Int) q:Nat):Int) ∣ (b:Int):=Int.gcd_dvd_left ..
  have h2:((Int.gcd (b:Int) q:Nat):Int) ∣ (q:Int):=Int.gcd_dvd_right ..
  have h3:=Int.dvd_trans h2 h
  have h4:((Int.gcd (b:Int) q:Nat):Int) ∣ (b:Int) ^ (2 ^ e):=by
   obtain⟨c,hc⟩:∃c,2 ^ e=c+1:=⟨2 ^ e-1,by have:=Nat.two_pow_pos e;lia⟩
   rw[hc,zc_]
   exact qM_ h1
  have h5:((Int.gcd (b:Int) q:Nat):Int) ∣ 1:=by
   have:=zG_ h3 h4
   rwa [show (b:Int) ^ (2 ^ e)+1-(b:Int) ^ (2 ^ e)=1 from by lia]at this
  have:=Int.le_of_dvd (by decide) h5
  have h6:Int.gcd (b:Int) q≠0:=fun z=>by
   have:=Int.gcd_eq_zero_iff.mp z
   lia
  lia
 refine Eu_ q (2 ^ (e+1)) (fun i=>b ^ i%q) (fun i _=>Nat.mod_lt _ s!"") (fun i j hij hj hm=>?_)
 -- q divides b ^ (j-i)-1
 have hm:b ^ i%q=b ^ j%q:=hm
 have d1:(q:Int) ∣ (b:Int) ^ i*((b:Int) ^ (j-i)-1):=by
  have e1:(b:Int) ^ i*((b:Int) ^ (j-i)-1)=((b ^ j:Nat):Int)-((b ^ i:Nat):Int):=by
   rw[Int.mul_sub,<-Int.pow_add,show i+(j-i)=j from by lia,zD_,Int.natCast_pow,Int.natCast_pow]
  rw[e1]
  refine qD_ ?_
  have:((b ^ i:Nat):Int)%q=((b ^ j:Nat):Int)%q:=by exact_mod_cast hm
  exact jI_.mp this.symm
 have cop:∀n:Nat,(Int.gcd ((b:Int) ^ n) q)=1:=fun n=>by
  induction n with
  |zero=>simp
  |succ n ih=>rw[zc_,Int.gcd_mul_right_left_of_gcd_eq_one ih];exact hb
 have d2:(q:Int) ∣ (b:Int) ^ (j-i)-1:=by
  refine Int.natAbs_dvd_natAbs.mp ?_
  have:=Int.natAbs_dvd_natAbs.mpr d1
  rw[Int.natAbs_mul]at this
  exact Nat.Coprime.dvd_of_dvd_mul_left (show Nat.Coprime _ _ from by have:=cop i;rw[Int.gcd_comm]at this;exact this) this
 obtain⟨k,m,hd⟩:=CQ_ (j-i) s!""
 have hk:k<=e:=by
  refine xE_ fun z=>?_
  have h1:2 ^ (e+1)<=2 ^ k:=Nat.pow_le_pow_right (by decide) z
  have h2:2 ^ k*1<=2 ^ k*(2*m+1):=Nat.mul_le_mul_left _ s!""
  lia
 have d3:=pow_one d2 (2 ^ (e-k))
 rw[<-Int.pow_mul,hd,show 2 ^ k*(2*m+1)*2 ^ (e-k)=2 ^ e*(2*m+1) from by
  rw[Nat.mul_right_comm,<-Nat.pow_add,show k+(e-k)=e from by lia],Int.pow_mul]at d3
 have d4:=Br_ h m
 have d5:=zG_ d4 d3
 rw[show ((b:Int) ^ 2 ^ e) ^ (2*m+1)+1-(((b:Int) ^ 2 ^ e) ^ (2*m+1)-1)=2 from by lia]at d5
 have:=Int.le_of_dvd (by decide) d5
 lia
noncomputable def CR_ (p:Nat):List Nat->Bool
 |[]=>true
 |a::l=>match l with
  |[]=>true
  |b::_=>(Nat.beq (Nat.mod (Nat.mul a a) p) b).and (CR_ p l)
theorem RV {p:Nat}:∀(l:List Nat) (a z:Nat),CR_ p (a::l)=true->(a::l).getLast?=some z->z<p->a<p->a ^ (2 ^ l.length)%p=z
 |[],a,z,_,h,_,ha=>by simp at h;subst h;simp[Nat.mod_eq_of_lt ha]
 |b::l,a,z,hc,h,hz,ha=>by
  unfold CR_ at hc
  have hc:=Bool.and_eq_true_iff.mp hc
  have e1:a*a%p=b:=Nat.eq_of_beq_eq_true hc.1
  have hb:b<p:=by rw[<-e1];exact Nat.mod_lt _ s!""
  have:=RV l b z hc.2 (by simpa using h) hz hb
  rw[q7_,Nat.pow_succ,Nat.mul_comm,Nat.pow_mul,Nat.pow_two,Nat.pow_mod,e1]
  exact this
theorem Ip_   (hc:CR_ p (b::l)=true)(hl:(b::l).getLast?=some (p-1))(hp:2<=p)(hb:b<p)(q:Nat)(hq:3<=q)(h:p%q=0):2 ^ (l.length+1)<=q:=by
 have hs:=RV l b (p-1) hc hl s!"" hb
 generalize l.length=e at hs
 generalize hB:b ^ (2 ^ e)=B at hs
 have hd:(p:Int) ∣ (b:Int) ^ (2 ^ e)+1:=by
  rw[<-Int.natCast_pow,hB]
  have e1:(B+1)%p=0:=by
   rw[Nat.add_mod,hs]
   by_cases h1:p=1
   ·lia
   ·rw[Nat.mod_eq_of_lt (show 1<p by lia),show p-1+1=p from by lia,Nat.mod_self]
  have:=Nat.dvd_of_mod_eq_zero e1
  exact_mod_cast this
 exact Io_ hq (Int.dvd_trans (Int.natCast_dvd_natCast.mpr (Nat.dvd_of_mod_eq_zero h)) hd)
theorem Bs_  (big:∀q,2<=q->p%q=0->m<=q)(hm:p<m*m):HX p:=by
 intro d h1 h2 h3
 have e:d*(p / d)=p:=by have:=Nat.div_add_mod p d;lia
 generalize p / d=q at e
 have hq0:q≠0:=fun z=>by rw[z]at e;lia
 have hq1:q≠1:=fun z=>by rw[z]at e;lia
 have a:=big d h1 h3
 have b:=big q s!"" (by rw[<-e];exact Nat.mul_mod_left d q)
 have:=qz_ a b
 lia
noncomputable def Ht_:List Nat:=[59049,3486784401,88018457703999454,45929738478236762,40666034766347230,7693334418966794,176686083274693707,64249661930383583,109385274370896747,125617409189584062,109468562634608601,122701423696867897,35622580771213151,82435950289412150,18627153503673630,120469760524761789,172035590580311624,13190307153726193,3107064753164151,70140624860640424,166009780229527061,23535563731210449,68090728368441414,150068836334812601,160932145882353616,92767654578329832,20253417367123262,76076963643055978,116396373174297913,124091118791727052,120512899165957516,106587366619394153,174473325657852776,42422798089771761,51278126999645464,27655269229009543,75436749302249212,127846334706536764,179803962838676295,39860844515238771,117110086334503012,28926655053941789,99636062047316279,57472177291655405,45590227996605173,164322947671277915,78463280652552016,5197029465238183,37154148892138879,155338536803674377,66159313984295070,171458397805620753,174530742592475567,180143985094819840]
theorem Iq_:HX 180143985094819841:=Bs_ (m:=36028797018963968) (fun q hq h=>by
  have h2:q≠2:=fun z=>by subst z;exact absurd h (by decide +kernel)
  have:=Ip_ (p:=180143985094819841) (b:=243) (l:=Ht_) (by decide +kernel) (by decide +kernel) (by decide +kernel) (by decide +kernel) q s!"" h
  rwa [show 2 ^ (Ht_.length+1)=36028797018963968 from by decide +kernel]at this) (by decide +kernel)
theorem HX.gcd  (h:HX p)  (h0:0<x)(h1:x<p):Nat.gcd x p=1:=by
 have g1:Nat.gcd x p<=x:=Nat.le_of_dvd h0 (Nat.gcd_dvd_left ..)
 have g0:0<Nat.gcd x p:=Nat.gcd_pos_of_pos_left _ h0
 refine qk_ fun z=>?_
 exact h (Nat.gcd x p) s!"" s!"" (Nat.mod_eq_zero_of_dvd (Nat.gcd_dvd_right ..))
noncomputable def Pr (p:Int):Prop:=2<=p/\p<1000000000000000000/\HX p.toNat
theorem Pr.gcd  (h:Pr p)(h0:0<x)(h1:x<p):Int.gcd x p=1:=by
 have:=h.2.2.gcd (x:=x.toNat) s!"" s!""
 have e:Int.gcd x p=Nat.gcd x.toNat p.toNat:=by
  unfold Int.gcd
  rw[show x.natAbs=x.toNat from by lia,show p.natAbs=p.toNat from by have:=h.1;lia]
 rw[e];exact this
theorem FB_:∀p ∈ [(2:Int),3,5,7,65537,998244353,2147483647,180143985094819841],Pr p:=by
 intro p hp
 simp at hp
 rcases hp with rfl|rfl|rfl|rfl|rfl|rfl|rfl|rfl
 ·exact⟨by decide,by decide,nd2⟩
 ·exact⟨by decide,by decide,nd3⟩
 ·exact⟨by decide,by decide,nd5⟩
 ·exact⟨by decide,by decide,nd7⟩
 ·exact⟨by decide,by decide,FA_⟩
 ·exact⟨by decide,by decide,In_⟩
 ·exact⟨by decide,by decide,Hs_⟩
 ·exact⟨by decide,by decide,Iq_⟩
end PrimeO
namespace L2
open PySem PySem.Spec PyProof.Rows
noncomputable def Yt (i:Nat)(f f':Addr)(sp sp':Sp)(dvs dvs':List V)(E:St->XK)(t:TA):TE:=fun σ H Q=>tVar i σ H fun v H1=>(v=.ref f/\t σ H1 fun vs H2=>sp (vs++dvs) H2 Q (E σ))\/(v=.ref f'/\t σ H1 fun vs H2=>sp' (vs++dvs') H2 Q (E σ))
theorem VW          : Yt i f f' sp sp' dvs dvs' E t σ H Q=tVar i σ H fun v H1=>(v=.ref f/\t σ H1 fun vs H2=>sp (vs++dvs) H2 Q (E σ))\/(v=.ref f'/\t σ H1 fun vs H2=>sp' (vs++dvs') H2 Q (E σ)):=rfl
theorem CS_  : OpR X (binaryOp .FloorDiv) (rI (fun _ j=>0<j/\j<1208925819614629174706176) fun i j=>.int (i / j)):=opI fun i j _ _ _ _ _ hc q=>by
 have h1:(0:Int)<j:=hc.1
 have h2:j<1208925819614629174706176:=hc.2
 refine floordiv_int s!"" (by rw[Int.fdiv_eq_ediv_of_nonneg i s!""];exact q) (.inl (PyProof.noPylong_of_log2 ?_))
 have:j.natAbs<2 ^ 80:=by
  rw[show (2:Nat) ^ 80=1208925819614629174706176 from by decide];lia
 have:=(Nat.log2_lt (n:=j.natAbs) (k:=80) s!"").mpr this
 lia
theorem Bt_     : Gy_ A σ H Z=A σ H fun vs H1=>∃i j:Int,vs=[.int i,.int j]/\(-(2 ^ 62)<=i/\i<2 ^ 62 /\ -(2 ^ 62)<=j/\j<2 ^ 62)/\Z (Itr i (j-i).toNat) H1:=rfl
section
variable {X:Cx} {CX CX':CXT} {k k':Nat} {f f':Addr} {fd fd':α6} {ps ps':List Str} {sp sp':Sp} {dvs dvs':List V} {ds ds':List Value} {x:Str} {p pos:Pos} {e:Expr} {es:List Expr} {t:TA}
theorem RW  (i:Nat)(F:FnOk X.prog X.w X.K X.mg X.base CX k f fd ps sp)(hr:Room k X.A)(hk:keepIn X.K (.ref f)=true)(hb:AI X.K fd ps ds)(hd:Vals dvs ds)(hx:∀σ,Li CX X σ (E σ))
  (F':FnOk X.prog X.w X.K X.mg X.base CX' k' f' fd' ps' sp') (hr':Room k' X.A) (hk':keepIn X.K (.ref f')=true) (hb':AI X.K fd' ps' ds') (hd':Vals dvs' ds') (hx':∀σ,Li CX' X σ (E σ)) (ha:PA X (e::es) t)
  (hN:X.N[i]?=some x:=by rfl) (hv:Vis X.env.scope x:=by first|exact Or.inl rfl|exact Or.inr (Or.inl rfl)|exact Or.inr (Or.inr rfl)) (hdb:(x==("__debug__" : Str))=false:=by decide) (hcd:(x==("__classdict__" : Str))=false:=by decide)
  (he:starEach (e::es) X.env=(false,eval e X.env)::starEach es X.env:=by rfl) (hpl:(backTo pos (starEach es X.env)).any (·.1)=false:=by rfl):
  PE X (.Call (.Name x p) (e::es) [] pos) (Yt i f f' sp sp' dvs dvs' E t):=by
 intro pins s σ H Q I h
 refine xq_ (thn (pv i hN hv hdb hcd pins s σ H _ I h) fun u s1 ⟨v,H1,I1,rv,ev⟩=>?_)
 rcases ev with ⟨ev,q⟩|⟨ev,q⟩
 ·subst ev
  obtain rfl:u=Value.ref f:=rv
  refine zw_ (h₀:=X.base) I.ok.mod.kin hk (thn (ha pos pins s1 σ H1 _ I1 q) fun us s2 ⟨vs,H2,I2,r,q2⟩=>⟨I2.kIn,?_⟩) he hpl
  exact Be_ F hr hb hd (hx σ) I2 r q2
 ·subst ev
  obtain rfl:u=Value.ref f':=rv
  refine zw_ (h₀:=X.base) I.ok.mod.kin hk' (thn (ha pos pins s1 σ H1 _ I1 q) fun us s2 ⟨vs,H2,I2,r,q2⟩=>⟨I2.kIn,?_⟩) he hpl
  exact Be_ F' hr' hb' hd' (hx' σ) I2 r q2
end
end L2
namespace PySem
open Sem (wp)
open PySem.F
noncomputable def Gz (t:Bool)(h:Heap)(l:Addr)(xs:Array Value):Prop:=match t with|false=>h.IsList l xs|true=>h.IsTuple l xs
noncomputable def Fn (t:Bool)(h:Heap)(i l:Addr)(k:Nat):Prop:=match t with|false=>h.IsListIter i l k|true=>h.IsTupleIter i l k
theorem Gz.extBut   {a b items}(x:Gz t h a items)(hs:Heap.ExtBut b h h')(hab:a≠b):Gz t h' a items:=by
 cases t
 ·exact Heap.IsList.extBut x hs hab
 ·exact Heap.IsTuple.extBut x hs hab
theorem Gz.push   {a items}(x:Gz t h a items)(o:Obj):Gz t (h.push o) a items:=by
 cases t
 ·exact Heap.IsList.push x o
 ·exact Heap.IsTuple.push x o
theorem Gz.lt   {a items}(x:Gz t h a items):a<h.objs.size:=by
 cases t
 ·obtain⟨_,e,_⟩:=x;exact jp_ e
 ·obtain⟨_,e,_⟩:=x;exact jp_ e
theorem Fn.extBut   {a b l i}(x:Fn t h a l i)(hs:Heap.ExtBut b h h')(hab:a≠b):Fn t h' a l i:=by
 cases t
 ·exact Heap.IsListIter.extBut x hs hab
 ·exact Heap.IsTupleIter.extBut x hs hab
theorem Fn.at   {a l i}(x:Fn t h a l i)(e:∀o,h.get? a=some o->h'.get? a=some o):Fn t h' a l i:=by
 cases t
 ·exact Heap.IsListIter.at x e
 ·exact Heap.IsTupleIter.at x e
theorem Fn.ob   {a l i}(x:Fn t h a l i):∃o,h.get? a=some o/\o.data=.fields #[.ref l,.int i 0]:=by
 cases t
 ·obtain⟨o,e,_,d⟩:=x;exact⟨o,e,d⟩
 ·obtain⟨o,e,_,d⟩:=x;exact⟨o,e,d⟩
section
variable {prog:Program} {w:World} {A:Around} {E:Value->Shared->Prop} {s:Shared}
theorem Bu_  {it l:Addr}    (hit:Fn t s.heap it l i)(hl:Gz t s.heap l items)
  (hQ:∀x h',items[i]?=some x->Fn t h' it l (i+1)->Heap.SameBut it s.heap h'->Q x {s with heap:=h' })
  (hE:items[i]?=none->A.handled=none/\∀h' e,Heap.ExtBut it s.heap h'->(∃o,h'.get? e=some o/\o.cls=.type "StopIteration")->E (.ref e) {s with heap:=h' }):wpAny (model prog w) A (Builtin.SmallTypes.nextOf (.ref it)) Q E s:=by
 cases t
 ·cases hx:items[i]? with
  |some x=>exact wpAny_nextOf_list_item hit hl hx fun h'=>hQ x h' hx
  |none=>exact wpAny_nextOf_list_end (hE hx).1 hit hl hx (hE hx).2
 ·exact Mq hit hl hQ hE
noncomputable def FC_ (t:Bool):Value:=match t with|false=>.type "list_iterator" |true=>.type "tuple_iterator"
theorem Fn.mk    (g:h.get? a=some {cls:=FC_ t,data:=.fields #[.ref l,.int 0 0]}):Fn t h a l 0:=by
 cases t
 ·exact⟨_,g,rfl,rfl⟩
 ·exact⟨_,g,rfl,rfl⟩
theorem NV   {items}  (hl:Gz t s.heap l items)
  (hQ:Q (.ref s.heap.objs.size) {s with heap:=s.heap.push {cls:=FC_ t,data:=.fields #[.ref l,.int 0 0]} }):wpAny (model prog w) A (pyIter (.ref l)) Q E s:=by
 cases t
 ·exact x2_ hl hQ
 ·exact xp_ hl hQ
end
section
variable {prog:Program} {w:World} {A:Around} {E:Value->Shared->Prop} {s:Shared}
theorem Xo   {items}  (hl:Gz t s.heap l items)(h:∀h',s.heap.push {cls:=FC_ t,data:=.fields #[.ref l,.int 0 0]}=h'->Q (.ref s.heap.objs.size) {s with heap:=h' }):wpAny (model prog w) A (pyIter (.ref l)) Q E s:=NV hl (h _ rfl)
theorem zipN  {z TI TO i1 i2 l1 l2:Addr}     (D:ZipApart z TI TO i1 i2 l1 l2)(hz:IsZip s.heap z TI TO .none)(hTI:IsPair s.heap TI (.ref i1) (.ref i2))(hTO:IsPair s.heap TO a b)
  (h1:Fn t1 s.heap i1 l1 k1) (h2:Fn t2 s.heap i2 l2 k2) (hl1:Gz t1 s.heap l1 xs) (hl2:Gz t2 s.heap l2 ys)
  (hQ:∀x y h',xs[k1]?=some x->ys[k2]?=some y->IsZip h' z TI TO (rawInt s.heap.objs.size)->IsPair h' TO x y->Fn t1 h' i1 l1 (k1+1)->Fn t2 h' i2 l2 (k2+1)->IsPair h' s.heap.objs.size x y->h'.objs.size=s.heap.objs.size+1->(∀c o,c≠z->c≠TO->c≠i1->c≠i2->s.heap.get? c=some o->h'.get? c=some o)->Q (some (.ref s.heap.objs.size)) {s with heap:=h' })
  (hN:xs[k1]?=none\/ys[k2]?=none->A.handled=none/\∀h',(∀c o,c≠z->c≠TO->c≠i1->c≠i2->s.heap.get? c=some o->h'.get? c=some o)->Q none {s with heap:=h' }):wpAny (model prog w) A (pyNext (.ref z)) Q E s:=by
 have hT:s.TypeIs (.ref z) "zip" := ⟨_,hz,rfl⟩
 have e1:=F.slot_zip_next
 unfold pyNext
 refine je_ (xS_ (qB_ hT e1 (qy_ e1 hT F.entry_zip_next ?_ (F.args_zip_next_1 _))))
 wp_walk using q8_ hz
 ·exact qU_ rfl
 intro u0 g0 k0
 replace g0:IsZip u0 z TI TO .ellipsis:=g0
 have m1:Fn t1 u0 i1 l1 k1:=h1.extBut k0.extBut D.i1z
 have m2:Gz t1 u0 l1 xs:=hl1.extBut k0.extBut D.l1z
 simp only[List.zipIdx_cons,List.zipIdx_nil,List.forIn_cons,List.forIn_nil]
 have stop:∀h' (e:Addr),(∀c o,c≠z->c≠TO->c≠i1->c≠i2->s.heap.get? c=some o->h'.get? c=some o)->IsZip h' z TI TO .ellipsis->(∃o,h'.get? e=some o/\o.cls=.type "StopIteration")->xs[k1]?=none\/ys[k2]?=none ->
   wpAny (model prog w) A.in1 (setField (.ref z) 0 .none) (fun _ s''=>wpAny (model prog w) A (do if <- isInstance (.ref e) (.type "StopIteration") then pure none else throw (.ref e)) Q E s'') (fun e s'=>wpAny (model prog w) A (do if <- isInstance e (.type "StopIteration") then pure none else throw e) Q E s') {s with heap:=h' }:=fun h' e kk hz' he hx=>by
  obtain⟨o,e2,e3⟩:=he
  have n:e≠z:=fun x=>by subst x;rw[hz']at e2;cases e2;simp at e3
  refine q8_ hz' (qU_ rfl) fun h2 _ k2=>je_ (wpAny_isInstance (T := "StopIteration") (b:=true) ⟨o,k2.extBut e o n e2,e3⟩ isSubtype_stop (js_ ((hN hx).2 h2 fun c o n1 n2 n3 n4 q=>k2.extBut c o n1 (kk c o n1 n2 n3 n4 q))))
 wp_walk using wpAny_onRaise,Bu_ (A:=A.in1) (s:={s with heap:=u0}) m1 m2
 ·intro x u1 hx m3 k3
  have y0:IsPair u1 TO a b:=k3.extBut TO _ D.TOi1 (k0.extBut TO _ D.TOz hTO)
  wp_walk using wpAny_updateSeq_pair y0
  intro u2 y2 k4
  replace y2:IsPair u2 TO x b:=y2
  have kk:∀c o,c≠z->c≠TO->c≠i1->s.heap.get? c=some o->u2.get? c=some o:=fun c o n1 n2 n3 q=>k4.extBut c o n2 (k3.extBut c o n3 (k0.extBut c o n1 q))
  have g2:IsZip u2 z TI TO .ellipsis:=k4.extBut _ _ D.TOz.symm (k3.extBut _ _ D.i1z.symm g0)
  have m4:Fn t2 u2 i2 l2 k2:=h2.at fun o q=>kk _ o D.i2z D.TOi2.symm D.i12.symm q
  have m5:Gz t2 u2 l2 ys:=((hl2.extBut k0.extBut D.l2z).extBut k3.extBut D.l2i1).extBut k4.extBut D.l2TO
  wp_walk using wpAny_onRaise,Bu_ (A:=A.in1) (s:={s with heap:=u2}) m4 m5
  ·intro y u3 hy m6 k5
   have y3:IsPair u3 TO x b:=k5.extBut TO _ D.TOi2 y2
   wp_walk using wpAny_updateSeq_pair y3
   intro u4 y4 k6
   replace y4:IsPair u4 TO x y:=y4
   have g4:IsZip u4 z TI TO .ellipsis:=k6.extBut _ _ D.TOz.symm (k5.extBut _ _ D.i2z.symm g2)
   have zz:u4.objs.size=s.heap.objs.size:=k6.1.trans (k5.1.trans (k4.1.trans (k3.1.trans k0.1)))
   wp_walk using newT
   ·exact (show 2<=sizeLine from by decide)
   intro u5 q5
   have kp:∀c o,u4.get? c=some o->u5.get? c=some o:=fun c o q=>by rw[<-q5];exact jm_ _ q
   have g5:=kp z _ g4
   have y5:IsPair u5 u4.objs.size x y:=by rw[<-q5];exact jy_ _ rfl
   have z5:u5.objs.size=u4.objs.size+1:=by rw[<-q5];exact qH_ ..
   wp_walk using q8_ g5
   ·exact qU_ rfl
   intro u6 g6 k7
   replace g6:IsZip u6 z TI TO (rawInt u4.objs.size):=g6
   wp_walk using q8_ g6
   ·exact qU_ rfl
   intro u7 g7 k8
   replace g7:IsZip u7 z TI TO (rawInt u4.objs.size):=g7
   refine js_ ⟨_,rfl,js_ ?_⟩
   show Q (some (Value.ref u4.objs.size)) _
   have up:∀c o,c≠z->u4.get? c=some o->u7.get? c=some o:=fun c o n q=>k8.extBut c o n (k7.extBut c o n (kp c o q))
   have nz:u4.objs.size≠z:=xh_ (jp_ g4)
   have y7:=k8.extBut _ _ nz (k7.extBut _ _ nz y5)
   rw[zz]at g7 y7 z5 ⊢
   exact hQ x y u7 hx hy g7 (up _ _ D.TOz y4) ((m3.at fun o q=>k6.extBut _ o D.TOi1.symm (k5.extBut _ o D.i12 (k4.extBut _ o D.TOi1.symm q))).at fun o q=>up _ o D.i1z q) ((m6.at fun o q=>k6.extBut _ o D.TOi2.symm q).at fun o q=>up _ o D.i2z q) y7 ((k8.1.trans k7.1).trans z5)
    fun c o n1 n2 n3 n4 q=>up c o n1 (k6.extBut c o n2 (k5.extBut c o n4 (kk c o n1 n2 n3 q)))
  ·refine fun hy=>⟨(hN (.inr hy)).1,fun u3 e k5 he=>?_⟩
   exact stop u3 e (fun c o n1 n2 n3 n4 q=>k5 c o n4 (kk c o n1 n2 n3 q)) (k5 z _ D.i2z.symm g2) he (.inr hy)
 ·refine fun hx=>⟨(hN (.inl hx)).1,fun u1 e k3 he=>?_⟩
  exact stop u1 e (fun c o n1 n2 n3 n4 q=>k3 c o n3 (k0.extBut c o n1 q)) (k3 z _ D.i1z.symm g0) he (.inl hx)
theorem Xp     (hl1:Gz t1 s.heap l1 xs)(hl2:Gz t2 s.heap l2 ys)
  (h:∀h',IsZip h' (s.heap.objs.size+4) (s.heap.objs.size+2) (s.heap.objs.size+3) .none->IsPair h' (s.heap.objs.size+2) (.ref s.heap.objs.size) (.ref (s.heap.objs.size+1))->IsPair h' (s.heap.objs.size+3) .none .none->Fn t1 h' s.heap.objs.size l1 0->Fn t2 h' (s.heap.objs.size+1) l2 0->h'.objs.size=s.heap.objs.size+5->(∀c o,s.heap.get? c=some o->h'.get? c=some o)->Q (.ref (s.heap.objs.size+4)) {s with heap:=h' }):
  wpAny (model prog w) A (call (.type "zip") [.ref l1,.ref l2]) Q E s:=by
 have M:Meets (Builtin.«zip.__new__» ⟨[.type "zip",.ref l1,.ref l2],[]⟩) fun _ R t=>t=s/\∀h',IsZip h' (s.heap.objs.size+4) (s.heap.objs.size+2) (s.heap.objs.size+3) .none->IsPair h' (s.heap.objs.size+2) (.ref s.heap.objs.size) (.ref (s.heap.objs.size+1))->IsPair h' (s.heap.objs.size+3) .none .none->Fn t1 h' s.heap.objs.size l1 0->Fn t2 h' (s.heap.objs.size+1) l2 0->h'.objs.size=s.heap.objs.size+5->(∀c o,s.heap.get? c=some o->h'.get? c=some o)->R (.ok (.ret (.ref (s.heap.objs.size+4)))) {s with heap:=h' }:=.of_wp fun prog w A R t ⟨e,q⟩=>by
  subst e
  obtain⟨hp,g,d,tk,os⟩:=t
  have hsub:=sub_zip
  wp_walk using Xo hl1
  intro u1 q1
  obtain⟨a1,b1,c1⟩:=psh q1 rfl
  have hl2':Gz t2 u1 l2 ys:=by rw[<-q1];exact Gz.push hl2 _
  wp_walk using Xo (s:=⟨u1,g,d,tk,os⟩) hl2'
  intro u2 q2
  obtain⟨a2,b2,c2⟩:=psh q2 rfl
  wp_walk using newT
  ·exact (show 2<=sizeLine from by decide)
  intro u3 q3
  obtain⟨a3,b3,c3⟩:=psh q3 rfl
  wp_walk using newT
  ·exact (show 2<=sizeLine from by decide)
  intro u4 q4
  obtain⟨a4,b4,c4⟩:=psh q4 rfl
  wp_walk
  refine⟨_,rfl,?_⟩
  have Z1:u1.objs.size=hp.objs.size+1:=c1
  have Z2:u2.objs.size=hp.objs.size+2:=(show u2.objs.size=u1.objs.size+1 from c2).trans (by rw[Z1])
  have Z3:u3.objs.size=hp.objs.size+3:=(show u3.objs.size=u2.objs.size+1 from c3).trans (by rw[Z2])
  have Z4:u4.objs.size=hp.objs.size+4:=(show u4.objs.size=u3.objs.size+1 from c4).trans (by rw[Z3])
  obtain⟨a5,b5,c5⟩:=psh (rfl:u4.push {cls:=.type "zip",data:=.fields #[.none,.bool false,.bool false,.ref u2.objs.size,.ref u3.objs.size]}=_) rfl
  replace b1:u1.get? hp.objs.size=_:=b1
  replace b2:u2.get? u1.objs.size=_:=b2
  replace b3:IsPair u3 u2.objs.size (.ref hp.objs.size) (.ref u1.objs.size):=b3
  replace b4:IsPair u4 u3.objs.size .none .none:=b4
  show R (.ok (.ret (.ref u4.objs.size))) ⟨u4.push {cls:=.type "zip",data:=.fields #[.none,.bool false,.bool false,.ref u2.objs.size,.ref u3.objs.size]},g,d,tk,os⟩
  rw[Z1,Z2]at b3
  rw[Z1]at b2
  rw[Z3]at b4
  rw[Z2,Z3,Z4]at b5
  rw[Z2,Z3]at a5 c5 ⊢
  rw[Z4]at c5 ⊢
  exact q _ b5 (a5 _ _ (a4 _ _ b3)) (a5 _ _ b4) (Fn.mk (a5 _ _ (a4 _ _ (a3 _ _ (a2 _ _ b1))))) (Fn.mk (a5 _ _ (a4 _ _ (a3 _ _ b2)))) c5 fun c o x=>a5 _ _ (a4 _ _ (a3 _ _ (a2 _ _ (a1 _ _ x))))
 exact callType_new F.called_zip (by decide) (F.typeCall_zip_2 _ _) (F.newCall_zip_2 _ _) (fun obj=>F.args_object_init_3 obj _ _) F.entry_zip_new M ⟨rfl,fun h' a b c d e f g=>⟨⟨_,a,rfl⟩,h h' a b c d e f g⟩⟩
end
end PySem
namespace L2
open PySem PySem.Spec PyProof.Rows GW
noncomputable def SqB (K:α3)(H:Hp)(t:Bool)(a:Addr)(xs:List V):Prop:=match t with|false=>SqL K H a xs|true=>SqT K H a xs
theorem SqB.mono {K:α3}     (h:SqB K H t a xs)(s:Same H H'):SqB K H' t a xs:=by
 cases t
 ·exact s.seq h
 ·exact s.seqT h
theorem Inv.seqB         (I:Inv X pins σ H s)(h:SqB X.K H t a xs):∃its:List Value,Vals xs its/\Gz t s.heap a its.toArray:=by
 cases t
 ·obtain⟨its,r,p,_⟩:=I.list h
  exact⟨its,r,p.isList⟩
 ·obtain⟨its,r,p,_⟩:=I.tuple h
  exact⟨its,r,p⟩
noncomputable def Itz2 (K:α3)(t1 t2:Bool)(a b:Addr)(xs ys:List V):It:=⟨fun i H=>i<xs.length/\i<ys.length/\SqB K H t1 a xs/\SqB K H t2 b ys,fun i H x H'=>∃t u v,H t=none/\xs[i]?=some u/\ys[i]?=some v/\x=.ref t/\H'=upd H t (.tup [u,v]),fun i H=>(xs.length<=i\/ys.length<=i)/\SqB K H t1 a xs/\SqB K H t2 b ys⟩
theorem Bv_ {P:Program}{w:World}{K:α3}{elts:List Expr}{x1}{tpos:Pos}{t1 t2:Bool}{a b z TI TO i1 i2:Addr}(D:ZipApart z TI TO i1 i2 a b)(xs ys:List V):Turn P w K (.Tuple elts x1 tpos) (Itz2 K t1 t2 a b xs ys) [z,TI,TO,i1,i2] z
  (fun i h=>IsZip h z TI TO .none/\IsPair h TI (.ref i1) (.ref i2)/\(∃c d,IsPair h TO c d)/\Fn t1 h i1 a i/\Fn t2 h i2 b i) where
 mem:=by simp
 obj:=fun i h st c hc=>by
  obtain⟨h1,h2,⟨u,v,h3⟩,h4',h5'⟩:=st
  obtain⟨o4,h4,d4⟩:=h4'.ob
  obtain⟨o5,h5,d5⟩:=h5'.ob
  simp only[jL_,xG_,or_false]at hc
  rcases hc with rfl|rfl|rfl|rfl|rfl
  ·exact⟨_,h1,fun v z=>by cases z⟩
  ·exact⟨_,h2,fun v z=>by cases z⟩
  ·exact⟨_,h3,fun v z=>by cases z⟩
  ·exact⟨o4,h4,fun v z=>by rw[d4]at z;cases z⟩
  ·exact⟨o5,h5,fun v z=>by rw[d5]at z;cases z⟩
 keep:=fun i h h' st k=>by
  obtain⟨h1,h2,⟨u,v,h3⟩,h4,h5⟩:=st
  exact⟨k z (by simp) _ h1,k TI (by simp) _ h2,⟨u,v,k TO (by simp) _ h3⟩,h4.at fun o q=>k i1 (by simp) o q,h5.at fun o q=>k i2 (by simp) o q⟩
 item:=by
  intro X hP hw hK hc i pins s σ H E I hf st hg
  subst hP hw hK
  obtain⟨hi,hj,hq,hq2⟩:=hg
  obtain⟨hz,hTI,⟨c,d,hTO⟩,h1,h2⟩:=st
  obtain⟨its,rv,p⟩:=I.seqB hq
  obtain⟨its2,rv2,p2⟩:=I.seqB hq2
  obtain⟨u,hu,ru⟩:=rv.get (i:=i) (x:=xs[i]) (by simp[hi])
  obtain⟨v,hv,rv'⟩:=rv2.get (i:=i) (x:=ys[i]) (by simp[hj])
  have l1:=rv.length
  have l2:=rv2.length
  refine zipN D hz hTI hTO h1 h2 p p2 (fun u' v' h' eu ev g1 g2 g3 g4 g5 gs gk=>?_) fun y=>by simp at y;lia
  obtain rfl:u=u':=by simpa [hu] using eu
  obtain rfl:v=v':=by simpa [hv] using ev
  have hTz:s.heap.objs.size≠z:=xh_ (jp_ hz)
  refine⟨_,rfl,wpAny_letOwnedTupleGo_zip g1 fun h2' e1 hs2=>?_⟩
  have hk2:∀b o,b ∉ [z,TI,TO,i1,i2]->s.heap.get? b=some o->h2'.get? b=some o:=fun b o hb q=>by
   simp only[jL_,xG_,or_false,not_or]at hb
   exact (hs2.2 b hb.1).trans (gk b o hb.1 hb.2.2.1 hb.2.2.2.1 hb.2.2.2.2 q)
  obtain⟨un,hok⟩:=I.unL hk2 hf
  have hn:H s.heap.objs.size=none:=I.hok.fresh (jf_ _)
  have new:Bz X.prog X.w (upd H s.heap.objs.size (.tup [xs[i],ys[i]])) h2' s.heap.objs.size (.tup [xs[i],ys[i]]):=⟨by have:=Au;simp;lia,[u,v],.cons ru (.cons rv' .nil),_,(hs2.2 _ hTz).trans g5,rfl,_,rfl⟩
  refine⟨.ref s.heap.objs.size,upd H s.heap.objs.size (.tup [xs[i],ys[i]]),I.call' (s':={s with heap:=h2' }) (ch:=[z,TI,TO,i1,i2]) rfl (un.track (jf_ _) hn) (hok.track hn new) I.bare (fun b hb=>?_),rfl,⟨_,_,_,hn,by simp[hi],by simp[hj],rfl,rfl⟩,?_,fun b hb=>?_⟩
  ·exact (hf b hb).ch
  ·refine⟨e1,(hs2.2 TI D.TIz).trans (gk TI _ D.TIz D.TITO D.TIi1 D.TIi2 hTI),⟨u,v,(hs2.2 TO D.TOz).trans g2⟩,g3.at fun o q=>(hs2.2 i1 D.i1z).trans q,g4.at fun o q=>(hs2.2 i2 D.i2z).trans q⟩
  ·have hb':=hf b hb
   have:∃o,s.heap.get? b=some o:=by
    simp only[jL_,xG_,or_false]at hb
    rcases hb with rfl|rfl|rfl|rfl|rfl
    ·exact⟨_,hz⟩
    ·exact⟨_,hTI⟩
    ·exact⟨_,hTO⟩
    ·obtain⟨o,ho,_⟩:=h1.ob;exact⟨o,ho⟩
    ·obtain⟨o,ho,_⟩:=h2.ob;exact⟨o,ho⟩
   obtain⟨o,ho⟩:=this
   rw[AD (jG_ (jp_ ho))]
   exact hb'.1
 done:=by
  intro X hP hw hK hc i pins s σ H E I hf st hg
  subst hP hw hK
  obtain⟨hi,hq,hq2⟩:=hg
  obtain⟨hz,hTI,⟨c,d,hTO⟩,h1,h2⟩:=st
  obtain⟨its,rv,p⟩:=I.seqB hq
  obtain⟨its2,rv2,p2⟩:=I.seqB hq2
  have l1:=rv.length
  have l2:=rv2.length
  refine zipN D hz hTI hTO h1 h2 p p2 (fun u v h' eu ev=>by have a:=(qG_.mp eu).1;have b:=(qG_.mp ev).1;simp at a b;lia) fun _=>⟨I.ok.hd hc,fun h' gk=>⟨rfl,?_⟩⟩
  obtain⟨un,hok⟩:=I.unL (h':=h') (fun b o hb q=>by
   simp only[jL_,xG_,or_false,not_or]at hb
   exact gk b o hb.1 hb.2.2.1 hb.2.2.2.1 hb.2.2.2.2 q) hf
  exact I.call' (s':={s with heap:=h' }) (ch:=[z,TI,TO,i1,i2]) rfl un hok I.bare fun b hb=>(hf b hb).ch
 self:=fun A i s Q E st h=>wpAny_pyIter_zip st.1 h
noncomputable def Hu_ (K:α3)(ta:TA):TI:=fun σ H R=>ta σ H fun vs H1=>∃a b xs ys t1 t2,vs=[.ref a,.ref b]/\SqB K H1 t1 a xs/\SqB K H1 t2 b ys/\R (Itz2 K t1 t2 a b xs ys) H1
theorem Bw_ {K:α3}     : Hu_ K ta σ H Z=ta σ H fun vs H1=>∃a b xs ys t1 t2,vs=[.ref a,.ref b]/\SqB K H1 t1 a xs/\SqB K H1 t2 b ys/\Z (Itz2 K t1 t2 a b xs ys) H1:=rfl
theorem Xq   {x1}     (hg:Gl X "zip")(hm:X.mg "zip"=none)(ha:PA X [e,f] ta)(hs:starEach [e,f] X.env=[(false,eval e X.env),(false,eval f X.env)]:=by rfl)(hs2:starEach [f] X.env=[(false,eval f X.env)]:=by rfl):PI X (.Tuple elts x1 tpos) (.Call (.Name "zip" p) [e,f] [] pos) (Hu_ X.K ta):=by
 intro pins s σ H R I h
 refine Call_ (La I hg hm boot_zip (qw_ (thn (ha pos pins s σ H _ I h) fun us s1 ⟨vs,H1,I1,r1,q1⟩=>?_) (by rw[hs,hs2]) (by rw[hs2];rfl)))
 obtain⟨a,b,xs,ys,t1,t2,ev,hq,hq2,q⟩:=q1
 subst ev
 cases r1 with
 |cons r rr=>cases rr with
  |cons r' rr=>
   cases rr
   cases r
   cases r'
   obtain⟨its,rv,pl⟩:=I1.seqB hq
   obtain⟨its2,rv2,pl2⟩:=I1.seqB hq2
   refine Xp pl pl2 fun h' hz hTI hTO hi1 hi2 hsz hk=>?_
   refine wpAny_pyIter_zip (s:={s1 with heap:=h' }) hz ?_
   have I2:Inv X pins σ H1 {s1 with heap:=h' }:=I1.kept (t':=s1.toks) hk
   refine⟨_,_,_,_,H1,rfl,I2,Bv_ (zipApart_new pl.lt pl2.lt) xs ys,⟨hz,hTI,⟨_,_,hTO⟩,hi1,hi2⟩,fun c hc=>?_,q⟩
   have hle:s1.heap.objs.size<=c:=by
    simp only[jL_,xG_,or_false]at hc
    rcases hc with rfl|rfl|rfl|rfl|rfl
    ·exact zi_ _ 4
    ·exact zi_ _ 2
    ·exact zi_ _ 3
    ·exact jf_ _
    ·exact zi_ _ 1
   exact I1.fpOk hle (I1.hok.fresh hle)
theorem Ev_ {K:α3}           (n:Nat)(hn1:n<=xs.length)(hn2:n<=ys.length)(hn3:xs.length=n\/ys.length=n)(Pv:Nat->List V->St->Hp->Prop)(h0:Pv 0 [] (cp.st σ) H)(hz:n<sizeLine)
  (hl:∀i zs σ H,i<=n->Pv i zs σ H->SqB K H t1 a xs/\SqB K H t2 b ys/\zs.length<=i)
  (hs:∀i u v zs σ H t,i<n->xs[i]?=some u->ys[i]?=some v->Pv i zs σ H->H t=none->g (.ref t) σ (upd H t (.tup [u,v])) fun σ2 H2=>tc σ2 H2 fun b H3=>if b=true then te σ2 H3 fun v H4=>Pv (i+1) (zs++[v]) σ2 H4 else Pv (i+1) zs σ2 H3)
  (hd:∀zs σ H,Pv n zs σ H->∀D,H D=none->Q (.ref D) (upd H D (.lst zs))):Kc (Itz2 K t1 t2 a b xs ys) cp g tc te σ H Q:=by
 refine⟨fun i m zs σ H=>m=n-i/\i<=n/\Pv i zs σ H,⟨n,by simp,qt_ _,h0⟩,?_⟩
 rintro i m zs σ H ⟨rfl,hi,p⟩
 obtain⟨q1,q2,ly⟩:=hl i zs σ H hi p
 refine⟨by lia,?_⟩
 by_cases hlt:i<n
 ·refine .inr ⟨⟨by lia,by lia,q1,q2⟩,Pv (i+1),fun zs' σ' H' p'=>⟨n-(i+1),by lia,rfl,hlt,p'⟩,fun x H' y=>?_⟩
  obtain⟨t,u,v,e1,e2,e3,rfl,rfl⟩:=y
  exact hs i u v zs σ H t hlt e2 e3 p e1
 ·have e:i=n:=by lia
  subst e
  exact .inl ⟨⟨by lia,q1,q2⟩,hd zs σ H p⟩
theorem Yu {K:α3}          (f:V->V)(e:cp.st σ=none::σ')(hl:SqB K H t a xs)(hz:xs.length<sizeLine)(hs:∀x∈xs,∀R:VK,R (f x) H->te (some x::σ') H R)(hd:∀D,H D=none->Q (.ref D) (upd H D (.lst (xs.map f)))):
  ((∃xs,SqL K H a xs)/\Kc (Itl K a) cp (IZ 0) OQ te σ H Q)\/((∃xs,SqT K H a xs)/\Kc (Itt K a) cp (IZ 0) OQ te σ H Q):=by
 cases t
 ·exact .inl ⟨⟨_,hl⟩,CH_ f e hl hz hs hd⟩
 ·exact .inr ⟨⟨_,hl⟩,SE f e hl hz hs hd⟩
theorem Yv {K:α3}           (f:Int->Int->Int)(e:cp.st σ=none::none::σ')(h1:SqB K H t1 a (xs.map V.int))(h2:SqB K H t2 b (ys.map V.int))(hlen:xs.length=ys.length)(hz:xs.length<sizeLine)
  (hg:∀t u v o1 o2 H N,H t=some (.tup [u,v])->N (some u::some v::σ') H->g (.ref t) (o1::o2::σ') H N)
  (hs:∀x y H',x∈xs->y∈ys->Same H H'->∀R:VK,R (.int (f x y)) H'->te (some (.int x)::some (.int y)::σ') H' R)
  (hd:∀H' D,Same H H'->H' D=none->Q (.ref D) (upd H' D (.lst ((List.zipWith f xs ys).map V.int)))):Kc (Itz2 K t1 t2 a b (xs.map V.int) (ys.map V.int)) cp g OQ te σ H Q:=by
 refine Ev_ xs.length (by rw[jb_];lia) (by rw[jb_];lia) (by rw[jb_];exact .inl rfl) (fun i zs σ2 H2=>Same H H2/\zs=((List.zipWith f xs ys).take i).map V.int/\∃o1 o2,σ2=o1::o2::σ') ⟨Same.refl _,by simp,none,none,e⟩ hz (fun i zs σ2 H2 hi h=>?_) (fun i u v zs σ2 H2 t hi hu hv h ht=>?_) (fun zs σ2 H2 h D hD=>?_)
 ·obtain⟨s2,rfl,_⟩:=h
  exact⟨h1.mono s2,h2.mono s2,by rw[jb_,jR_];lia⟩
 ·obtain⟨s2,rfl,o1,o2,rfl⟩:=h
  obtain⟨x,hx,rfl⟩:=J5 hu
  obtain⟨y,hy,rfl⟩:=J5 hv
  refine hg t _ _ o1 o2 _ _ Ac ?_
  rw[Ba_,if_pos rfl]
  refine hs x y _ (jj_ hx) (jj_ hy) (s2.newT ht) _ ⟨s2.newT ht,?_,_,_,rfl⟩
  rw[qb_,qN_,hx,hy];simp
 ·obtain⟨s2,rfl,_⟩:=h
  have:=hd H2 D s2 hD
  rwa [qm_ (by rw[xk_];lia)]
end L2
namespace Nest
noncomputable def sl (row:α2)(b i:Nat):α2:=(row.take i).drop b
noncomputable def dl (p e x:Int):Int:=if x=e then -1 else if p<=x then 1 else 0
noncomputable def outF (p e:Int)(s:α2×Int)(x:Int):α2×Int:=if x=e then (s.1,s.2-1) else (if s.2=0 then s.1++[x] else s.1,if p<=x then s.2+1 else s.2)
noncomputable def outS (p e:Int)(l:α2):α2×Int:=l.foldl (outF p e) ([],0)
noncomputable def outW (p e:Int)(l:α2):α2:=(outS p e l).1
noncomputable def wd (p e:Int)(row:α2)(i a:Nat):α2:=outW p e (sl row (a+1) i)
end Nest
namespace L2
open PySem PySem.Spec PyProof.Rows GW
theorem SJ  {K:α3}      (hK:X.K=K)(hc:X.calm=true)(h:PGs X es t)
  (hn:(assignEach es X.env).length=n:=by rfl) (hst:(assignEach es X.env).findIdx? (·.1)=none:=by rfl):PG X (.Tuple es k pos) (gTup K n t):=by
 subst hK
 exact Yb hc h hn hst
end L2
namespace HT
open PySem PySem.Spec PyProof.Rows L2
section
variable {prog:Program} {w:World} {A:Around} {E:Value->Shared->Prop} {s:Shared}
theorem getItem_tuple_whole {t sl:Addr}   {lo hi:Option Int}  (ht:IsTup s.heap t items)(hs:s.heap.IsSliceOf sl vl vu .none)(pl:IsPart vl lo)(pu:IsPart vu hi)
  (hw:sIx items.size 0 lo=0/\sIx items.size items.size hi=items.size) (h:Q (.ref t) s):wpAny (model prog w) A (getItem (.ref t) (.ref sl)) Q E s:=by
 obtain⟨os,hos,hcs,hds⟩:=id hs
 have hTs:s.TypeIs (.ref sl) "slice" := ⟨os,hos,hcs⟩
 unfold getItem
 try with_reducible refine qS_ ?_
 first|refine je_ (js_ ?_)|skip
 refine je_ (wpAny_sequenceKey ht.typeIs (by decide) ?_)
 refine je_ (qB_ (name:=Str.ofString "__getitem__") ht.typeIs qo_
  (qy_ qo_ ht.typeIs entry_tuple_getitem ?_ (args_tuple_getitem _ _)))
 show wpAny _ _ (Builtin.Tuple.tupleItemsOf (.ref t) >>= _) _ _ s
 refine je_ (tupleItemsOf_ ht ?_)
 refine je_ (wpAny_typeOf hTs ?_)
 rw[if_pos (by decide)]
 refine je_ (IE hs pl pu ?_)
 rw[hw.1,hw.2]
 show wpAny _ _ (if ((((0:Nat):Int)==0&&(1:Int)==1&&(items.size-0)==items.size)=true) then _ else _) _ _ s
 rw[if_pos (by simp)]
 refine je_ ?_
 unfold Builtin.Tuple.tupleIsExact
 refine je_ (wpAny_typeOf ht.typeIs (js_ ?_))
 rw[if_pos (by decide)]
 refine je_ (wpAny_rule ?_)
 exact js_ ⟨_,rfl,js_ h⟩
end
end HT
namespace L2
open PySem PySem.Spec PyProof.Rows GW
noncomputable def Hv_ (K:α3):V->Option Int->Option Int->Hp->VK->Prop:=fun x lo hi H Q=>∃a xs,x=.ref a/\SqT K H a xs/\∀p H',Same H H'->SqT K H' p (cutV xs lo hi)->Q (.ref p) H'
theorem Ew_ {K:α3}  {lo hi:Option Int}   : Hv_ K x lo hi H Q=∃a xs,x=.ref a/\SqT K H a xs/\∀p H',Same H H'->SqT K H' p (cutV xs lo hi)->Q (.ref p) H':=rfl
theorem GA  : SlR X (Hv_ X.K):=by
 intro pins s σ H x v vl vu lo hi sl Q I rx hs pl pu h
 obtain⟨a,xs,rfl,hx,q⟩:=h
 by_cases hw:HT.sIx xs.length 0 lo=0/\HT.sIx xs.length xs.length hi=xs.length
 ·cases rx
  obtain⟨its,r,ht,hz⟩:=I.tuple hx
  have hlen:its.toArray.size=xs.length:=by rw[jl_];exact r.length.symm
  refine⟨"tuple",_,qo_.lookup,ht.typeIs,?_⟩
  refine HT.getItem_tuple_whole ht hs pl pu (by rw[hlen];exact hw) ⟨.ref a,H,I,rfl,q a H (Same.refl _) ?_⟩
  unfold cutV
  rw[hw.1,hw.2,List.drop_zero,Nat.sub_zero,jM_]
  exact hx
 ·exact GG_ pins s σ H (.ref a) v vl vu lo hi sl Q I rx hs pl pu ⟨a,xs,rfl,hx,hw,fun p hp=>q p _ (Same.new hp) (SqT.of Ac)⟩
theorem FD_  {K:α3}   (hK:X.K=K)(hl:PE X l tl):PI X tg l (iSeq K tl):=by subst hK;exact Bh_ hl
theorem Bx_ {K:α3}          (g:Nat->V)(e:cp.st σ=none::σ')(hl:SqB K H t a xs)(hz:xs.length<sizeLine)(hs:∀i x,xs[i]?=some x->∀R:VK,R (g i) H->te (some x::σ') H R)(hd:∀D,H D=none->Q (.ref D) (upd H D (.lst ((List.range xs.length).map g)))):
  ((∃xs,SqL K H a xs)/\Kc (Itl K a) cp (IZ 0) OQ te σ H Q)\/((∃xs,SqT K H a xs)/\Kc (Itt K a) cp (IZ 0) OQ te σ H Q):=by
 cases t
 ·refine .inl ⟨⟨_,hl⟩,Fr_ (xs:=xs) (fun i ys σ2 H2=>H2=H/\ys=(List.range i).map g/\∃o,σ2=o::σ') ⟨rfl,rfl,none,e⟩ hz (fun i ys σ2 H2 hi h=>?_) (fun i x ys σ2 H2 hx h=>?_) (fun ys σ2 H2 h=>?_)⟩
  ·obtain⟨rfl,rfl,_⟩:=h
   exact⟨hl,by rw[jb_,jU_];exact jf_ _⟩
  ·obtain⟨rfl,rfl,o,rfl⟩:=h
   refine hs i x hx _ ⟨rfl,?_,some x,rfl⟩
   rw[j2_,ji_];rfl
  ·obtain⟨rfl,rfl,_⟩:=h
   exact hd
 ·refine .inr ⟨⟨_,hl⟩,CG_ (xs:=xs) (fun i ys σ2 H2=>H2=H/\ys=(List.range i).map g/\∃o,σ2=o::σ') ⟨rfl,rfl,none,e⟩ hz (fun i ys σ2 H2 hi h=>?_) (fun i x ys σ2 H2 hx h=>?_) (fun ys σ2 H2 h=>?_)⟩
  ·obtain⟨rfl,rfl,_⟩:=h
   exact⟨hl,by rw[jb_,jU_];exact jf_ _⟩
  ·obtain⟨rfl,rfl,o,rfl⟩:=h
   refine hs i x hx _ ⟨rfl,?_,some x,rfl⟩
   rw[j2_,ji_];rfl
  ·obtain⟨rfl,rfl,_⟩:=h
   exact hd
end L2
namespace L2
open PySem PySem.Spec PyProof.Rows
theorem Jf  {K:α3}(h:X.K=K):OpR X (binaryOp .Add) (CF K):=by subst h;exact B6
end L2
set_option maxHeartbeats 1000000
set_option maxHeartbeats 4000000
namespace L2
open PySem PySem.W PySem.Spec PySem.Calls PyProof.Rows
noncomputable def rIxB (K:α3):R2:=fun x y H Q=>rIxL K x y H Q\/rIxT K x y H Q
theorem By_  {K:α3}(h:X.K=K):IxR X (rIxB K):=IxR.or (Yj h) (Fv h)
theorem Hw_ {K:α3}    : rIxB K x y H Q=((∃p xs i v,x=.ref p/\y=.int i/\SqL K H p xs/\atI xs i=some v/\Q v H) \/ ∃p xs i v,x=.ref p/\y=.int i/\SqT K H p xs/\atI xs i=some v/\Q v H):=rfl
end L2
namespace L2
section
variable {α:Type} [DecidableEq α]
noncomputable def ins1 (acc:List α)(x:α):List α:=if x∈acc then acc else acc++[x]
noncomputable def FE_ (acc row:List α):List α:=row.foldl ins1 acc
noncomputable def Bz_ (row:List α):List α:=FE_ [] row
noncomputable def num (row:List α):α2:=row.map fun x=>((Bz_ row).idxOf x:Int)
noncomputable def ncl (row:List α):Nat:=(Bz_ row).length
end
noncomputable def rowB (n:Nat)(b:α2->Nat->Int)(w:α2):α2:=(List.range n).map (b w)
noncomputable abbrev StC:=α1×α2
noncomputable def Ir_ (n:Nat)(b:α2->Nat->Int)(w:α2)(st:StC)(x:Nat):StC:=if ncl st.2<ncl (st.2.zip (rowB n b ((x:Int)::w))) then (st.1++[(x:Int)::w],num (st.2.zip (rowB n b ((x:Int)::w)))) else st
noncomputable def Hx_ (n:Nat)(b:α2->Nat->Int)(w:α2)(L:Nat)(st:StC):StC:=(List.range L).foldl (Ir_ n b w) st
noncomputable def Ex_ (n:Nat)(b:α2->Nat->Int)(L:Nat):Nat->Nat->StC->StC
 |0,_,st=>st
 |f+1,k,st=>if k<st.1.length then Ex_ n b L f (k+1) (Hx_ n b (st.1.getD k []) L st) else st
section
variable {n L:Nat} {b:α2->Nat->Int} {w:α2} {st:StC}
noncomputable def wcOf (n L:Nat)(b:α2->Nat->Int):StC:=Ex_ n b L 41 0 ([[]],num (rowB n b []))
end
end L2
namespace L2
open GW GB
noncomputable def bW (marks:α2)(ways:α1)(w:α2)(r:Nat):Int:=marks.getD (Il_ ways (r:Int) w).toNat 0
noncomputable def cf (c:α2)(r:Int):Int:=c.getD r.toNat 0
noncomputable def hm (c R:α2)(r:Int):Int:=(((Bz_ (R.map (cf c))).idxOf (cf c r):Nat):Int)
noncomputable def Hy_ (c acc:α2)(r:Int):α2:=if cf c r∈acc.map (cf c) then acc else acc++[r]
noncomputable def FR (c R:α2):α2:=R.foldl (Hy_ c) []
noncomputable def hrow (c R:α2)(ways:α1)(r:Int):α2:=(ways.getD r.toNat []).map (hm c R)
noncomputable def cOf (L:Nat)(marks:α2)(ways:α1):α2:=(wcOf marks.length L (bW marks ways)).2
noncomputable def rOf (ways:α1):α2:=(Bl_ ways).map (·.1)
noncomputable def sF (L:Nat)(marks:α2)(ways:α1):α2:=FR (cOf L marks ways) (rOf ways)
noncomputable def sW (L:Nat)(marks:α2)(ways:α1):α1:=(sF L marks ways).map (hrow (cOf L marks ways) (rOf ways) ways)
noncomputable def hO (L:Nat)(marks:α2)(ways:α1)(r:Int):Int:=hm (cOf L marks ways) (rOf ways) r
section
variable {L:Nat} {marks:α2} {ways:α1}
noncomputable def wi (ways:α1)(r:Int):α2:=(((Bl_ ways).find? fun e=>decide (e.1=r)).map (·.2)).getD []
end
end L2
set_option maxHeartbeats 1000000
set_option maxHeartbeats 4000000
namespace PySem
theorem BA_ (a v:Value):argsOk "max" ⟨[a],[("default",v)]⟩:=by unfold argsOk;kernel_rfl
section
variable {prog:Program} {w:World} {A:Around} {R:Result->Shared->Prop} {I:Addr} {fp wr:List Addr} {n:Nat} {P:Nat->Value->Prop} {St:Nat->Heap->Prop} {d:Int} {td:Tok}
theorem gtI      (h:Q (.bool (decide (a > b))) s):wpAny (model prog w) A (richCompare .Gt (.int a ta) (.int b tb)) Q E s:=
 CmpOf.ints_gt (P:=fun i v=>∃t,v=.int (if i=0 then a else b) t) (fun i=>if i=0 then a else b) (fun _ _ h=>h) 0 1 _ _ s Q E ⟨ta,rfl⟩ ⟨tb,rfl⟩ h
noncomputable def Mx (f:Nat->Int)(j:Nat)(m:Int):Prop:=(∃i,i<j/\f i=m)/\∀i,i<j->f i<=m
theorem mxL (W:Walks prog w A.in1 I fp wr n P St)(f:Nat->Int)(hP:∀i v,P i v->∃t,v=.int (f i) t)(S:Addr)(hSf:S∉fp):
  ∀(k j:Nat) (s:Shared) (acc:Array Value) (c:Nat),n-j=k->j<=n->St j s.heap->s.heap.get? S=some {cls:=.type "list",dict:=none,data:=.seq acc c,slots := #[]} ->
  ((acc = #[]/\j=0) \/ ∃m t,acc = #[.int m t,.int m t]/\Mx f j m) ->
  (∀m t h' tk,((n=0/\m=d)\/Mx f n m)->(∀b o,b∉wr->b≠S->s.heap.get? b=some o->h'.get? b=some o)->R (.ok (.ret (.int m t))) {s with heap:=h',toks:=tk}) ->
  codeAny (model prog w) A (.builtin "max.loop" ⟨[.ref I,.none,.ref S],[("default",.int d td)]⟩) R s:=by
 have hSw:S∉wr:=fun h=>hSf (W.sub _ h)
 have nm:(toString "max" ++ toString ".loop" : String) = "max.loop" := by decide
 intro k
 induction k with
 |zero=>
  intro j s acc c hk hj st hS ha hR
  obtain rfl:j=n:=by lia
  refine codeAny_builtin F.entry_max_loop ?_
  rw[Around.under_plainId xm_ _]
  show wpAny _ _ (seqItems? (.ref S) >>= _) _ _ s
  refine je_ (wpAny_seqItems hS rfl ?_)
  show wpAny _ _ (tryCatch (pyNext (.ref I)) _ >>= _) _ _ s
  refine je_ (wpAny_tryCatch (W.done s _ _ st fun h' tk k'=>?_))
  have hS':=k' S _ hSw hS
  rcases ha with ⟨rfl,rfl⟩|⟨m,t,rfl,hm⟩
  ·wp_walk
   exact hR d td h' tk (.inl ⟨rfl,rfl⟩) fun b o n _ q=>k' b o n q
  ·refine je_ (wpAny_updateSeq hS' rfl (je_ (wpAny_letGo (js_ ?_))))
   exact hR m t _ tk (.inr hm) fun b o n1 n2 q=>(qu_ _ _ (qT_ n2)).trans (k' b o n1 q)
 |succ k ih=>
  intro j s acc c hk hj st hS ha hR
  have hlt:j<n:=by lia
  refine codeAny_builtin F.entry_max_loop ?_
  rw[Around.under_plainId xm_ _]
  show wpAny _ _ (seqItems? (.ref S) >>= _) _ _ s
  refine je_ (wpAny_seqItems hS rfl ?_)
  show wpAny _ _ (tryCatch (pyNext (.ref I)) _ >>= _) _ _ s
  refine je_ (wpAny_tryCatch (W.item j s _ _ hlt st fun v h' tk p st' k'=>?_))
  have hS':=k' S _ hSw hS
  obtain⟨t',rfl⟩:=hP _ _ p
  have up:∀g b o,b≠S->h'.get? b=some o->(h'.update S (Obj.mapSeq g)).get? b=some o:=fun g b o n q=>(qu_ _ _ (qT_ n)).trans q
  have put:Mx f (j+1) (f j)->codeAny (model prog w) A (.builtin "max.loop" ⟨[.ref I,.none,.ref S],[("default",.int d td)]⟩) R {s with heap:=h'.update S (Obj.mapSeq fun _ => #[.int (f j) t',.int (f j) t']),toks:=tk}:=fun hm=>
   ih (j+1) _ _ _ s!"" hlt (W.frame _ _ _ st' fun b hb o q=>up _ b o (fun z=>hSf (z ▸ hb)) q) (xt_ _ hS' rfl) (.inr ⟨_,_,rfl,hm⟩) fun m t h2 tk2 hm k2=>hR m t h2 tk2 hm fun b o n1 n2 q=>k2 b o n1 n2 (up _ b o n2 (k' b o n1 q))
  rcases ha with ⟨rfl,rfl⟩|⟨m,t,rfl,⟨i,hi,e⟩,hm⟩
  ·show wpAny _ _ (updateSeq S (fun _ => #[.int (f 0) t',.int (f 0) t']) >>= _) _ _ _
   refine je_ (wpAny_updateSeq hS' rfl ?_)
   rw[nm]
   exact js_ ⟨plainId_quiet xm_ _,put ⟨⟨0,by lia,rfl⟩,fun i hi=>by obtain rfl:i=0:=s!"";exact x3_ _⟩⟩
  ·show wpAny _ _ (tryCatch (holding [.int (f j) t',.int (f j) t'] (richCompare .Gt (.int (f j) t') (.int m t) >>= _)) _ >>= _) _ _ _
   refine je_ (wpAny_tryCatch (qS_ (je_ (gtI ?_))))
   refine je_ (qS_ (q2_ (je_ (wpAny_letGo (js_ ?_)))))
   by_cases g:f j > m
   ·rw[qg_ g,if_pos rfl]
    refine je_ (wpAny_updateSeq hS' rfl (je_ (wpAny_letGo ?_)))
    rw[nm]
    exact js_ ⟨plainId_quiet xm_ _,put ⟨⟨j,by lia,rfl⟩,fun i hi=>by
     rcases Nat.lt_or_ge i j with l|l
     ·have:=hm i l;lia
     ·obtain rfl:i=j:=by lia
      exact x3_ _⟩⟩
   ·rw[qj_ g,if_neg jo_]
    refine je_ (wpAny_letGo ?_)
    rw[nm]
    refine js_ ⟨plainId_quiet xm_ _,ih (j+1) _ _ c s!"" hlt st' hS' (.inr ⟨m,t,rfl,⟨i,by lia,e⟩,fun i hi=>?_⟩) fun m t h2 tk2 hm k2=>hR m t h2 tk2 hm fun b o n1 n2 q=>k2 b o n1 n2 (k' b o n1 q)⟩
    rcases Nat.lt_or_ge i j with l|l
    ·exact hm i l
    ·obtain rfl:i=j:=by lia
     lia
theorem FF_     {its:Array Value}   (hh:A.handled=none)(hl:Gz t s.heap l its)(hi:∀(i:Nat) (v:Value),its[i]?=some v->∃t,v=.int (f i) t)
  (hQ:∀m t h' tk,((its.size=0/\m=d)\/Mx f its.size m)->(∀b o,s.heap.get? b=some o->h'.get? b=some o)->Q (.int m t) {s with heap:=h',toks:=tk}):wpAny (model prog w) A (call (.builtin "max") [.ref l] [("default",.int d td)]) Q E s:=by
 have nm:(toString "max" ++ toString ".loop" : String) = "max.loop" := by decide
 have ll:=hl.lt
 obtain⟨St,W,st⟩:∃St:Nat->Heap->Prop,Walks prog w A.in1 s.heap.objs.size [s.heap.objs.size,l] [s.heap.objs.size] its.size (fun i v=>its[i]?=some v) St/\∀h,Fn t h s.heap.objs.size l 0->Gz t h l its->St 0 h:=by
  cases t
  ·exact⟨_,Walks.list (A:=A.in1) hh _ l (jG_ ll) its,fun h a b=>⟨a,b⟩⟩
  ·exact⟨_,Walks.tuple (A:=A.in1) hh _ l (jG_ ll) its,fun h a b=>⟨a,b⟩⟩
 refine PyProof.Rows.kmk_tree F.kind_max F.plain_max F.entry_max (BA_ _ _) (je_ (wpAny_of_eq (show Builtin.Builtins.bindParams "max" ["key","default"] 0 ⟨[],[("default",Value.int d td)]⟩=pure [none,some (Value.int d td)] from rfl) ?_))
 wp_walk using Xo (A:=A.in1) hl
 intro h1 q1
 obtain⟨a1,b1,c1⟩:=psh q1 (by cases t<;>rfl)
 wp_walk
 rw[nm]
 have c2:h1.objs.size=s.heap.objs.size+1:=c1
 have n1:h1.objs.size ∉ [s.heap.objs.size,l]:=fun z=>by
  rcases jL_.mp z with z|z
  ·lia
  ·exact absurd (jg_.mp z) (xh_ (by rw[c2];exact qR_ ll))
 refine⟨plainId_quiet xm_ _,mxL W f hi _ n1 its.size 0 _ #[] 0 rfl (qt_ _) (st _ (Fn.mk (jm_ _ b1)) (by rw[<-q1];exact (hl.push _).push _)) (jy_ _ rfl) (.inl ⟨rfl,rfl⟩) fun m t h' tk hm k'=>hQ m t h' tk hm fun b o q=>?_⟩
 have lb:=jp_ q
 exact k' b o (fun z=>absurd (jg_.mp z) (jG_ lb)) (jG_ (show b<h1.objs.size by rw[c2];exact qR_ lb)) (jm_ _ (a1 _ _ q))
end
end PySem
namespace L2
open PySem PySem.Spec PyProof.Rows
theorem maxV        {its:List Value}     (hc:X.calm=true)(I:Inv X pins σ H s)(r:Vals (ns.map V.int) its)(hl:Gz t s.heap a its.toArray)(hm:(ns=[]/\m=d)\/(m∈ns/\∀z∈ns,z<=m))(q:Q (.int m) H):
  wpAny (model X.prog X.w) X.A (call (.builtin "max") [.ref a] [("default",.int d td)]) (EP X pins σ Q) X.xe s:=by
 have hn:=r.length
 rw[jb_]at hn
 refine FF_ (f:=fun i=>ns.getD i 0) (I.ok.hd hc) hl (fun i v hv=>?_) fun m' t' h' tk' hm' hk=>?_
 ·have hi:i<ns.length:=by have:=(qG_.mp hv).1;simp at this;lia
  obtain⟨u,hu,ru⟩:=r.get (i:=i) (x:=V.int ns[i]) (by simp[hi])
  obtain rfl:u=v:=by simpa [hu] using hv
  obtain⟨t,e⟩:=(show ∃t,u=Value.int ns[i] t from ru)
  exact⟨t,by rw[e,ja_,jc_ hi];rfl⟩
 ·obtain rfl:m'=m:=by
   simp only[jl_,<-hn]at hm'
   rcases hm with ⟨rfl,rfl⟩|⟨h1,h2⟩
   ·rcases hm' with e|⟨⟨i,hi,_⟩,_⟩
    ·exact e.2
    ·simp at hi
   ·rcases hm' with e|⟨⟨i,hi,e⟩,h3⟩
    ·rw[jX_.mp e.1]at h1;simp at h1
    ·obtain⟨j,hj,ej⟩:=xI_ h1
     have e1:ns.getD j 0<=m':=h3 j hj
     replace e:ns.getD i 0=m':=e
     rw[ja_,jc_ hj]at e1
     rw[ja_,jc_ hi]at e
     have e2:=h2 ns[i] (jD_ hi)
     simp at e1 e
     lia
  exact⟨.int m',H,I.kept hk,⟨t',rfl⟩,q⟩
section
variable {X:Cx} {pins:α7} {σ:St} {H:Hp} {s:Shared} {a:Addr}
theorem Inv.freezeK   (I:Inv X pins σ H s)(e:H a=some (.dK kvs))(ho:s.heap.get? a=some o):Inv X pins σ (upd H a (.frz o (.dK kvs))) s:=by
 refine ON (h':=s.heap) (t':=s.toks) I (by rw[e];exact True.intro) ⟨rfl,fun _ _=>rfl⟩ ⟨o,ho⟩ ?_
 exact⟨ho,(show Bz X.prog X.w H s.heap a (.dK kvs) from I.hok a _ e)⟩
end
theorem dkAt       (ok:HOk P w H h)(e:Rd H a (.dK kvs)):
  ∃vs ep,h.DictAt (CG P w) a vs ep/\KV kvs vs/\(a==sysModules)=false/\kvs.length<=sizeLine:=by
 obtain⟨z,y,vs,r,m⟩:=Cz_ ok e
 obtain⟨ep,hat⟩:=m.dictAt
 exact⟨vs,ep,hat,r,y,z⟩
theorem KV.get {kvs:List (Key×V)}{vs:List (Key×Value)}(r:KV kvs vs){i:Nat}{k:Key}{v:V}(h:kvs[i]?=some (k,v)):∃u,vs[i]?=some (k,u)/\RelV v u:=by
 obtain⟨q,hq,e1,e2⟩:=J6 r h
 exact⟨q.2,by rw[hq,show k=q.1 from e1],e2⟩
noncomputable def ItkK (o:Obj)(a:Addr)(kvs:List (Key×V)):It:=⟨fun i H=>i<kvs.length/\H a=some (.frz o (.dK kvs)),fun i H x H'=>H'=H/\∃k v,kvs[i]?=some (k,v)/\x=kV k,fun i H=>kvs.length<=i/\H a=some (.frz o (.dK kvs))⟩
theorem CT_          (ok:HOk P w H h)(hd:o.data=.dict es ep)(e:H a=some (.frz o (.dK kvs))):∃vs,h.DictAt (CG P w) a vs ep/\KV kvs vs/\vs.length=kvs.length:=by
 obtain⟨hko,_⟩:=(show Bz P w H h a (.frz o (.dK kvs)) from ok a _ e)
 obtain⟨vs,ep',hat,r,_,_⟩:=dkAt ok (.inr ⟨o,e⟩)
 obtain⟨o',es',g1,g2,g3,g4⟩:=id hat
 rw[hko]at g1
 cases g1
 rw[hd]at g3
 cases g3
 exact⟨vs,hat,r,r.length.symm⟩
noncomputable def FzAt (d:Addr)(H H':Hp):Prop:=(∀a u,a≠d->H a=some u->H' a=some u)/\∀u,H d=some u->H' d=some u \/ ∃kvs o,u=.dK kvs/\H' d=some (.frz o (.dK kvs))
theorem FzAt.of   (s:Same H H'):FzAt d H H':=⟨fun a u _ h=>s a u h,fun u h=>.inl (s d u h)⟩
theorem FzAt.trans  {H H' H2:Hp}(s:FzAt d H H')(t:FzAt d H' H2):FzAt d H H2:=by
 refine⟨fun a u ha h=>t.1 a u ha (s.1 a u ha h),fun u h=>?_⟩
 rcases s.2 u h with h' | ⟨kvs,o,e,h'⟩
 ·exact t.2 u h'
 ·rcases t.2 _ h' with h2|⟨_,_,e2,_⟩
  ·exact .inr ⟨kvs,o,e,h2⟩
  ·cases e2
theorem FzAt.lst {d a:Addr}{H H':Hp}{xs:List V}(s:FzAt d H H')(h:H a=some (.lst xs)):H' a=some (.lst xs):=by
 by_cases e:a=d
 ·subst e
  rcases s.2 _ h with h' | ⟨_,_,e,_⟩
  ·exact h'
  ·cases e
 ·exact s.1 a _ e h
theorem FzAt.seqT  {K:α3}   (s:FzAt d H H')(h:SqT K H a xs):SqT K H' a xs:=by
 have key:∀u,(∀kvs,u ≠ .dK kvs)->H a=some u->H' a=some u:=fun u hu h=>by
  by_cases e:a=d
  ·subst e
   rcases s.2 _ h with h' | ⟨kvs,_,e,_⟩
   ·exact h'
   ·exact absurd e (hu kvs)
  ·exact s.1 a _ e h
 rcases h with (q|⟨o,q⟩)|q
 ·exact .inl (.inl (key _ (fun _ z=>nomatch z) q))
 ·exact .inl (.inr ⟨o,key _ (fun _ z=>nomatch z) q⟩)
 ·exact .inr q
theorem FzAt.rd    (s:FzAt d H H')(h:Rd H a (.dK kvs)):Rd H' a (.dK kvs):=by
 by_cases e:a=d
 ·subst e
  rcases h with h|⟨o,h⟩
  ·rcases s.2 _ h with h' | ⟨kvs,o,e,h'⟩
   ·exact .inl h'
   ·cases e;exact .inr ⟨o,h'⟩
  ·rcases s.2 _ h with h' | ⟨kvs,o',e,h'⟩
   ·exact .inr ⟨o,h'⟩
   ·cases e
 ·rcases h with h|⟨o,h⟩
  ·exact .inl (s.1 a _ e h)
  ·exact .inr ⟨o,s.1 a _ e h⟩
theorem FzAt.same   (s:FzAt d H H')(h:Same H0 H)(hd:H0 d=none):Same H0 H':=fun a u e=>s.1 a u (fun z=>by rw[z,hd]at e;cases e) (h a u e)
theorem FzAt.new     (h:Rd H d (.dK kvs))(h1:H' d=some (.frz o (.dK kvs)))(h2:∀b,b≠d->H' b=H b)(h3:∀o',H d=some (.frz o' (.dK kvs))->o'=o):FzAt d H H':=by
 refine⟨fun a u ha e=>by rw[h2 a ha];exact e,fun u e=>?_⟩
 rcases h with h|⟨o',h⟩
 ·rw[h]at e;cases e;exact .inr ⟨kvs,o,rfl,h1⟩
 ·rw[h]at e;cases e;rw[h3 o' h] ;exact .inl h1
theorem frzK        (I:Inv X pins σ H s)(e:Rd H a (.dK kvs)):
  ∃o es vs ep H2,Inv X pins σ H2 s/\H2 a=some (.frz o (.dK kvs))/\FzAt a H H2/\s.heap.DictAt (CG X.prog X.w) a vs ep/\s.heap.get? a=some o/\o.ExactDict/\o.data=.dict es ep/\vs.length=kvs.length/\(a==sysModules)=false:=by
 obtain⟨vs,ep,hat,r,g5,g6⟩:=dkAt I.hok e
 obtain⟨od,es,g1,g2,g3,g4⟩:=id hat
 rcases e with e|⟨o,e⟩
 ·exact⟨od,es,vs,ep,_,I.freezeK e g1,Ac,FzAt.new (.inl e) Ac (fun b hb=>AD hb) (fun o' z=>by rw[e]at z;cases z),hat,g1,g2,g3,r.length.symm,g5⟩
 ·obtain⟨hko,_⟩:=(show Bz X.prog X.w H s.heap a (.frz o (.dK kvs)) from I.hok a _ e)
  rw[hko]at g1
  cases g1
  exact⟨_,es,vs,ep,H,I,e,FzAt.of (Same.refl _),hat,hko,g2,g3,r.length.symm,g5⟩
theorem Zb {P:Program}{w:World}{K:α3}{tg:Expr}{o:Obj}{a it:Addr}{kvs:List (Key×V)}{es:Array DictEntry}{ep:Nat}(hai:a≠it)(hd:o.data=.dict es ep):
  Turn P w K tg (ItkK o a kvs) [it] it (fun i h=>h.IsKeyIter it a i kvs.length ep) where
 mem:=by simp
 obj:=fun i h st b hb=>by
  have e:b=it:=by simpa using hb
  subst e
  obtain⟨o,e,c,d⟩:=st
  exact⟨o,e,fun v z=>by rw[d]at z;cases z⟩
 keep:=fun i h h' st k=>st.at fun o e=>k it (by simp) o e
 item:=by
  intro X hP hw hK hcm i pins s σ H E I hf st hg
  subst hP hw hK
  obtain⟨hi,hq⟩:=hg
  obtain⟨vs,hat,r,hl⟩:=CT_ I.hok hd hq
  obtain⟨kv,hkv⟩:∃kv,kvs[i]?=some kv:=⟨kvs[i],by simp[hi]⟩
  obtain⟨k,v⟩:=kv
  obtain⟨u,hu,ru⟩:=KV.get r hkv
  obtain⟨f0,f1,f2,f3,f4,f5⟩:=hf it (by simp)
  refine wpAny_pyNext_dict_item (kvs:=vs) (by rw[hl];exact st) hat hu fun key h' hk st' sb=>?_
  rw[hl]at st'
  have I1:Inv X pins σ H {s with heap:=h' }:=I.turned (t':=s.toks) (fun b o hb e=>(sb.2 b hb).trans e) f0 f1 f3 f4 f5
  obtain⟨io,e,c,d⟩:=id st'
  exact⟨_,rfl,Av_ (s:={s with heap:=h' }) e c d (by decide) ⟨kV k,H,I1,VT hk,⟨rfl,k,v,hkv,rfl⟩,st',fun b hb=>(hf b hb).1⟩⟩
 done:=by
  intro X hP hw hK hcm i pins s σ H E I hf st hg
  subst hP hw hK
  obtain⟨hi,hq⟩:=hg
  obtain⟨vs,hat,r,hl⟩:=CT_ I.hok hd hq
  obtain⟨f0,f1,f2,f3,f4,f5⟩:=hf it (by simp)
  exact wpAny_pyNext_dict_end (kvs:=vs) (I.ok.hd hcm) (by rw[hl];exact st) hat (ju_ s!"") fun h' eb=>⟨rfl,I.turned (t':=s.toks) (fun b o hb e=>eb b o hb e) f0 f1 f3 f4 f5⟩
 self:=fun _ _ _ _ _ st h=>zl_ st h
noncomputable def Ey_ (td:TE):TI:=fun σ H R=>td σ H fun x H1=>∃a kvs,x=.ref a/\Rd H1 a (.dK kvs)/\∀o H2,H2 a=some (.frz o (.dK kvs))->FzAt a H1 H2->R (ItkK o a kvs) H2
theorem Yw     : Ey_ te σ H Z=te σ H fun x H1=>∃a kvs,x=.ref a/\Rd H1 a (.dK kvs)/\∀o H2,H2 a=some (.frz o (.dK kvs))->FzAt a H1 H2->Z (ItkK o a kvs) H2:=rfl
theorem CU_     (hl:PE X l tl):PI X tg l (Ey_ tl):=by
 intro pins s σ H R I h
 refine thn (hl pins s σ H _ I h) fun v s1 ⟨x,H1,I1,r1,q1⟩=>?_
 obtain⟨a,kvs,e,hq,q⟩:=q1
 subst e
 cases r1
 obtain⟨o,es,vs,ep,H2,I2,hfz,hF,hat,g1,g2,g3,hlen,g5⟩:=frzK I1 hq
 refine wpAny_pyIter_dict g5 hat ?_
 refine⟨s1.heap.objs.size,[s1.heap.objs.size],_,_,_,rfl,I2.kept (t':=s1.toks) fun b o e=>jm_ _ e,Zb (o:=o) (kvs:=kvs) (jG_ (jp_ g1)) g3,⟨_,jy_ _ rfl,rfl,by rw[hlen];rfl⟩,fun b hb=>?_,q o H2 hfz hF⟩
 have e:b=s1.heap.objs.size:=by simpa using hb
 subst e
 exact I2.fpOk (jf_ _) (I2.hok.fresh (jf_ _))
theorem Is_         (Pv:Nat->St->Hp->Prop)(h0:Pv 0 σ H)(hl:∀i σ H,i<=kvs.length->Pv i σ H->H a=some (.frz o (.dK kvs)))
  (hs:∀i k v σ H,kvs[i]?=some (k,v)->Pv i σ H->g (kV k) σ H fun σ2 H2=>tb {D with nx:=Pv (i+1),ct:=Pv (i+1),bk:=D.nx} σ2 H2) (hd:∀σ H,Pv kvs.length σ H->D.nx σ H):ForW (ItkK o a kvs) g tb D σ H:=by
 refine⟨fun i m σ H=>m+i=kvs.length/\Pv i σ H,⟨kvs.length,by lia,h0⟩,fun i m σ H ⟨hm,hp⟩=>?_⟩
 have hq:=hl i σ H s!"" hp
 by_cases hi:i<kvs.length
 ·refine .inr ⟨⟨hi,hq⟩,Pv (i+1),fun σ' H' h=>⟨m-1,by lia,by lia,h⟩,fun x H' hy=>?_⟩
  obtain⟨rfl,k,v,hk,rfl⟩:=hy
  exact hs i k v σ _ hk hp
 ·have e:i=kvs.length:=by lia
  subst e
  exact .inl ⟨⟨jf_ _,hq⟩,hd σ H hp⟩
noncomputable def ItiK (o:Obj)(a:Addr)(kvs:List (Key×V)):It:=⟨fun i H=>i<kvs.length/\H a=some (.frz o (.dK kvs)),fun i H x H'=>∃t k v,H t=none/\kvs[i]?=some (k,v)/\x=.ref t/\H'=upd H t (.tup [kV k,v]),fun i H=>kvs.length<=i/\H a=some (.frz o (.dK kvs))⟩
theorem Xr {P:Program}{w:World}{K:α3}{elts:List Expr}{x1}{tpos:Pos}{o:Obj}{a it:Addr}{kvs:List (Key×V)}{es:Array DictEntry}{ep:Nat}(hai:a≠it)(hd:o.data=.dict es ep):
  Turn P w K (.Tuple elts x1 tpos) (ItiK o a kvs) [it] it (fun i h=>∃ok ov,IsItemIter h it a i kvs.length ep ok ov) where
 mem:=by simp
 obj:=fun i h st b hb=>by
  have e:b=it:=by simpa using hb
  subst e
  obtain⟨ok,ov,e⟩:=st
  exact⟨_,e,fun v z=>by cases z⟩
 keep:=fun i h h' st k=>by
  obtain⟨ok,ov,e⟩:=st
  exact⟨ok,ov,k it (by simp) _ e⟩
 item:=by
  intro X hP hw hK hcm i pins s σ H E I hf st hg
  subst hP hw hK
  obtain⟨hi,hq⟩:=hg
  obtain⟨ok,ov,st⟩:=st
  obtain⟨vs,hat,r,hl⟩:=CT_ I.hok hd hq
  obtain⟨kv,hkv⟩:∃kv,kvs[i]?=some kv:=⟨kvs[i],by simp[hi]⟩
  obtain⟨k,v⟩:=kv
  obtain⟨u,hu,ru⟩:=KV.get r hkv
  refine wpAny_pyNext_items_item (kvs:=vs) (by rw[hl];exact st) hat hu fun key h' hk g1 g5 gsz gk=>?_
  rw[hl]at g1
  have hTz:s.heap.objs.size≠it:=xh_ (jp_ st)
  refine⟨_,rfl,wpAny_letOwnedTupleGo_items g1 fun h2' e1 hs2=>?_⟩
  have hk2:∀b o,b ∉ [it]->s.heap.get? b=some o->h2'.get? b=some o:=fun b o hb q=>by
   simp only[jg_]at hb
   exact (hs2.2 b hb).trans (gk b o hb q)
  obtain⟨un,hok⟩:=I.unL hk2 hf
  have hn:H s.heap.objs.size=none:=I.hok.fresh (jf_ _)
  have new:Bz X.prog X.w (upd H s.heap.objs.size (.tup [kV k,v])) h2' s.heap.objs.size (.tup [kV k,v]):=⟨by have:=Au;simp;lia,[key,u],.cons (VT hk) (.cons ru .nil),_,(hs2.2 _ hTz).trans g5,rfl,_,rfl⟩
  refine⟨.ref s.heap.objs.size,upd H s.heap.objs.size (.tup [kV k,v]),I.call' (s':={s with heap:=h2' }) (ch:=[it]) rfl (un.track (jf_ _) hn) (hok.track hn new) I.bare (fun b hb=>(hf b hb).ch),rfl,⟨_,k,v,hn,hkv,rfl,rfl⟩,⟨_,_,e1⟩,fun b hb=>?_⟩
  have hb':=hf b hb
  have e:b=it:=by simpa using hb
  subst e
  rw[AD (jG_ (jp_ st))]
  exact hb'.1
 done:=by
  intro X hP hw hK hcm i pins s σ H E I hf st hg
  subst hP hw hK
  obtain⟨hi,hq⟩:=hg
  obtain⟨ok,ov,st⟩:=st
  obtain⟨vs,hat,r,hl⟩:=CT_ I.hok hd hq
  refine wpAny_pyNext_items_end (kvs:=vs) (I.ok.hd hcm) (by rw[hl];exact st) hat (ju_ s!"") fun h' eb=>⟨rfl,?_⟩
  obtain⟨f0,f1,f2,f3,f4,f5⟩:=hf it (by simp)
  exact I.turned (t':=s.toks) (fun b o hb e=>eb b o hb e) f0 f1 f3 f4 f5
 self:=fun A i s Q E st h=>by
  obtain⟨ok,ov,st⟩:=st
  exact PySem.W.kcp_self st h
noncomputable def BB_ (td:TE):TI:=fun σ H R=>td σ H fun x H1=>∃a kvs,x=.ref a/\Rd H1 a (.dK kvs)/\∀o H2,H2 a=some (.frz o (.dK kvs))->FzAt a H1 H2->R (ItiK o a kvs) H2
theorem VX     : BB_ te σ H Z=te σ H fun x H1=>∃a kvs,x=.ref a/\Rd H1 a (.dK kvs)/\∀o H2,H2 a=some (.frz o (.dK kvs))->FzAt a H1 H2->Z (ItiK o a kvs) H2:=rfl
theorem BC_   {x1}     (ho:PE X o td)(hbase:attributeBase o "items" X.env (eval o X.env)=eval o X.env:=by rfl)(hline:(apos.endLine==cpos.line)=true:=by rfl):PI X (.Tuple elts x1 tpos) (.Call (.Attribute o "items" apos) [] [] cpos) (BB_ td):=by
 intro pins s σ H R I h
 refine wpAny_Call_method0_late hbase hline (thn (ho pins s σ H _ I h) fun v s1 ⟨x,H1,I1,r1,q1⟩=>?_)
 obtain⟨a,kvs,e,hq,q⟩:=q1
 subst e
 obtain rfl:v=Value.ref a:=r1
 obtain⟨od,es,vs,ep,H2,I2,hfz,hF,hat,g1,g2,g3,hlen,g5⟩:=frzK I1 hq
 have hT:s1.TypeIs (.ref a) "dict" := ⟨od,g1,g2.1⟩
 refine⟨"dict","dict.items",PySem.F.plainAttrs_dict,PySem.F.slot_dict_items,PySem.F.type_dict_items,hT,fun b e=>?_,x0_ rfl (PySem.evalArgs_none ?_)⟩
 ·cases e
  exact⟨od,g1,g2.2.1⟩
 refine qy_ PySem.F.slot_dict_items hT PySem.F.entry_dict_items (?_:wpAny _ _ (Builtin.«dict.items» _) _ _ s1) (PySem.F.args_dict_items_1 _)
 unfold Builtin.«dict.items»
 refine je_ ?_
 unfold Builtin.Dict.noArgs
 refine je_ (za_ hT ?_)
 show wpAny _ _ (pure a) _ _ s1
 refine js_ ?_
 show wpAny _ _ (Builtin.Dict.showsAll a >>= _) _ _ s1
 unfold Builtin.Dict.showsAll
 rw[if_neg (by rw[g5];exact jo_)]
 refine je_ (js_ ?_)
 refine je_ (qq_ (js_ ⟨_,rfl,?_⟩))
 have hk1:∀b u,s1.heap.get? b=some u->(s1.heap.push {cls:=.type "dict_items",data:=.fields #[.ref a]}).get? b=some u:=fun b u e=>jm_ _ e
 refine wpAny_pyIter_items (s:={s1 with heap:=s1.heap.push {cls:=.type "dict_items",data:=.fields #[.ref a]} }) ⟨_,jy_ _ rfl,rfl,rfl⟩ (hat.keep hk1) ?_
 have hle:s1.heap.objs.size<=(s1.heap.push {cls:=.type "dict_items",data:=.fields #[.ref a]}).objs.size:=by rw[qH_];exact Nat.le_succ _
 refine⟨_,[(s1.heap.push {cls:=.type "dict_items",data:=.fields #[.ref a]}).objs.size],_,_,_,rfl,I2.kept (t':=s1.toks) fun b u e=>jm_ _ (hk1 b u e),Xr (o:=od) (kvs:=kvs) (jG_ (jw_ (jp_ g1) hle)) g3,⟨.none,.none,?_⟩,fun b hb=>?_,q od H2 hfz hF⟩
 ·rw[<-hlen];exact jy_ _ rfl
 ·have e:b=(s1.heap.push {cls:=.type "dict_items",data:=.fields #[.ref a]}).objs.size:=by simpa using hb
  subst e
  exact I2.fpOk hle (I2.hok.fresh hle)
theorem It_         (Pv:Nat->St->Hp->Prop)(h0:Pv 0 σ H)(hl:∀i σ H,i<=kvs.length->Pv i σ H->H a=some (.frz o (.dK kvs)))
  (hs:∀i k v t σ H,kvs[i]?=some (k,v)->Pv i σ H->H t=none->g (.ref t) σ (upd H t (.tup [kV k,v])) fun σ2 H2=>tb {D with nx:=Pv (i+1),ct:=Pv (i+1),bk:=D.nx} σ2 H2) (hd:∀σ H,Pv kvs.length σ H->D.nx σ H):ForW (ItiK o a kvs) g tb D σ H:=by
 refine⟨fun i m σ H=>m+i=kvs.length/\Pv i σ H,⟨kvs.length,by lia,h0⟩,fun i m σ H ⟨hm,hp⟩=>?_⟩
 have hq:=hl i σ H s!"" hp
 by_cases hi:i<kvs.length
 ·refine .inr ⟨⟨hi,hq⟩,Pv (i+1),fun σ' H' h=>⟨m-1,by lia,by lia,h⟩,fun x H' hy=>?_⟩
  obtain⟨t,k,v,ht,hk,rfl,rfl⟩:=hy
  exact hs i k v t σ _ hk hp ht
 ·have e:i=kvs.length:=by lia
  subst e
  exact .inl ⟨⟨jf_ _,hq⟩,hd σ H hp⟩
noncomputable def iOr (t u:TI):TI:=fun σ H R=>t σ H R\/u σ H R
theorem Hz_     : iOr t u σ H Z=(t σ H Z\/u σ H Z):=rfl
theorem HA_    (h:PI X tg e t)(g:PI X tg e u):PI X tg e (iOr t u):=fun pins s σ H R I q=>q.elim (fun q=>h pins s σ H R I q) (fun q=>g pins s σ H R I q)
theorem forE {K:α3}         (h:SqB K H t a xs)(Pv:Nat->St->Hp->Prop)(h0:Pv 0 σ H)(hl:∀i σ H,i<=xs.length->Pv i σ H->SqB K H t a xs)
  (hs:∀i v σ H q,xs[i]?=some v->Pv i σ H->H q=none->g (.ref q) σ (upd H q (.tup [.int i,v])) fun σ2 H2=>tb {D with nx:=Pv (i+1),ct:=Pv (i+1),bk:=D.nx} σ2 H2) (hd:∀σ H,Pv xs.length σ H->D.nx σ H):
  (∃ys,SqL K H a ys/\ForW (Itm K a ys) g tb D σ H) \/ ∃ys,SqT K H a ys/\ForW (Itn K a ys) g tb D σ H:=by
 cases t
 ·exact .inl ⟨xs,h,forM Pv h0 hl hs hd⟩
 ·exact .inr ⟨xs,h,forN Pv h0 hl hs hd⟩
theorem Iu_ {K:α3}           (h:SqB K H t a xs)(Pv:Nat->List V->St->Hp->Prop)(h0:Pv 0 [] (cp.st σ) H)(hz:xs.length<sizeLine)
  (hl:∀i zs σ H,i<=xs.length->Pv i zs σ H->SqB K H t a xs/\zs.length<=i)
  (hs:∀i v zs σ H q,xs[i]?=some v->Pv i zs σ H->H q=none->g (.ref q) σ (upd H q (.tup [.int i,v])) fun σ2 H2=>tc σ2 H2 fun b H3=>if b=true then te σ2 H3 fun v H4=>Pv (i+1) (zs++[v]) σ2 H4 else Pv (i+1) zs σ2 H3)
  (hd:∀zs σ H,Pv xs.length zs σ H->∀D,H D=none->Q (.ref D) (upd H D (.lst zs))):
  (∃ys,SqL K H a ys/\Kc (Itm K a ys) cp g tc te σ H Q) \/ ∃ys,SqT K H a ys/\Kc (Itn K a ys) cp g tc te σ H Q:=by
 cases t
 ·refine .inl ⟨xs,h,fun i m zs σ H=>m=xs.length-i/\i<=xs.length/\Pv i zs σ H,⟨xs.length,by simp,qt_ _,h0⟩,?_⟩
  rintro i m zs σ H ⟨rfl,hi,p⟩
  obtain⟨q1,ly⟩:=hl i zs σ H hi p
  refine⟨by lia,?_⟩
  by_cases hlt:i<xs.length
  ·refine .inr ⟨⟨hlt,q1⟩,Pv (i+1),fun zs' σ' H' p'=>⟨xs.length-(i+1),by lia,rfl,hlt,p'⟩,fun x H' y=>?_⟩
   obtain⟨q,v,e1,e2,rfl,rfl⟩:=y
   exact hs i v zs σ H q e2 p e1
  ·have e:i=xs.length:=by lia
   subst e
   exact .inl ⟨⟨rfl,q1⟩,hd zs σ H p⟩
 ·refine .inr ⟨xs,h,fun i m zs σ H=>m=xs.length-i/\i<=xs.length/\Pv i zs σ H,⟨xs.length,by simp,qt_ _,h0⟩,?_⟩
  rintro i m zs σ H ⟨rfl,hi,p⟩
  obtain⟨q1,ly⟩:=hl i zs σ H hi p
  refine⟨by lia,?_⟩
  by_cases hlt:i<xs.length
  ·refine .inr ⟨⟨hlt,q1⟩,Pv (i+1),fun zs' σ' H' p'=>⟨xs.length-(i+1),by lia,rfl,hlt,p'⟩,fun x H' y=>?_⟩
   obtain⟨q,v,e1,e2,rfl,rfl⟩:=y
   exact hs i v zs σ H q e2 p e1
  ·have e:i=xs.length:=by lia
   subst e
   exact .inl ⟨⟨rfl,q1⟩,hd zs σ H p⟩
theorem AJ  : Hi X (.type "tuple") (fun xs H Q=>∃p ys,xs=[.ref p]/\((SqL X.K H p ys/\∀l,H l=none->Q (.ref l) (upd H l (.tup ys)))\/False)):=fun pins s σ H xs us Q I r h=>by
 obtain⟨p,ys,e,h|h⟩:=h
 ·exact Lb pins s σ H xs us Q I r ⟨p,ys,e,.inl h⟩
 ·exact h.elim
theorem NC  : Hi X (.type "tuple") (fun xs H Q=>∃p ys,xs=[.ref p]/\(False\/(SqT X.K H p ys/\Q (.ref p) H))):=fun pins s σ H xs us Q I r h=>by
 obtain⟨p,ys,e,h|h⟩:=h
 ·exact h.elim
 ·exact Lb pins s σ H xs us Q I r ⟨p,ys,e,.inr h⟩
theorem SK  {K:α3}(h:X.K=K):Hi X (.type "tuple") (fun xs H Q=>∃p ys,xs=[.ref p]/\(False\/(SqT K H p ys/\Q (.ref p) H))):=by subst h;exact NC
theorem len1 {α:Type}{us:List α}(h:us.length=1):∃a,us=[a]:=by match us,h with|[a],_=>exact⟨a,rfl⟩
theorem len2 {α:Type}{us:List α}(h:us.length=2):∃a b,us=[a,b]:=by match us,h with|[a,b],_=>exact⟨a,b,rfl⟩
theorem len3 {α:Type}{us:List α}(h:us.length=3):∃a b c,us=[a,b,c]:=by match us,h with|[a,b,c],_=>exact⟨a,b,c,rfl⟩
theorem len4 {α:Type}{us:List α}(h:us.length=4):∃a b c d,us=[a,b,c,d]:=by match us,h with|[a,b,c,d],_=>exact⟨a,b,c,d,rfl⟩
theorem len5 {α:Type}{us:List α}(h:us.length=5):∃a b c d e,us=[a,b,c,d,e]:=by match us,h with|[a,b,c,d,e],_=>exact⟨a,b,c,d,e,rfl⟩
noncomputable def BD_ (u:TS)(D:Ends):St->Hp->Prop:=u D
noncomputable def HB_ (t u:TS):TS:=fun D σ H=>t {D with nx:=BD_ u D} σ H
theorem Ez_     : HB_ t u D σ H=t {D with nx:=BD_ u D} σ H:=rfl
theorem AW     (h:u D σ H):BD_ u D σ H:=h
theorem A8  {st:Stmt}{rest:List Stmt}  (h1:PS X st t)(h2:PSs X rest u):PSs X (st::rest) (HB_ t u):=Ae h1 h2
end L2
set_option maxHeartbeats 1000000
set_option maxHeartbeats 4000000
namespace PySem.W
open PySem PySem.Calls PyProof.Rows PyProof.V PySem.Spec
section
variable {prog:Program} {w:World} {A:Around} {E:Value->Shared->Prop} {s:Shared} {r d:Addr} {es:Array DictEntry} {ep:Nat} {od:Obj}
noncomputable abbrev viO (d:Addr)(i n ep:Nat):Obj:={cls:=.type "dict_valueiterator",dict:=none,data:=.fields #[.ref d,.int i 0,.int n 0,.int ep 0],slots := #[]}
theorem CV_   (hv:s.heap.IsValuesView v d)(hod:s.heap.get? d=some od)(hdd:od.data=.dict es ep)
  (h:Q (.ref s.heap.objs.size) {s with heap:=s.heap.push (viO d 0 es.size ep)}):wpAny (model prog w) A (pyIter (.ref v)) Q E s:=by
 have hT:=hv.typeIs
 obtain⟨⟨c1,d1,a1,s1⟩,hv1,hc,hv2⟩:=hv
 replace hv2:a1=_:=hv2
 obtain⟨c,dc,da,sl⟩:=od
 replace hdd:da=_:=hdd
 subst hdd hv2
 have e1:=PySem.F.slot_dict_values_iter
 refine wpAny_pyIter_slot hT e1 (qy_ e1 hT PySem.F.entry_dict_values_iter ?_ (PySem.F.args_dict_values_iter_1 _))
 wp_walk
 exact⟨_,rfl,_,_,⟨_,jy_ _ rfl,rfl⟩,xB_.lookup,h⟩
theorem Yx {it:Addr}   (hh:A.handled=none)(hit:s.heap.get? it=some (viO d i es.size ep))(hod:s.heap.get? d=some od)(hdd:od.data=.dict es ep)
  (hQ:∀e h',es[i]?=some e->h'.get? it=some (viO d (i+1) es.size ep)->Heap.SameBut it s.heap h'->Q (some e.val) {s with heap:=h' })
  (hN:es[i]?=none->∀h',Heap.ExtBut it s.heap h'->Q none {s with heap:=h' }):wpAny (model prog w) A (pyNext (.ref it)) Q E s:=by
 have hT:s.TypeIs (.ref it) "dict_valueiterator" := ⟨_,hit,rfl⟩
 have e1:=xB_
 have h1:A.in1.handled=none:=hh
 obtain⟨c,dc,da,sl⟩:=od
 replace hdd:da=_:=hdd
 subst hdd
 unfold pyNext
 refine je_ (xS_ (qB_ hT e1 (qy_ e1 hT PySem.F.entry_dict_valueiterator_next ?_ (PySem.F.args_dict_valueiterator_next_1 _))))
 wp_walk
 cases hi:es[i]? with
 |some e=>
  simp only[show ¬ ((i:Int)<0) from by lia,xP_,jA_,hi]
  wp_walk using q8_ hit
  ·exact qU_ rfl
  intro h1 g1 k1
  replace g1:h1.get? it=some (viO d (i+1) es.size ep):=g1
  wp_walk
  exact⟨_,rfl,js_ (hQ e h1 hi g1 k1)⟩
 |none=>
  simp only[show ¬ ((i:Int)<0) from by lia,xP_,jA_,hi]
  wp_walk using q8_ hit
  ·exact qU_ rfl
  intro h1 g1 k1
  wp_walk
  exact wpAny_raiseNew_none hh (je_ (wpAny_isInstance (T := "StopIteration") (b:=true) ⟨_,jy_ _ rfl,rfl⟩ isSubtype_stop (js_ (hN hi _ ((k1.extBut.push _).push _)))))
end
section
variable {prog:Program} {w:World} {r d:Addr} {es:Array DictEntry} {ep:Nat} {od:Obj}
theorem val_src (hdd:od.data=.dict es ep):KdlSrc prog w "dict_values" r d es.size (fun i v=>∃e,es[i]?=some e/\v=e.val) (fun h=>h.IsValuesView r d/\h.get? d=some od) where
 type:=fun _ m=>m.1.typeIs
 there:=fun _ m=>⟨let ⟨_,o,_⟩:=m.1;jp_ o,jp_ m.2⟩
 keep:=fun _ _ m k=>⟨let ⟨o,e,x⟩:=m.1;⟨o,k r (.inl rfl) o e,x⟩,k d (.inr rfl) _ m.2⟩
 notList:=by decide
 notTuple:=by decide
 hint:=fun _ _ _ _ m q=>kdl_hint_values m.1.typeIs q
 iter:=fun A s hh m=>⟨viO d 0 es.size ep,fun i h=>h.get? s.heap.objs.size=some (viO d i es.size ep)/\h.get? d=some od,fun _ _ q=>CV_ m.1 m.2 hdd q,{
   sub:=fun b hb=>by simp at hb;simp[hb]
   frame:=fun _ _ _ st k=>⟨k _ (by simp) _ st.1,k _ (by simp) _ st.2⟩
   item:=fun i t Q E hi st q=>Yx hh st.1 st.2 hdd (fun e h' e1 e2 e3=>q _ h' t.toks ⟨e,e1,rfl⟩ ⟨e2,e3.extBut _ _ (jG_ (jp_ m.2)) st.2⟩ fun b o n z=>e3.extBut b o (fun y=>n (by simp[y])) z) fun z=>by rw[Array.getElem?_eq_none_iff]at z;lia
   done:=fun t Q E st q=>Yx hh st.1 st.2 hdd (fun e h' e1=>by have:=(qG_.mp e1).1;lia) fun _ h' x=>q h' t.toks fun b o n z=>x b o (fun y=>n (by simp[y])) z
   self:=fun _ _ _ _ st q=>wpAny_pyIter_valiter ⟨_,st.1,rfl,rfl⟩ q},⟨jy_ _ rfl,jm_ _ m.2⟩⟩
end
end PySem.W
namespace L2
open PySem PySem.Spec PyProof.Rows
noncomputable def QH (v d:Addr):HO:=.ext (fun h=>h.IsValuesView v d)
noncomputable def HC_ (td:TE):TE:=fun σ H Q=>td σ H fun x H1=>∃d kvs,x=.ref d/\Rd H1 d (.dT kvs)/\∀v,H1 v=none->Q (.ref v) (upd H1 v (QH v d))
theorem EA_     : HC_ td σ H Q=td σ H fun x H1=>∃d kvs,x=.ref d/\Rd H1 d (.dT kvs)/\∀v,H1 v=none->Q (.ref v) (upd H1 v (QH v d)):=rfl
theorem BE_     (ho:PE X o td)(hbase:attributeBase o "values" X.env (eval o X.env)=eval o X.env:=by rfl)(hline:(apos.endLine==cpos.line)=true:=by rfl):PE X (.Call (.Attribute o "values" apos) [] [] cpos) (HC_ td):=by
 intro pins s σ H Q I h
 refine wpAny_Call_method0_late hbase hline (thn (ho pins s σ H _ I h) fun v s1 ⟨x,H1,I1,r1,d,kvs,ex,hd,q⟩=>?_)
 subst ex
 obtain rfl:v=Value.ref d:=r1
 obtain⟨od,es,ep,g1,g2,g3,g4,g5,g6,g7⟩:=Ys I1.hok hd
 have hT:s1.TypeIs (.ref d) "dict" := ⟨od,g1,g2.1⟩
 refine⟨"dict","dict.values",PySem.F.plainAttrs_dict,PySem.F.slot_dict_values,PySem.F.type_dict_values,hT,fun b e=>?_,x0_ rfl (PySem.evalArgs_none ?_)⟩
 ·cases e
  exact⟨od,g1,g2.2.1⟩
 refine qy_ PySem.F.slot_dict_values hT PySem.F.entry_dict_values (?_:wpAny _ _ (Builtin.«dict.values» _) _ _ s1) (PySem.F.args_dict_values_1 _)
 refine je_ ?_
 unfold Builtin.Dict.noArgs
 refine je_ (za_ hT ?_)
 show wpAny _ _ (pure d) _ _ s1
 refine js_ ?_
 show wpAny _ _ (Builtin.Dict.showsAll d >>= _) _ _ s1
 unfold Builtin.Dict.showsAll
 rw[if_neg (by rw[g5];exact jo_)]
 refine je_ (js_ ?_)
 refine je_ (qq_ (js_ ⟨_,rfl,?_⟩))
 have new:Bz X.prog X.w (upd H1 s1.heap.objs.size (QH s1.heap.objs.size d)) (s1.heap.push {cls:=.type "dict_values",data:=.fields #[.ref d]}) s1.heap.objs.size (QH s1.heap.objs.size d):=
  ⟨⟨_,jy_ _ rfl,rfl,rfl⟩,⟨_,jy_ _ rfl⟩,fun h1 h2 ⟨o,e,r⟩ k=>⟨o,k o e,r⟩⟩
 exact⟨.ref _,_,I1.laid (t':=s1.toks) (fun b u e=>jm_ _ e) (jf_ _) new,rfl,q _ (I1.hok.fresh (jf_ _))⟩
theorem NW  (hc:X.calm=true):Hi X (.type "list") (fun xs H Q=>∃v d kvs,xs=[.ref v]/\H v=some (QH v d)/\Rd H d (.dT kvs)/\∀l,H l=none->Q (.ref l) (upd H l (.lst (kvs.map (·.2))))):=by
 intro pins s σ H xs us Q I r h
 obtain⟨p,d,kvs,rfl,hv,hp,q⟩:=h
 obtain⟨u,rfl,rx⟩:=vals1 r
 cases rx
 obtain⟨o,es,ep,g1,g2,g3,g4,g5,g6,g7⟩:=Ys I.hok hp
 obtain⟨hview,_⟩:=(show Bz X.prog X.w H s.heap p (QH p d) from I.hok p _ hv)
 refine PySem.W.kdl_call (PySem.W.val_src g3) (I.ok.hd hc) ⟨hview,g1⟩ (by rw[g4];exact g6) fun h' tk acc c hk hS hacc=>?_
 have hal:acc.size=kvs.length:=hacc.1.trans g4
 have hv:Vals (kvs.map (·.2)) acc.toList:=by
  refine Vals.ofIx (by rw[jb_,qK_,hal]) fun i v hv=>?_
  have hi:i<kvs.length:=by rw[<-hal];simpa using (jd_.mp hv).1
  obtain⟨e,hk',rfl⟩:=hacc.2 i v (by simpa using hv)
  obtain⟨b,en,a1,a2,a3,a4⟩:=g7 i kvs[i].1 kvs[i].2 (by simp[hi])
  rw[a1]at hk'
  cases hk'
  exact⟨kvs[i].2,by simp[hi],a4⟩
 exact⟨.ref _,_,I.laid (t':=tk) hk (jf_ _) (show Bz X.prog X.w _ h' _ (.lst (kvs.map (·.2))) from ⟨by rw[jb_];exact g6,acc.toList,c,hv,by simpa using hS⟩),rfl,q _ (I.hok.fresh (jf_ _))⟩
noncomputable def HD_ (ta:TA)(tb:TE)(K:α3):TE:=fun σ H Q=>ta σ H fun vs H1=>tb σ H1 fun y H2=>∃(p:Addr) (ns:α2) (d m:Int),vs=[.ref p]/\y=.int d/\SqT K H2 p (ns.map V.int)/\((ns=[]/\m=d)\/(m∈ns/\∀z∈ns,z<=m))/\Q (.int m) H2
theorem EB_   {K:α3}    : HD_ ta tb K σ H Q=ta σ H fun vs H1=>tb σ H1 fun y H2=>∃(p:Addr) (ns:α2) (d m:Int),vs=[.ref p]/\y=.int d/\SqT K H2 p (ns.map V.int)/\((ns=[]/\m=d)\/(m∈ns/\∀z∈ns,z<=m))/\Q (.int m) H2:=rfl
theorem FG_      (hc:X.calm=true)(hg:Gl X "max")(hm:X.mg "max"=none)(ha:PA X [e] ta)(hb:PE X de tb)
  (he:backTo pos (starEach [e] X.env)=(false,eval e X.env)::backTo pos (starEach [] X.env):=by rfl) (hpl:(backTo pos (starEach [e] X.env)).any (·.1)=false:=by rfl):PE X (.Call (.Name "max" p) [e] [⟨some "default",de,kp⟩] pos) (HD_ ta tb X.K):=by
 intro pins s σ H Q I h
 refine xq_ (La I hg hm boot_max ?_)
 refine callWith_kw ?_ he hpl
 refine thn (ha pos pins s σ H _ I h) fun us s1 ⟨vs,H1,I1,r1,q1⟩=>?_
 refine kws_cons (thn (hb pins s1 σ H1 _ I1 q1) fun u s2 ⟨y,H2,I2,r2,q2⟩=>kws_nil ?_)
 obtain⟨a,ns,d,m,rfl,rfl,hq,hmx,q⟩:=q2
 obtain⟨u1,rfl,rx⟩:=vals1 r1
 cases rx
 obtain⟨t,rfl⟩:=(show ∃t,u=Value.int d t from r2)
 show wpAny (model X.prog X.w) X.A (call (.builtin "max") [.ref a] [("default",.int d t)]) _ _ s2
 obtain⟨its,r',pl,_⟩:=I2.tuple hq
 exact maxV (t:=true) hc I2 r' pl hmx q
end L2
namespace L2
open PySem
noncomputable def EqO (K:α3)(n:Nat)(x y:V)(H:Hp)(b:Bool):Prop:=(scal x y=true/\b=decide (x=y))\/(∃a c,x=.ref a/\y=.ref c/\EqD K H n x y b)
noncomputable def rEqO (K:α3)(n:Nat):R2:=fun x y H Q=>∃b,EqO K n x y H b/\Q (.bl b) H
noncomputable def rNeO (K:α3)(n:Nat):R2:=fun x y H Q=>∃b,EqO K n x y H b/\Q (.bl (!b)) H
theorem HE_ {K:α3}     : rEqO K n x y H Q=∃b,EqO K n x y H b/\Q (.bl b) H:=rfl
theorem HF_ {K:α3}     : rNeO K n x y H Q=∃b,EqO K n x y H b/\Q (.bl (!b)) H:=rfl
theorem EC_  (n:Nat)(hu:X.A.units+n<cLine):OpR X (compareOp .Eq) (rEqO X.K n):=by
 intro pins s σ H x y v u Q I rx ry h
 obtain⟨b,⟨h1,rfl⟩|⟨a,c,h1,h2,h3⟩,q⟩:=h
 ·exact I0 pins s σ H x y v u Q I rx ry ⟨h1,q⟩
 ·exact GO_ n hu pins s σ H x y v u Q I rx ry ⟨a,c,b,h1,h2,h3,q⟩
theorem ED_  (n:Nat)(hu:X.A.units+n<cLine):OpR X (compareOp .NotEq) (rNeO X.K n):=by
 intro pins s σ H x y v u Q I rx ry h
 obtain⟨b,⟨h1,rfl⟩|⟨a,c,h1,h2,h3⟩,q⟩:=h
 ·exact OJ pins s σ H x y v u Q I rx ry ⟨h1,q⟩
 ·exact Yn n hu pins s σ H x y v u Q I rx ry ⟨a,c,b,h1,h2,h3,q⟩
theorem EqO.non {K:α3}   : EqO K n .non .non H true:=.inl ⟨rfl,rfl⟩
theorem EqO.words {K:α3}{H:Hp}{a c:Addr}{v u:α2}(h:SqT K H a (v.map V.int))(g:SqT K H c (u.map V.int)):EqO K 8 (.ref a) (.ref c) H (decide (v=u)):=.inr ⟨a,c,rfl,rfl,EqD.ints (xs:=v) (ys:=u) (.inr ⟨h,g⟩) 7⟩
end L2
namespace L2
open PySem PySem.W PySem.Spec PySem.Calls PyProof.Rows
noncomputable def vD:Option (Option V)->(V->Prop)->Prop
 |some (some v),q=>q v
 |_,_=>False
theorem BF_   : vD (some (some v)) q=q v:=rfl
theorem Iv_   (h:vD o q):∃v,o=some (some v)/\q v:=by
 match o,h with
 |some (some v),h=>exact⟨v,rfl,h⟩
noncomputable def HG_ (i:Nat):TE:=fun σ H Q=>vD σ[i]? fun v=>Q v H
theorem EE_     : HG_ i σ H Q=vD σ[i]? fun v=>Q v H:=rfl
theorem pvD  (i:Nat)   (hN:X.N[i]?=some x:=by rfl)(hv:Vis X.env.scope x:=by first|exact Or.inl rfl|exact Or.inr (Or.inl rfl)|exact Or.inr (Or.inr rfl))(hd:(x==("__debug__" : Str))=false:=by decide)
  (hcd:(x==("__classdict__" : Str))=false:=by decide):PE X (.Name x pos) (HG_ i):=fun pins s σ H Q I h=>pv i hN hv hd hcd pins s σ H Q I (Iv_ h)
noncomputable def iD:V->V->(Int->Int->Prop)->Prop
 |.int i,.int j,q=>q i j
 |x,y,q=>∃i j,x=.int i/\y=.int j/\q i j
theorem EF_   : iD (.int i) (.int j) q=q i j:=rfl
theorem FH_   : iD x y q=∃i j,x=.int i/\y=.int j/\q i j:=by
 cases x<;>cases y<;>first|rfl|(simp[iD])
noncomputable def rID (C:Int->Int->Prop)(g:Int->Int->V):R2:=fun x y H Q=>iD x y fun i j=>C i j/\Q (g i j) H
noncomputable def rI0D (g:Int->Int->V):R2:=fun x y H Q=>iD x y fun i j=>Q (g i j) H
theorem r_ID      : rID C f x y H Q=iD x y fun i j=>C i j/\Q (f i j) H:=rfl
theorem HH_     : rI0D f x y H Q=iD x y fun i j=>Q (f i j) H:=rfl
theorem HI_   : rID C g=rI C g:=by
 funext x y H Q;exact FH_
theorem FI_  : rI0D g=rI0 g:=by
 funext x y H Q;exact FH_
theorem opD     (h:OpR X f (rI C g)):OpR X f (rID C g):=by rw[HI_];exact h
theorem opD0    (h:OpR X f (rI0 g)):OpR X f (rI0D g):=by rw[FI_];exact h
noncomputable def bD:V->(Bool->Prop)->Prop
 |.bl c,q=>q c
 |x,q=>∃c,x=.bl c/\q c
theorem HJ_   : bD (.bl c) q=q c:=rfl
theorem HK_   : bD x q=∃c,x=.bl c/\q c:=by
 cases x<;>first|rfl|(simp[bD])
noncomputable def tBD (t:TE):TT:=fun σ H Q=>t σ H fun x H1=>bD x fun c=>Q c H1
theorem r_BD     : tBD te σ H R=te σ H fun x H1=>bD x fun c=>R c H1:=rfl
theorem EG_  : tBD t=tB t:=by
 funext σ H Q
 show t σ H _=t σ H _
 congr 1
 funext x H1;exact HK_
theorem FJ_  : tBD t=Cq_ t:=EG_
theorem ptB    (h:PT X e (tB t)):PT X e (tBD t):=by rw[EG_];exact h
theorem ptT    (h:PT X e (Cq_ t)):PT X e (tBD t):=by rw[FJ_];exact h
noncomputable def eD:V->V->Prop->Prop
 |.int _,.int _,q=>q
 |.str _,.str _,q=>q
 |.non,.non,q=>q
 |.bl _,.bl _,q=>q
 |x,y,q=>scal x y=true/\q
theorem EH_   : eD (.int i) (.int j) q=q:=rfl
theorem EI_   : eD (.str i) (.str j) q=q:=rfl
theorem EJ_  : eD .non .non q=q:=rfl
theorem HL_   : eD (.bl i) (.bl j) q=q:=rfl
theorem FK_   : eD x y q=(scal x y=true/\q):=by
 cases x<;>cases y<;>first|rfl|(simp[eD,scal])
noncomputable def rEqF:R2:=fun x y H Q=>eD x y (Q (.bl (decide (x=y))) H)
noncomputable def rNeF:R2:=fun x y H Q=>eD x y (Q (.bl (!decide (x=y))) H)
theorem HM_    : rEqF x y H Q=eD x y (Q (.bl (decide (x=y))) H):=rfl
theorem HN_    : rNeF x y H Q=eD x y (Q (.bl (!decide (x=y))) H):=rfl
theorem FL_:rEqF=rEq:=by funext x y H Q;exact FK_
theorem FM_:rNeF=rNe:=by funext x y H Q;exact FK_
theorem opE   (h:OpR X f rEq):OpR X f rEqF:=by rw[FL_];exact h
theorem opN   (h:OpR X f rNe):OpR X f rNeF:=by rw[FM_];exact h
noncomputable def aD:V->(Addr->Prop)->Prop
 |.ref a,q=>q a
 |x,q=>∃a,x=.ref a/\q a
theorem EK_   : aD (.ref a) q=q a:=rfl
theorem CW_   : aD x q=∃a,x=.ref a/\q a:=by
 cases x<;>first|rfl|(simp[aD])
noncomputable def nD:V->(Int->Prop)->Prop
 |.int a,q=>q a
 |x,q=>∃a,x=.int a/\q a
theorem EL_   : nD (.int a) q=q a:=rfl
theorem BG_   : nD x q=∃a,x=.int a/\q a:=by
 cases x<;>first|rfl|(simp[nD])
noncomputable def FN_ (K:α3):R2:=fun x y H Q=>aD x fun p=>∃xs,nD y fun i=>SqT K H p xs/\∃v,atI xs i=some v/\Q v H
noncomputable def FO_ (K:α3):R2:=fun x y H Q=>aD x fun p=>∃xs,nD y fun i=>SqL K H p xs/\∃v,atI xs i=some v/\Q v H
theorem EM_ {K:α3}    : FN_ K x y H Q=aD x fun p=>∃xs,nD y fun i=>SqT K H p xs/\∃v,atI xs i=some v/\Q v H:=rfl
theorem EN_ {K:α3}    : FO_ K x y H Q=aD x fun p=>∃xs,nD y fun i=>SqL K H p xs/\∃v,atI xs i=some v/\Q v H:=rfl
theorem CX_ {K:α3}:FN_ K=rIxT K:=by
 funext x y H Q
 show aD x _=∃p xs i v,_
 rw[CW_]
 refine propext ⟨fun ⟨p,e,h⟩=>?_,fun ⟨p,xs,i,v,e1,e2,e3,e4,e5⟩=>⟨p,e1,?_⟩⟩
 ·obtain⟨xs,h⟩:=h
  rw[BG_]at h
  obtain⟨i,e2,e3,v,e4,e5⟩:=h
  exact⟨p,xs,i,v,e,e2,e3,e4,e5⟩
 ·refine⟨xs,?_⟩
  rw[BG_]
  exact⟨i,e2,e3,v,e4,e5⟩
theorem CY_ {K:α3}:FO_ K=rIxL K:=by
 funext x y H Q
 show aD x _=∃p xs i v,_
 rw[CW_]
 refine propext ⟨fun ⟨p,e,h⟩=>?_,fun ⟨p,xs,i,v,e1,e2,e3,e4,e5⟩=>⟨p,e1,?_⟩⟩
 ·obtain⟨xs,h⟩:=h
  rw[BG_]at h
  obtain⟨i,e2,e3,v,e4,e5⟩:=h
  exact⟨p,xs,i,v,e,e2,e3,e4,e5⟩
 ·refine⟨xs,?_⟩
  rw[BG_]
  exact⟨i,e2,e3,v,e4,e5⟩
theorem ixTD  {K:α3}(h:IxR X (rIxT K)):IxR X (FN_ K):=by rw[CX_];exact h
theorem ixLD  {K:α3}(h:IxR X (rIxL K)):IxR X (FO_ K):=by rw[CY_];exact h
noncomputable def lD1:List V->(V->Prop)->Prop
 |[x],q=>q x
 |xs,q=>∃x,xs=[x]/\q x
theorem BH_   : lD1 [x] q=q x:=rfl
theorem HO_   : lD1 xs q=∃x,xs=[x]/\q x:=by
 match xs with
 |[]=>rfl
 |[x]=>simp[lD1]
 |x::y::r=>rfl
noncomputable def FP_ (K:α3):List V->Hp->VK->Prop:=fun xs H Q=>lD1 xs fun x=>aD x fun p=>∃ys,(SqL K H p ys\/SqT K H p ys)/\Q (.int ys.length) H
theorem EO_ {K:α3}    : FP_ K xs H Q=lD1 xs fun x=>aD x fun p=>∃ys,(SqL K H p ys\/SqT K H p ys)/\Q (.int ys.length) H:=rfl
theorem lenD  {K:α3}  (h:Hi X f (fun xs H Q=>∃p ys,xs=[.ref p]/\(SqL K H p ys\/SqT K H p ys)/\Q (.int ys.length) H)):Hi X f (FP_ K):=by
 have e:FP_ K=fun xs H Q=>∃p ys,xs=[.ref p]/\(SqL K H p ys\/SqT K H p ys)/\Q (.int ys.length) H:=by
  funext xs H Q
  show lD1 xs _=_
  rw[HO_]
  refine propext ⟨fun ⟨x,e,h⟩=>?_,fun ⟨p,ys,e,h1,h2⟩=>⟨_,e,ys,h1,h2⟩⟩
  rw[CW_]at h
  obtain⟨p,rfl,ys,h1,h2⟩:=h
  exact⟨p,ys,e,h1,h2⟩
 rw[e];exact h
theorem Ah       (hN:X.N.Nodup)(he:PE X e te)(hi:X.N[i]?=some x:=by rfl)(hx:Loc X.env.scope x:=by exact Or.inl rfl)(hs:swapsWith e (some (.Name x pos')) pos.line X.env=pure false:=by rfl)(hf:X.fn x=true\/X.env.scope.names.lookup x=some .local:=by first|exact .inl rfl|exact .inr rfl|assumption):PS X (.Assign [.Name x pos'] e pos) (tAsg te (IZ i)):=OI hN hi hx he hs hf
theorem Aj      (hr:IxR X r)(ha:PE X a ta)(hb:PE X b tb)(hs:AK_ b:=by exact fun _ _=>rfl):PE X (.Subscript a b pos) (tOp r ta tb):=Fj_ hr ha hb hs
end L2
namespace Mine
open PySem L2 GW GB PrimeO
local macro_rules | `(tactic| walk_at "rd") => `(tactic| (try dsimp only[↓EE_,BF_,↓r_ID,↓HH_,EF_,↓r_BD,HJ_,↓HM_,↓HN_,EH_,EI_,EJ_,HL_,↓EM_,↓EN_,EK_,EL_,↓EO_,BH_,↓GQ_,↓DS_,↓GR_,↓AW_,↓GS_,↓r_c,↓r_op,↓r_un,↓r_I,↓r_I0,↓r_U,↓DT_,↓DU_,↓GT_,↓GU_,↓DV_,↓r_if,↓r_B,↓DW_,↓GV_,↓r_or,↓GW_,↓DX_,↓DY_,↓AX_,↓GX_,↓r_CB,↓GY_,↓GZ_,↓Ha_,↓Hb_,↓r_sl,↓DZ_,↓Yh,↓Hc_,↓Hl_,↓r_BM,↓Yi,↓Ea_,↓Eb_,↓r_Eq,↓r_Ne,↓Hd_,↓AY_,↓Ec_,↓AZ_,↓He_,↓r_ip,↓Ba_,↓Ed_,↓Hg_,↓Hm_,↓Hn_,↓Bg_,↓Ho_,↓Ef_,↓Eg_,↓Yk,↓Bm_,↓Hq_,↓HE_,↓HF_,↓Ej_,↓Bk_,↓Ek_,↓El_,↓Em_,↓En_,↓Yl,↓Ym,↓Yo,↓Eh_,Hw_,EB_,↓Yw,↓VX,↓Hz_,↓Ez_,↓Yq,↓Bn_,↓Bo_,↓EA_,↓Et_,↓Bt_,↓Bw_,↓Ew_,↓VW,Hf_,L2.start,j4_,q1_,q7_,zs_,zj_,xQ_,List.replicate,xR_,List.getElem?_cons_succ,zx_,zy_,scal])<;>(try simp only[↓EE_,BF_,↓r_ID,↓HH_,EF_,↓r_BD,HJ_,↓HM_,↓HN_,EH_,EI_,EJ_,HL_,↓EM_,↓EN_,EK_,EL_,↓EO_,BH_,FH_,HK_,FK_,CW_,BG_,↓GQ_,↓DS_,↓GR_,↓AW_,↓GS_,↓r_c,↓r_op,↓r_un,↓r_I,↓r_I0,↓r_U,↓DT_,↓DU_,↓GT_,↓GU_,↓DV_,↓r_if,↓r_B,↓DW_,↓GV_,↓r_or,↓GW_,↓DX_,↓DY_,↓AX_,↓GX_,↓r_CB,↓GY_,↓GZ_,↓Ha_,↓Hb_,↓r_sl,↓DZ_,↓Yh,↓Hc_,↓Hl_,↓r_BM,↓Yi,↓Ea_,↓Eb_,↓r_Eq,↓r_Ne,↓Hd_,↓AY_,↓Ec_,↓AZ_,↓He_,↓r_ip,↓Ba_,↓Ed_,↓Hg_,↓Hm_,↓Hn_,↓Bg_,↓Ho_,↓Ef_,↓Eg_,↓Yk,↓Bm_,↓Hq_,↓HE_,↓HF_,↓Ej_,↓Bk_,↓Ek_,↓El_,↓Em_,↓En_,↓Yl,↓Ym,↓Yo,↓Eh_,Hw_,EB_,↓Yw,↓VX,↓Hz_,↓Ez_,↓Yq,↓Bn_,↓Bo_,↓EA_,↓Et_,↓Bt_,↓Bw_,↓Ew_,↓VW,Hf_,L2.start,j4_,q1_,q7_,zs_,zj_,xQ_,zp_,List.replicate,xR_,List.getElem?_cons_succ,zx_,zy_,Option.some.injEq,V.int.injEq,V.str.injEq,V.ref.injEq,V.bl.injEq,List.cons.injEq,and_true,true_and,and_assoc,exists_and_left,exists_eq_left',exists_eq_left,exists_eq_right,exists_eq,zE_,xP_,xT_,q4_,scal,Nat.reduceAdd,Nat.reduceSub,reduceCtorEq,Bool.not_true,Bool.not_false]))
local macro_rules | `(tactic| walk_at "sc") => `(tactic| exact⟨rfl,rfl,rfl,by decide +kernel,rfl,by decide +kernel,by decide +kernel⟩)
noncomputable def top (i:Nat):Stmt:=PySem.Challenge.pw_guessroom_k68_whole_difference.main.body.getD i (.Pass ⟨0,0,0,0⟩)
noncomputable abbrev GC:Stmt:=top 6
theorem B9:FnScope ["p","number","one","two","factor_of_one","factor_of_two","times","rest","factor_of_rest"] ["p","number"] (Af GC):=by walk_at "sc"
noncomputable abbrev Gi:Stmt:=top 7
theorem BI_:FnScope ["p","factor","row"] ["p","factor","row"] (Af Gi):=by walk_at "sc"
noncomputable abbrev KN:Stmt:=top 8
theorem CZ_:FnScope ["p","row","other"] ["p","row","other"] (Af KN):=by walk_at "sc"
noncomputable abbrev FP:Stmt:=top 9
theorem Zc:FnScope ["p","row","other"] ["p","row","other"] (Af FP):=by walk_at "sc"
noncomputable abbrev Bg:Stmt:=top 11
theorem Fw:FnScope ["row","place","number"] ["row"] (Af Bg):=by walk_at "sc"
noncomputable abbrev Ej:Stmt:=top 12
theorem Hk:FnScope ["p","bases","row","left","place","base"] ["p","bases","row"] (Af Ej):=by walk_at "sc"
noncomputable abbrev DL:Stmt:=top 13
theorem GX:FnScope ["p","bases","left","place","base","more","other"] ["p","bases","left","place"] (Af DL):=by walk_at "sc"
noncomputable abbrev Bp:Stmt:=top 14
theorem A6:FnScope ["p","rows","size","places","bases","number","row","left","place"] ["p","rows","size"] (Af Bp):=by walk_at "sc"
noncomputable abbrev OX:Stmt:=top 15
theorem FQ_:FnScope ["size","place"] ["size","place"] (Af OX):=by walk_at "sc"
noncomputable abbrev Bv:Stmt:=top 16
theorem Bc:FnScope ["p","rows","some","size","count","marked","bases","told","row","left","is_made"] ["p","rows","some","size"] (Af Bv):=by walk_at "sc"
noncomputable abbrev GD:Stmt:=top 17
theorem Zd:FnScope ["p","rows","parts","size"] ["p","rows","parts","size"] (Af GD):=by walk_at "sc"
noncomputable abbrev GF:Stmt:=top 19
theorem Ze:FnScope ["letters","word"] ["letters","word"] (Af GF):=by walk_at "sc"
noncomputable abbrev DM:Stmt:=top 20
theorem SM:FnScope ["letters","word"] ["letters","word"] (Af DM):=by walk_at "sc"
noncomputable abbrev DO:Stmt:=top 23
theorem SN:FnScope ["size"] ["size"] (Af DO):=by walk_at "sc"
noncomputable abbrev EX:Stmt:=top 24
theorem Zf:FnScope ["house","row","letter"] ["house","row","letter"] (Af EX):=by walk_at "sc"
noncomputable abbrev DQ:Stmt:=top 25
theorem HY:FnScope ["house","word","rows","letter"] ["house","word"] (Af DQ):=by walk_at "sc"
noncomputable abbrev DR:Stmt:=top 26
theorem SR:FnScope ["house","word"] ["house","word"] (Af DR):=by walk_at "sc"
noncomputable abbrev KO:Stmt:=top 27
theorem Da_:FnScope ["house","word"] ["house","word"] (Af KO):=by walk_at "sc"
noncomputable abbrev BA:Stmt:=top 28
theorem NX:FnScope ["house","other"] ["house","other"] (Af BA):=by walk_at "sc"
noncomputable abbrev DS:Stmt:=top 29
theorem HZ:FnScope ["table","other","left","right"] ["table","other"] (Af DS):=by walk_at "sc"
noncomputable abbrev FQ:Stmt:=top 30
theorem Ms:FnScope ["house","other","tables","last"] ["house","other"] (Af FQ):=by walk_at "sc"
noncomputable abbrev Eu:Stmt:=top 31
theorem VY:FnScope ["house","other"] ["house","other"] (Af Eu):=by walk_at "sc"
noncomputable abbrev CV:Stmt:=top 33
theorem A9:FnScope ["house","p","rows","bases","found","walked","word","row","left","place","letter"] ["house"] (Af CV):=by walk_at "sc"
noncomputable abbrev DT:Stmt:=top 34
theorem Eb:FnScope ["house","rows","own","made","row","goals"] ["house"] (Af DT):=by walk_at "sc"
noncomputable abbrev AM:Stmt:=top 35
theorem EY:FnScope ["house","other","both","word"] ["house","other"] (Af AM):=by walk_at "sc"
noncomputable abbrev BB:Stmt:=top 36
theorem SS:FnScope ["house","other"] ["house","other"] (Af BB):=by walk_at "sc"
noncomputable abbrev BF:Stmt:=top 38
theorem VZ:FnScope ["script","k"] ["script","k"] (Af BF):=by walk_at "sc"
noncomputable abbrev B1:Stmt:=top 39
theorem IG:FnScope ["number","part"] ["number"] (Af B1):=by walk_at "sc"
noncomputable abbrev DU:Stmt:=top 40
theorem Gj:FnScope ["cell","some","number"] ["cell"] (Af DU):=by walk_at "sc"
noncomputable abbrev CW:Stmt:=top 41
theorem SU:FnScope ["found"] ["found"] (Af CW):=by walk_at "sc"
noncomputable abbrev BN:Stmt:=top 42
theorem Kh:FnScope ["script","k","p","many"] ["script","k","p"] (Af BN):=by walk_at "sc"
noncomputable abbrev Ec:Stmt:=top 43
theorem Xs:FnScope ["script","at","many","p"] ["script","at","many","p"] (Af Ec):=by walk_at "sc"
noncomputable abbrev CY:Stmt:=top 44
theorem EZ:FnScope ["script","at","p","letters","many","tables","letter","base","first"] ["script","at","p","letters","many"] (Af CY):=by walk_at "sc"
noncomputable abbrev C5:Stmt:=top 45
theorem Jg:FnScope ["p","row","table","told","c"] ["p","row","table"] (Af C5):=by walk_at "sc"
noncomputable abbrev CZ:Stmt:=top 46
theorem SV:FnScope ["p","one","two"] ["p","one","two"] (Af CZ):=by walk_at "sc"
noncomputable abbrev C6:Stmt:=top 47
theorem FJ:FnScope ["house","word","row","letter"] ["house","word"] (Af C6):=by walk_at "sc"
noncomputable abbrev DV:Stmt:=top 48
theorem Bx:FnScope ["house","script","at","p","many","apart_way","tables","letter","beside","table","number"] ["house","script","at"] (Af DV):=by walk_at "sc"
noncomputable abbrev BG:Stmt:=top 49
theorem Hl:FnScope ["p","row","i","j","times","number"] ["p","row","i","j","times"] (Af BG):=by walk_at "sc"
noncomputable abbrev B2:Stmt:=top 50
theorem NY:FnScope ["p","row","times","other"] ["p","row","times","other"] (Af B2):=by walk_at "sc"
noncomputable abbrev C7:Stmt:=top 51
theorem BU:FnScope ["house","i","j","times","p","tables","table","rows","row","last","first"] ["house","i","j","times"] (Af C7):=by walk_at "sc"
noncomputable abbrev Cy:Stmt:=top 52
theorem B3:FnScope ["house","script","at","many","k","cell","times"] ["house","script","at"] (Af Cy):=by walk_at "sc"
noncomputable abbrev Cz:Stmt:=top 53
theorem Jh:FnScope ["p","found","many","number"] ["p","found","many"] (Af Cz):=by walk_at "sc"
noncomputable abbrev DW:Stmt:=top 54
theorem Ia:FnScope ["p","rows","amounts","size","told","c"] ["p","rows","amounts","size"] (Af DW):=by walk_at "sc"
noncomputable abbrev BV:Stmt:=top 55
theorem Ji:FnScope ["found","letters","letter"] ["found","letters"] (Af BV):=by walk_at "sc"
noncomputable abbrev Fx:Stmt:=top 57
theorem CA:FnScope ["house","most","told","longest","size","longer","pair","letter","row"] ["house","most"] (Af Fx):=by walk_at "sc"
noncomputable abbrev BI:Stmt:=top 58
theorem CJ:FnScope ["one","two","most","mine","other","p","k"] ["one","two","most"] (Af BI):=by walk_at "sc"
noncomputable abbrev C8:Stmt:=top 59
theorem Dv:FnScope ["house","words","rows","amounts","p","size","k","letter","due"] ["house","words","rows","amounts"] (Af C8):=by walk_at "sc"
noncomputable abbrev C9:Stmt:=top 60
theorem Ek:FnScope ["house","found","words","rows","row"] ["house"] (Af C9):=by walk_at "sc"
noncomputable abbrev Dc:Stmt:=top 61
theorem CB:FnScope ["one","script","at","way","p","two","place","number","spot"] ["one","script","at","way"] (Af Dc):=by walk_at "sc"
noncomputable abbrev CC:Stmt:=top 62
theorem GG:FnScope ["deed","one","two","refused"] ["deed","one","two"] (Af CC):=by walk_at "sc"
noncomputable abbrev A7:Stmt:=top 63
theorem B7:FnScope ["deed","one","two","told","e"] ["deed","one","two"] (Af A7):=by walk_at "sc"
noncomputable abbrev CD:Stmt:=top 64
theorem DX:FnScope ["one","cell","p","two","letters"] ["one","cell"] (Af CD):=by walk_at "sc"
noncomputable abbrev Ew:Stmt:=top 65
theorem GY:FnScope ["p","last","many","table","k"] ["p","last"] (Af Ew):=by walk_at "sc"
noncomputable abbrev BJ:Stmt:=top 66
theorem AH:FnScope ["script","p","cell","size","other","last","mine","place","due","k","number","one","two","found"] ["script","p","cell"] (Af BJ):=by walk_at "sc"
noncomputable abbrev SW:Stmt:=top 67
theorem Ki:FnScope ["script","p","letters","many","way","one","two","found","told","most"] ["script"] (Af SW):=by walk_at "sc"
noncomputable def RX:Caps:=[("number",none),("p",some 0),("factor",some 1)]
theorem SX:(Caps.names RX).Nodup:=by decide +kernel
noncomputable def V0:Caps:=[("one",none),("two",none),("p",some 0)]
theorem ND:(Caps.names V0).Nodup:=by decide +kernel
noncomputable def OY:Caps:=[("one",none),("two",none)]
theorem Kj:(Caps.names OY).Nodup:=by decide +kernel
noncomputable def OZ:Caps:=[("number",none),("p",some 0)]
theorem QI:(Caps.names OZ).Nodup:=by decide +kernel
noncomputable def Yy:Caps:=[("other",none),("place",some 1)]
theorem Xt:(Caps.names Yy).Nodup:=by decide +kernel
noncomputable def GH:Caps:=[("place",none),("row",none),("count",some 4)]
theorem Fp:(Caps.names GH).Nodup:=by decide +kernel
noncomputable def GI:Caps:=[("number",none),("p",some 0)]
theorem IM:(Caps.names GI).Nodup:=by decide +kernel
noncomputable def O0:Caps:=[("place",none),("p",some 0),("parts",some 2),("rows",some 1)]
theorem QJ:(Caps.names O0).Nodup:=by decide +kernel
noncomputable def O1:Caps:=[("row",none),("place",some 0)]
theorem QK:(Caps.names O1).Nodup:=by decide +kernel
noncomputable def O2:Caps:=[("letter",none),("letters",some 0)]
theorem QL:(Caps.names O2).Nodup:=by decide +kernel
noncomputable def Kk:Caps:=[("row",none),("right",some 3)]
theorem Mt:(Caps.names Kk).Nodup:=by decide +kernel
noncomputable def Kl:Caps:=[("row",none),("left",some 2)]
theorem Mu:(Caps.names Kl).Nodup:=by decide +kernel
noncomputable def O3:Caps:=[("one",none),("two",none)]
theorem Km:(Caps.names O3).Nodup:=by decide +kernel
noncomputable def Kn:Caps:=[("letter",none),("house",some 0),("row",some 4)]
theorem Mv:(Caps.names Kn).Nodup:=by decide +kernel
noncomputable def NF:Caps:=[("k",none),("script",some 0),("p",some 3),("at",some 1)]
theorem O4:(Caps.names NF).Nodup:=by decide +kernel
noncomputable def Ko:Caps:=[("k",none),("script",some 0),("many",some 4),("p",some 2),("base",some 7)]
theorem Mw:(Caps.names Ko).Nodup:=by decide +kernel
noncomputable def Lj:Caps:=[("k",none),("row",some 1),("c",some 4),("table",some 2)]
theorem NZ:(Caps.names Lj).Nodup:=by decide +kernel
noncomputable def Kp:Caps:=[("k",none),("one",some 1),("two",some 2)]
theorem My:(Caps.names Kp).Nodup:=by decide +kernel
noncomputable def Kq:Caps:=[("row",none)]
theorem Mz:(Caps.names Kq).Nodup:=by decide +kernel
noncomputable def Kr:Caps:=[("k",none),("letter",some 7),("beside",some 8),("house",some 0)]
theorem MA:(Caps.names Kr).Nodup:=by decide +kernel
noncomputable def Hm:Caps:=[("c",none),("p",some 0),("row",some 1),("times",some 2),("other",some 3)]
theorem Ke:(Caps.names Hm).Nodup:=by decide +kernel
noncomputable def Kt:Caps:=[("k",none),("amounts",some 2),("c",some 5),("rows",some 1)]
theorem MB:(Caps.names Kt).Nodup:=by decide +kernel
noncomputable def Jj:Caps:=[("word",none),("house",some 0)]
theorem Lk:(Caps.names Jj).Nodup:=by decide +kernel
noncomputable def Ll:Caps:=[("c",none),("k",some 4)]
theorem N0:(Caps.names Ll).Nodup:=by decide +kernel
structure Txt (mg:Str->α5):Prop where
 ValueError:mg "ValueError"=none
 all:mg "all"=none
 bool:mg "bool"=none
 enumerate:mg "enumerate"=none
 int:mg "int"=none
 isinstance:mg "isinstance"=none
 len:mg "len"=none
 list:mg "list"=none
 max:mg "max"=none
 range:mg "range"=none
 sum:mg "sum"=none
 tuple:mg "tuple"=none
 zip:mg "zip"=none
structure Own (K:α3)(mg:Str->α5):Prop where
 q_j1j:∃t,mg "MOST_NUMBERS"=some (.int 16 t)
structure Exs (K:α3)(mg:Str->α5)(C_j3 C_j0 C_j2 C_j1:Addr):Prop where
 m_j3:mg "AskError"=some (.ref C_j3)
 m_j0:mg "BadHouse"=some (.ref C_j0)
 m_j2:mg "BadWord"=some (.ref C_j2)
 m_j1:mg "NoInverse"=some (.ref C_j1)
 x_j0:PySem.W.excIn K C_j0 bmV "ValueError.__new__"=true
 c_j0:ExcCls K C_j0
 e_j0:exmOne K (.ref C_j0) (.ref C_j3)=some true
 v_j0:kitOne K (.ref C_j0) (.type "ValueError")=some true
 ee_j0:exmOne K (.ref C_j0) (.ref C_j0)=some true
 k_j0_j3:kitOne K (.ref C_j0) (.ref C_j3)=some true
 k_j0_j0:kitOne K (.ref C_j0) (.ref C_j0)=some true
 k_j0_j2:kitOne K (.ref C_j0) (.ref C_j2)=some false
 k_j0_j1:kitOne K (.ref C_j0) (.ref C_j1)=some false
 x_j2:PySem.W.excIn K C_j2 bmV "ValueError.__new__"=true
 c_j2:ExcCls K C_j2
 e_j2:exmOne K (.ref C_j2) (.ref C_j3)=some true
 v_j2:kitOne K (.ref C_j2) (.type "ValueError")=some true
 ee_j2:exmOne K (.ref C_j2) (.ref C_j2)=some true
 k_j2_j3:kitOne K (.ref C_j2) (.ref C_j3)=some true
 k_j2_j0:kitOne K (.ref C_j2) (.ref C_j0)=some false
 k_j2_j2:kitOne K (.ref C_j2) (.ref C_j2)=some true
 k_j2_j1:kitOne K (.ref C_j2) (.ref C_j1)=some false
 x_j1:PySem.W.excIn K C_j1 bmV "ValueError.__new__"=true
 c_j1:ExcCls K C_j1
 e_j1:exmOne K (.ref C_j1) (.ref C_j3)=some true
 v_j1:kitOne K (.ref C_j1) (.type "ValueError")=some true
 ee_j1:exmOne K (.ref C_j1) (.ref C_j1)=some true
 k_j1_j3:kitOne K (.ref C_j1) (.ref C_j3)=some true
 k_j1_j0:kitOne K (.ref C_j1) (.ref C_j0)=some false
 k_j1_j2:kitOne K (.ref C_j1) (.ref C_j2)=some false
 k_j1_j1:kitOne K (.ref C_j1) (.ref C_j1)=some true
section
variable {P:Program} {w:World} {K:α3} {mg:Str->α5} {base:Heap}
variable {C_j3 C_j0 C_j2 C_j1:Addr}
noncomputable def dotW (xs ys:α2):Int:=(List.zipWith (fun x y=>x*y) xs ys).sum
noncomputable def colW (rows:α1)(c:Nat):α2:=rows.map fun r=>r.getD c 0
noncomputable def Ba (K:α3)(H:Hp)(xs:List V)(rows:α1):Prop:=xs.length=rows.length/\∀(i:Nat) (r:α2),rows[i]?=some r->∃t,xs[i]?=some (.ref t)/\SqT K H t (r.map V.int)
theorem Ba.mono {K:α3}    (h:Ba K H xs rows)(s:Same H H'):Ba K H' xs rows:=by
 refine⟨h.1,fun i r hi=>?_⟩
 obtain⟨t,a,b⟩:=h.2 i r hi
 exact⟨t,a,s.seqT b⟩
theorem Ba.nil {K:α3}  : Ba K H [] []:=⟨rfl,fun i r h=>by simp at h⟩
theorem Ba.snoc {K:α3}      (h:Ba K H xs rows)(g:SqT K H t (r.map V.int)):Ba K H (xs++[.ref t]) (rows++[r]):=by
 refine⟨by simp[h.1],fun i v hi=>?_⟩
 by_cases hl:i<rows.length
 ·rw[jn_ hl]at hi
  rw[jn_ (by rw[h.1];exact hl)]
  exact h.2 i v hi
 ·have:=(jd_.mp hi).1
  rw[jk_,jZ_]at this
  have e:i=rows.length:=by lia
  subst e
  rw[jq_ (jf_ _),qr_]at hi
  simp at hi
  subst hi
  exact⟨t,by rw[<-h.1];simp,g⟩
noncomputable def DF (p:Int)(rows:α1)(am:α2)(n:Nat):α2:=(List.range n).map fun c=>dotW am (colW rows c)%p
theorem HP_ (rows:α1)(c:Nat):(List.range rows.length).map (fun i=>V.int ((rows.getD i []).getD c 0))=(colW rows c).map V.int:=by
 refine qJ_ (by simp[colW]) fun i h1 h2=>?_
 have hi:i<rows.length:=by simpa using h1
 simp[colW,ja_,hi]
theorem EP_ (am:α2)(rows:α1)(c:Nat)(h:am.length=rows.length):(List.range rows.length).map (fun k=>am.getD k 0*(rows.getD k []).getD c 0)=List.zipWith (fun x y=>x*y) am (colW rows c):=by
 refine qJ_ (by simp[colW,h]) fun i h1 h2=>?_
 have hi:i<rows.length:=by simpa using h1
 have hi':i<am.length:=by lia
 simp[colW,ja_,hi,hi']
theorem SY {r:α2}{c:Nat}(h:c<r.length):atI (r.map V.int) (c:Int)=some (.int (r.getD c 0)):=by
 refine AY ?_
 rw[jh_,jc_ h,ja_,jc_ h];rfl
theorem RY (xs:List V)(m:Nat):cutV xs none (some (m:Int))=xs.take m:=by
 unfold cutV
 rw[HT.sIx_nat,HT.sIx_none,List.drop_zero,Nat.sub_zero,List.take_eq_take_iff]
 lia
theorem Zg (xs:List V)(m:Nat):cutV xs (some (m:Int)) none=xs.drop m:=by
 unfold cutV
 rw[HT.sIx_nat,HT.sIx_none]
 rcases Nat.le_total m xs.length with h|h
 ·rw[xU_ h]
  exact qm_ (by rw[xD_];exact jf_ _)
 ·rw[Nat.min_eq_right h,x1_ h,List.drop_length,List.take_nil]
theorem B8 (ys:α2):dotW [] ys=0:=by unfold dotW;simp
theorem FK (xs:α2):dotW xs []=0:=by unfold dotW;simp
theorem A1 (x y:Int)(xs ys:α2):dotW (x::xs) (y::ys)=x*y+dotW xs ys:=by unfold dotW;simp
theorem Bt:∀xs ys:α2,dotW xs ys=dotW ys xs
 |[],ys=>by rw[B8,FK]
 |x::xs,[]=>by rw[B8,FK]
 |x::xs,y::ys=>by rw[A1,A1,Bt xs ys,xj_]
theorem Jk:∀(xs ys us vs:α2),xs.length=us.length->dotW (xs++ys) (us++vs)=dotW xs us+dotW ys vs
 |[],ys,us,vs,h=>by
  have:us=[]:=jX_.mp (by simpa using h.symm)
  subst this
  simp[B8]
 |x::xs,ys,u::us,vs,h=>by
  rw[zj_,zj_,A1,A1,Jk xs ys us vs (by simpa using h)]
  lia
 |x::xs,ys,[],vs,h=>by simp at h
theorem E1 (n:Nat):∀xs:α2,dotW xs (List.replicate n 0)=0:=by
 induction n with
 |zero=>intro xs;rw[List.replicate_zero,FK]
 |succ n ih=>
  intro xs
  cases xs with
  |nil=>rw[B8]
  |cons x xs=>rw[qe_,A1,ih];lia
theorem Hn (a:Int):∀xs ys:α2,dotW (xs.map (a * ·)) ys=a*dotW xs ys
 |[],ys=>by rw[q1_,B8];lia
 |x::xs,[]=>by rw[FK,FK];lia
 |x::xs,y::ys=>by rw[j4_,A1,A1,Hn a xs ys,x6_,qZ_]
noncomputable def cg (p:Int)(xs ys:α2):Prop:=xs.map (· % p)=ys.map (· % p)
theorem cg.len   (h:cg p xs ys):xs.length=ys.length:=by
 have:=qY_ List.length h
 simpa using this
theorem cg.refl (p:Int)(xs:α2):cg p xs xs:=rfl
theorem cg.app   (h:cg p xs us)(g:cg p ys vs):cg p (xs++ys) (us++vs):=by
 unfold cg at *
 rw[ji_,ji_,h,g]
theorem cg.dot {p:Int}:∀{xs xs' ys ys':α2},cg p xs xs'->cg p ys ys'->dotW xs ys%p=dotW xs' ys'%p
 |[],[],ys,ys',_,_=>by rw[B8,B8]
 |[],x::xs',ys,ys',h,_=>by have:=h.len;simp at this
 |x::xs,[],ys,ys',h,_=>by have:=h.len;simp at this
 |x::xs,x'::xs',[],[],_,_=>by rw[FK,FK]
 |x::xs,x'::xs',[],y::ys',_,h=>by have:=h.len;simp at this
 |x::xs,x'::xs',y::ys,[],_,h=>by have:=h.len;simp at this
 |x::xs,x'::xs',y::ys,y'::ys',h,g=>by
  obtain⟨h1,h2⟩:=List.cons.inj h
  obtain⟨g1,g2⟩:=List.cons.inj g
  have h1:x%p=x'%p:=h1
  have g1:y%p=y'%p:=g1
  rw[A1,A1,qO_,qs_,h1,g1,cg.dot (xs:=xs) (ys:=ys) h2 g2,<-qs_,<-qO_]
theorem cg.map {p:Int}{α:Type}{f g:α->Int}{l:List α}(h:∀a∈l,f a%p=g a%p):cg p (l.map f) (l.map g):=by
 unfold cg
 rw[jK_,jK_]
 exact jS_ h
theorem cg.getD   (h:cg p xs ys)(c:Nat):xs.getD c 0%p=ys.getD c 0%p:=by
 have hl:=h.len
 by_cases hc:c<xs.length
 ·have e:=qY_ (fun l:α2=>l[c]?) h
  rw[jh_,jh_,jc_ hc,jc_ s!""]at e
  rw[ja_,ja_,jc_ hc,jc_ s!""]
  exact jB_ e
 ·rw[ja_,ja_,ju_ s!"",ju_ s!""]
noncomputable def cgT (p:Int)(a b:α1):Prop:=a.length=b.length/\∀i,cg p (a.getD i []) (b.getD i [])
theorem cgT.refl (p:Int)(a:α1):cgT p a a:=⟨rfl,fun _=>rfl⟩
theorem cgT.col   (h:cgT p a b)(c:Nat):cg p (colW a c) (colW b c):=by
 unfold cg colW
 rw[jK_,jK_]
 refine qC_ fun i=>?_
 rw[jh_,jh_]
 have hl:=h.1
 by_cases hi:i<a.length
 ·rw[jc_ hi,jc_ (show i<b.length by lia)]
  have:=(h.2 i).getD c
  rw[ja_ (l:=a),ja_ (l:=b),jc_ hi,jc_ (show i<b.length by lia)]at this
  exact qY_ some this
 ·rw[ju_ s!"",ju_ s!""]
theorem S0:∀(u v w:α2),u.length=v.length->dotW (List.zipWith (· + ·) u v) w=dotW u w+dotW v w
 |[],[],w,_=>by simp[B8]
 |[],y::v,w,h=>by simp at h
 |x::u,[],w,h=>by simp at h
 |x::u,y::v,[],_=>by simp[FK]
 |x::u,y::v,z::w,h=>by
  rw[List.zipWith_cons_cons,A1,A1,A1,S0 u v w (by simpa using h),x4_];lia
theorem S1 {d:Nat}{col:α2}(hc:col.length=d):∀(tb:α1) (row:α2),(∀r∈tb,r.length=d)->row.length=tb.length->dotW ((List.range d).map fun c=>dotW row (colW tb c)) col=dotW row (tb.map fun r=>dotW col r)
 |[],row,_,h=>by
  have:row=[]:=jX_.mp (by simpa using h)
  subst this
  rw[B8]
  have e:((List.range d).map fun c=>dotW [] (colW [] c))=List.replicate d 0:=by
   refine qC_ fun i=>?_
   by_cases hi:i<d
   ·rw[jh_,j7_ hi,j8_,if_pos hi];rfl
   ·rw[ju_ (by simp;lia),ju_ (by simp;lia)]
  rw[e,Bt,E1]
 |r::tb,[],_,h=>by simp at h
 |r::tb,x::row,hd,h=>by
  have ih:=S1 hc tb row (fun s hs=>hd s (jt_ _ hs)) (by simpa using h)
  have hr:=hd r (jC_ ..)
  have e:((List.range d).map fun c=>dotW (x::row) (colW (r::tb) c))=List.zipWith (· + ·) (r.map (x * ·)) ((List.range d).map fun c=>dotW row (colW tb c)):=by
   refine qC_ fun i=>?_
   rw[qN_]
   by_cases hi:i<d
   ·rw[jh_,j7_ hi,jh_,jh_,j7_ hi,jc_ (show i<r.length by lia)]
    show some (dotW (x::row) (r.getD i 0::colW tb i))=some (x*r[i]+dotW row (colW tb i))
    rw[A1,ja_,jc_ (show i<r.length by lia)];rfl
   ·rw[ju_ (by simp;lia),ju_ (show (r.map (x * ·)).length<=i by simp;lia)]
  rw[e,S0 _ _ _ (by simp[hr]),Hn,ih,j4_,A1,Bt r col]
theorem MC {α:Type}(z:α)(r:List α):(List.range r.length).map (fun i=>r.getD i z)=r:=by
 refine qJ_ (by simp) fun i h1 h2=>?_
 simp[ja_,h2]
noncomputable def Span (p:Int)(n:Nat)(S:α1)(v:Nat->Int):Prop:=∃cs:α2,cs.length=S.length/\∀i:Nat,i<n->v i%p=dotW cs (colW S i)%p
theorem Ib (S:α1)(i:Nat):(colW S i).length=S.length:=by unfold colW;rw[jb_]
theorem Span.congr     (h:Span p n S v)(e:∀i:Nat,i<n->u i%p=v i%p):Span p n S u:=by
 obtain⟨cs,a,b⟩:=h
 exact⟨cs,a,fun i hi=>(e i hi).trans (b i hi)⟩
theorem Span.zero    : Span p n S fun _=>0:=
 ⟨List.replicate S.length 0,qa_,fun i _=>by rw[Bt,E1]⟩
theorem Span.add     (h:Span p n S v)(g:Span p n S u):Span p n S fun i=>v i+u i:=by
 obtain⟨cs,a,b⟩:=h
 obtain⟨ds,a',b'⟩:=g
 refine⟨List.zipWith (· + ·) cs ds,by rw[xk_,a,a',Nat.min_self],fun i hi=>?_⟩
 rw[S0 _ _ _ (by rw[a,a']),qO_,b i hi,b' i hi,<-qO_]
theorem Span.smul     (c:Int)(h:Span p n S v):Span p n S fun i=>c*v i:=by
 obtain⟨cs,a,b⟩:=h
 refine⟨cs.map (c * ·),by rw[jb_,a],fun i hi=>?_⟩
 rw[Hn,qs_,b i hi,<-qs_]
theorem Span.app     (h:Span p n S v)(T:α1):Span p n (S++T) v:=by
 obtain⟨cs,a,b⟩:=h
 refine⟨cs++List.replicate T.length 0,by rw[jk_,jk_,qa_,a],fun i hi=>?_⟩
 unfold colW at *
 rw[ji_,Jk _ _ _ _ (by rw[jb_,a]),Bt (List.replicate _ _),E1,zd_]
 exact b i hi
theorem Span.last   (S:α1)(r:α2):Span p n (S++[r]) fun i=>r.getD i 0:=by
 refine⟨List.replicate S.length 0++[1],by simp,fun i _=>?_⟩
 unfold colW
 rw[ji_,Jk _ _ _ _ (by rw[jb_,qa_]),Bt (List.replicate _ _),E1]
 show _=(0+dotW [1] [r.getD i 0])%p
 rw[A1,B8]
 congr 1
 show r.getD i 0=0+(1*r.getD i 0+0)
 lia
theorem Span.mem     (h:r∈S):Span p n S fun i=>r.getD i 0:=by
 obtain⟨A,B,rfl⟩:=List.append_of_mem h
 rw[show A++r::B=(A++[r])++B by simp]
 exact (Span.last A r).app B
theorem Span.comb {p:Int}{n:Nat}{S:α1}:∀{T:α1} (cs:α2),(∀r∈T,Span p n S fun i=>r.getD i 0)->cs.length=T.length->Span p n S fun i=>dotW cs (colW T i)
 |[],cs,_,h=>by
  have:cs=[]:=jX_.mp h
  subst this
  exact Span.zero.congr fun i _=>by rw[B8]
 |r::T,[],_,h=>by simp at h
 |r::T,c::cs,hT,h=>by
  have ih:=Span.comb (T:=T) cs (fun s hs=>hT s (jt_ _ hs)) (by simpa using h)
  refine (((hT r (jC_ ..)).smul c).add ih).congr fun i _=>?_
  show dotW (c::cs) (r.getD i 0::colW T i)%p=_
  rw[A1]
theorem Span.trans     (h:Span p n T v)(hT:∀r∈T,Span p n S fun i=>r.getD i 0):Span p n S v:=by
 obtain⟨cs,a,b⟩:=h
 exact (Span.comb cs hT a).congr b
theorem Db_  (cs:α2):∀(zs:α2),(∀z∈zs,z%p=0)->dotW cs zs%p=0:=by
 induction cs with
 |nil=>intro zs _;rw[B8];simp
 |cons c cs ih=>
  intro zs hz
  cases zs with
  |nil=>rw[FK];simp
  |cons z zs=>
   rw[A1,qO_,ih zs fun y hy=>hz y (jt_ _ hy),qs_,hz z (jC_ ..)]
   simp
theorem Span.linear     (h:Span p n S fun i=>v.getD i 0)(hv:v.length=n)  (hg:g.length=n)(hS:∀r∈S,r.length=n/\dotW g r%p=0):dotW v g%p=0:=by
 obtain⟨cs,a,b⟩:=h
 have e1:cg p v ((List.range n).map fun c=>dotW cs (colW S c)):=by
  have:v=(List.range n).map fun i=>v.getD i 0:=by rw[<-hv];exact (MC 0 v).symm
  rw[this]
  exact cg.map fun i hi=>b i (j9_.mp hi)
 rw[cg.dot e1 (cg.refl p g),S1 hg S cs (fun r hr=>(hS r hr).1) a]
 refine Db_ cs _ fun z hz=>?_
 obtain⟨r,hr,rfl⟩:=jv_.mp hz
 exact (hS r hr).2
noncomputable def cof (bs:List (Nat×α2))(row:α2):α2:=bs.map fun x=>row.getD x.1 0
noncomputable def basR (bs:List (Nat×α2)):α1:=bs.map (·.2)
structure Bs (p:Int)(n:Nat)(bs:List (Nat×α2)):Prop where
 len:∀x∈bs,x.2.length=n/\x.1<n/\∀y∈x.2,0<=y/\y<p
 own:∀x∈bs,x.2.getD x.1 0=1
 off:bs.Pairwise fun x y=>x.2.getD y.1 0=0/\y.2.getD x.1 0=0
noncomputable def Ic (p:Int)(left:α2)(x:Nat×α2):α2:=if left.getD x.1 0=0 then left else List.zipWith (fun a b=>(a+b)%p) left (x.2.map fun y => -left.getD x.1 0*y%p)
noncomputable def AU (p:Int)(bs:List (Nat×α2))(row:α2):α2:=bs.foldl (Ic p) (row.map (· % p))
theorem Dc_ {f:Int->Int->Int}(f0:f 0 0=0){xs ys:α2}(h:xs.length=ys.length)(i:Nat):(List.zipWith f xs ys).getD i 0=f (xs.getD i 0) (ys.getD i 0):=by
 rw[ja_,ja_,ja_,qN_]
 by_cases hi:i<xs.length
 ·rw[jc_ hi,jc_ (show i<ys.length by lia)];rfl
 ·rw[ju_ s!"",ju_ s!""];exact f0.symm
theorem Lm {f:Int->Int}(f0:f 0=0)(xs:α2)(i:Nat):(xs.map f).getD i 0=f (xs.getD i 0):=by
 rw[ja_,ja_,jh_]
 cases xs[i]? with
 |none=>exact f0.symm
 |some x=>rfl
theorem S2     (hl:left.length=n)(hx:x.2.length=n)(i:Nat):(Ic p left x).length=n/\(Ic p left x).getD i 0%p=(left.getD i 0-left.getD x.1 0*x.2.getD i 0)%p:=by
 unfold Ic
 split
 ·rename_i h0
  exact⟨hl,by rw[h0];congr 1;lia⟩
 ·refine⟨by rw[xk_,jb_];lia,?_⟩
  rw[Dc_ (by simp) (by rw[jb_];lia),Lm (by simp),jT_ _ (qx_ p),qO_,jT_ _ (qx_ p),<-qO_]
  congr 1
  rw[zH_];lia
theorem J7 (xs ys:α2)(h:xs.length=ys.length)(x y:Int):dotW (xs++[x]) (ys++[y])=dotW xs ys+x*y:=by
 rw[Jk _ _ _ _ h,A1,B8];lia
theorem E2   (row:α2)(hr:row.length=n):∀(bs:List (Nat×α2)),Bs p n bs->(AU p bs row).length=n/\∀i:Nat,(AU p bs row).getD i 0%p=(row.getD i 0-dotW (cof bs row) (colW (basR bs) i))%p:=by
 intro bs
 generalize hk:bs.length=k
 induction k generalizing bs with
 |zero=>
  intro _
  have:bs=[]:=jX_.mp hk
  subst this
  refine⟨by unfold AU;simp[hr],fun i=>?_⟩
  show (row.map (· % p)).getD i 0%p=(row.getD i 0-dotW [] _)%p
  rw[Lm (by simp),jT_ _ (qx_ p),B8]
  congr 1;lia
 |succ k ih=>
  intro hB
  obtain⟨P,x,rfl⟩:∃P x,bs=P++[x]:=⟨bs.dropLast,bs.getLast (by intro e;subst e;simp at hk),(qQ_ _).symm⟩
  have hP:Bs p n P:=⟨fun y hy=>hB.len y (jY_ _ hy),fun y hy=>hB.own y (jY_ _ hy),(qX_.mp hB.off).1⟩
  obtain⟨l1,l2⟩:=ih P (by simp at hk;lia) hP
  have hx:=hB.len x (by simp)
  have hoff:∀y∈P,y.2.getD x.1 0=0:=fun y hy=>((qX_.mp hB.off).2.2 y hy x (by simp)).1
  have e:AU p (P++[x]) row=Ic p (AU p P row) x:=by unfold AU;rw[qE_];rfl
  rw[e]
  refine⟨(S2 l1 hx.1 0).1,fun i=>?_⟩
  have hz:dotW (cof P row) (colW (basR P) x.1)=0:=by
   have:colW (basR P) x.1=List.replicate P.length 0:=by
    refine q9_.mpr ⟨by unfold colW basR;simp,fun z hz=>?_⟩
    unfold colW basR at hz
    rw[jK_]at hz
    obtain⟨y,hy,rfl⟩:=jv_.mp hz
    exact hoff y hy
   rw[this,E1]
  have hq:=l2 x.1
  rw[hz,Int.sub_zero]at hq
  have e2:dotW (cof (P++[x]) row) (colW (basR (P++[x])) i)=dotW (cof P row) (colW (basR P) i)+row.getD x.1 0*x.2.getD i 0:=by
   unfold cof colW basR
   rw[ji_,ji_,ji_]
   exact J7 _ _ (by simp) _ _
  rw[(S2 l1 hx.1 i).2,e2,ze_,l2 i,qs_,hq,<-qs_,<-ze_]
  congr 1
  lia
theorem Jl  (hp:0<p)(row:α2)(bs:List (Nat×α2)):∀y∈AU p bs row,0<=y/\y<p:=by
 have key:∀(bs:List (Nat×α2)) (l:α2),(∀y∈l,0<=y/\y<p)->∀y∈bs.foldl (Ic p) l,0<=y/\y<p:=fun bs=>by
  induction bs with
  |nil=>exact fun l h=>h
  |cons x bs ih=>
   intro l h
   refine ih (Ic p l x) ?_
   unfold Ic
   split
   ·exact h
   ·intro y hy
    obtain⟨i,hi⟩:=qp_.mp hy
    rw[qN_]at hi
    split at hi
    ·cases hi
     exact⟨jJ_ _ s!"",jE_ _ hp⟩
    ·cases hi
 refine key bs _ fun y hy=>?_
 obtain⟨z,_,rfl⟩:=jv_.mp hy
 exact⟨jJ_ _ s!"",jE_ _ hp⟩
theorem getD_in {p:Int}(hp:0<p){l:α2}(h:∀y∈l,0<=y/\y<p)(i:Nat):0<=l.getD i 0/\l.getD i 0<p:=by
 rw[ja_]
 cases e:l[i]? with
 |none=>exact⟨by simp,by simpa using hp⟩
 |some y=>exact h y (jj_ e)
theorem BJ_ {p:Int}{n:Nat}(row:α2):∀{bs:List (Nat×α2)},Bs p n bs->∀x∈bs,dotW (cof bs row) (colW (basR bs) x.1)=row.getD x.1 0
 |[],_,x,hx=>by simp at hx
 |y::bs,hB,x,hx=>by
  have hoff:=List.pairwise_cons.mp hB.off
  have hT:Bs p n bs:=⟨fun z hz=>hB.len z (jt_ _ hz),fun z hz=>hB.own z (jt_ _ hz),hoff.2⟩
  show dotW (row.getD y.1 0::cof bs row) (y.2.getD x.1 0::colW (basR bs) x.1)=_
  rw[A1]
  rcases jL_.mp hx with rfl|hx
  ·have:colW (basR bs) x.1=List.replicate bs.length 0:=by
    refine q9_.mpr ⟨by unfold colW basR;simp,fun z hz=>?_⟩
    unfold colW basR at hz
    rw[jK_]at hz
    obtain⟨y,hy,rfl⟩:=jv_.mp hz
    exact (hoff.1 y hy).2
   rw[this,E1,hB.own x (jC_ ..)];lia
  ·rw[(hoff.1 x hx).1,BJ_ row hT x hx];lia
theorem S3   (hp:0<p)  (hr:row.length=n)  (hB:Bs p n bs):∀x∈bs,(AU p bs row).getD x.1 0=0:=fun x hx=>by
 have h:=(E2 row hr bs hB).2 x.1
 rw[BJ_ row hB x hx,Int.sub_self]at h
 have:=getD_in hp (Jl hp row bs) x.1
 rw[j5_ this.1 this.2]at h
 simpa using h
noncomputable def V1 (p inv:Int)(bs:List (Nat×α2))(left:α2)(q:Nat):List (Nat×α2):=
 let base:=left.map fun y=>inv*y%p
 (bs.map fun x=>(x.1,AU p [(q,base)] x.2))++[(q,base)]
theorem Dd_   (hp:2<=p)  (hB:Bs p n bs)  (hl:left.length=n)(hin:∀y∈left,0<=y/\y<p)(h0:∀x∈bs,left.getD x.1 0=0)  (hq:q<n)(hi:inv*left.getD q 0%p=1):Bs p n (V1 p inv bs left q):=by
 obtain⟨base,hb⟩:∃base:α2,base=left.map fun y=>inv*y%p:=⟨_,rfl⟩
 have hbl:base.length=n:=by rw[hb,jb_,hl]
 have hbin:∀y∈base,0<=y/\y<p:=fun y hy=>by
  rw[hb]at hy
  obtain⟨z,_,rfl⟩:=jv_.mp hy
  exact⟨jJ_ _ s!"",jE_ _ s!""⟩
 have hbat:∀i,base.getD i 0=inv*left.getD i 0%p:=fun i=>by rw[hb,Lm (by simp)]
 have hbq:base.getD q 0=1:=by rw[hbat,hi]
 have hb0:∀x∈bs,base.getD x.1 0=0:=fun x hx=>by rw[hbat,h0 x hx];simp
 have h1:Bs p n [(q,base)]:=⟨fun x hx=>by rw[jg_.mp hx];exact⟨hbl,hq,hbin⟩,fun x hx=>by rw[jg_.mp hx];exact hbq,qF_ ..⟩
 have hnew:∀x∈bs,∀i,(AU p [(q,base)] x.2).getD i 0=(x.2.getD i 0-x.2.getD q 0*base.getD i 0)%p:=fun x hx i=>by
  have:=(E2 x.2 (hB.len x hx).1 _ h1).2 i
  have g:=getD_in s!"" (Jl (p:=p) s!"" x.2 [(q,base)]) i
  rw[j5_ g.1 g.2]at this
  rw[this]
  congr 2
  show dotW [x.2.getD q 0] [base.getD i 0]=_
  rw[A1,B8];lia
 have hold:∀x∈bs,∀i,base.getD i 0=0->(AU p [(q,base)] x.2).getD i 0=x.2.getD i 0:=fun x hx i h=>by
  rw[hnew x hx i,h,Int.mul_zero,Int.sub_zero]
  have g:=getD_in s!"" (hB.len x hx).2.2 i
  exact j5_ g.1 g.2
 show Bs p n ((bs.map fun x=>(x.1,AU p [(q,left.map fun y=>inv*y%p)] x.2))++[(q,left.map fun y=>inv*y%p)])
 rw[<-hb]
 refine⟨fun x hx=>?_,fun x hx=>?_,?_⟩
 ·rcases jx_.mp hx with hx|hx
  ·obtain⟨y,hy,rfl⟩:=jv_.mp hx
   exact⟨(E2 y.2 (hB.len y hy).1 _ h1).1,(hB.len y hy).2.1,Jl s!"" _ _⟩
  ·rw[jg_.mp hx];exact⟨hbl,hq,hbin⟩
 ·rcases jx_.mp hx with hx|hx
  ·obtain⟨y,hy,rfl⟩:=jv_.mp hx
   show (AU p [(q,base)] y.2).getD y.1 0=1
   rw[hold y hy _ (hb0 y hy)];exact hB.own y hy
  ·rw[jg_.mp hx];exact hbq
 ·refine qX_.mpr ⟨?_,qF_ ..,fun x hx y hy=>?_⟩
  ·refine x7_.mpr ((List.Pairwise.and_mem.mp hB.off).imp fun {x y} h=>?_)
   obtain⟨hx,hy,h⟩:=h
   exact⟨by show (AU p [(q,base)] x.2).getD y.1 0=0;rw[hold x hx _ (hb0 y hy)];exact h.1,by show (AU p [(q,base)] y.2).getD x.1 0=0;rw[hold y hy _ (hb0 x hx)];exact h.2⟩
  ·obtain⟨z,hz,rfl⟩:=jv_.mp hx
   rw[jg_.mp hy]
   refine⟨?_,hb0 z hz⟩
   show (AU p [(q,base)] z.2).getD q 0=0
   rw[hnew z hz,hbq,zD_,Int.sub_self];simp
theorem EQ_ {p:Int}{n:Nat}:∀{bs:List (Nat×α2)} (cs:α2),Bs p n bs->cs.length=bs.length->bs.map (fun x=>dotW cs (colW (basR bs) x.1))=cs
 |[],cs,_,h=>by
  have:cs=[]:=jX_.mp h
  subst this;rfl
 |y::bs,[],_,h=>by simp at h
 |y::bs,c::cs,hB,h=>by
  have hoff:=List.pairwise_cons.mp hB.off
  have hT:Bs p n bs:=⟨fun z hz=>hB.len z (jt_ _ hz),fun z hz=>hB.own z (jt_ _ hz),hoff.2⟩
  have ih:=EQ_ cs hT (by simpa using h)
  have z0:colW (basR bs) y.1=List.replicate bs.length 0:=by
   refine q9_.mpr ⟨by unfold colW basR;simp,fun z hz=>?_⟩
   unfold colW basR at hz
   rw[jK_]at hz
   obtain⟨x,hx,rfl⟩:=jv_.mp hz
   exact (hoff.1 x hx).2
  have e:∀i,dotW (c::cs) (colW (basR (y::bs)) i)=c*y.2.getD i 0+dotW cs (colW (basR bs) i):=fun i=>by
   show dotW (c::cs) (y.2.getD i 0::colW (basR bs) i)=_
   rw[A1]
  rw[j4_,e,z0,E1,hB.own y (jC_ ..)]
  congr 1
  ·lia
  ·refine (jS_ fun x hx=>?_).trans ih
   rw[e,(hoff.1 x hx).1];lia
theorem BK_   (hp:0<p)  (hr:row.length=n)  (hB:Bs p n bs)(hm:∀x∈bs,x.1<m)(h:Span p m (basR bs) fun i=>row.getD i 0):∀i:Nat,i<m->(AU p bs row).getD i 0=0:=fun i hi=>by
 obtain⟨cs,a,b⟩:=h
 have a':cs.length=bs.length:=by rw[a];unfold basR;rw[jb_]
 have e:cg p (cof bs row) cs:=by
  rw[<-EQ_ cs hB a']
  unfold cof
  exact cg.map fun x hx=>b x.1 (hm x hx)
 have h1:=(E2 row hr bs hB).2 i
 rw[ze_,cg.dot e (cg.refl p (colW (basR bs) i)),<-b i hi,<-ze_,Int.sub_self]at h1
 have g:=getD_in hp (Jl hp row bs) i
 rw[j5_ g.1 g.2]at h1
 simpa using h1
theorem V2    (hr:row.length=n)  (hB:Bs p n bs)(h:∀i:Nat,i<m->(AU p bs row).getD i 0=0):Span p m (basR bs) fun i=>row.getD i 0:=by
 refine⟨cof bs row,by unfold cof basR;simp,fun i hi=>?_⟩
 have h1:=(E2 row hr bs hB).2 i
 rw[h i hi]at h1
 have:=jT_ (row.getD i 0-dotW (cof bs row) (colW (basR bs) i)) (qx_ p)
 exact jI_.mpr (by rw[<-h1];simp)
structure Seen (p:Int)(n m:Nat)(seen:α1)(bs:List (Nat×α2)):Prop where
 b:Bs p n bs
 lt:∀x∈bs,x.1<m
 made:∀x∈bs,Span p n seen fun i=>x.2.getD i 0
 kept:∀r∈seen,r.length=n/\Span p m (basR bs) fun i=>r.getD i 0
theorem BL_    (hr:row.length=n)  (hB:Bs p n bs){seen:α1}(h:∀x∈bs,Span p n seen fun i=>x.2.getD i 0):Span p n (seen++[row]) fun i=>(AU p bs row).getD i 0:=by
 have h1:Span p n (seen++[row]) fun i=>dotW (cof bs row) (colW (basR bs) i):=Span.comb _ (fun r hr'=>by
  obtain⟨x,hx,rfl⟩:=jv_.mp hr'
  exact (h x hx).app [row]) (by unfold cof basR;simp)
 refine ((Span.last seen row).add (h1.smul (-1))).congr fun i _=>?_
 rw[(E2 row hr bs hB).2 i]
 congr 1
 show _=row.getD i 0 + -1*dotW (cof bs row) (colW (basR bs) i)
 lia
theorem Seen.same   {seen:α1}  (S:Seen p n m seen bs)  (hr:row.length=n)(h:∀i:Nat,i<m->(AU p bs row).getD i 0=0):Seen p n m (seen++[row]) bs:=
 ⟨S.b,S.lt,fun x hx=>(S.made x hx).app [row],fun r hr'=>by
  rcases jx_.mp hr' with h' | h'
  ·exact S.kept r h'
  ·rw[jg_.mp h'];exact⟨hr,V2 hr S.b h⟩⟩
theorem Seen.more   (hp:2<=p)(hmn:m<=n){seen:α1}  (S:Seen p n m seen bs)  (hr:row.length=n)  (hq:q<m)(hi:inv*(AU p bs row).getD q 0%p=1):Seen p n m (seen++[row]) (V1 p inv bs (AU p bs row) q):=by
 have hl:=(E2 row hr bs S.b).1
 have hB:=Dd_ hp S.b hl (Jl s!"" row bs) (S3 s!"" hr S.b) (show q<n by lia) hi
 have hleft:=BL_ hr S.b S.made
 have hat:=(E2 row hr bs S.b).2
 generalize AU p bs row=left at hl hi hB hleft hat ⊢
 obtain⟨base,hb⟩:∃base:α2,base=left.map fun y=>inv*y%p:=⟨_,rfl⟩
 have ew:V1 p inv bs left q=(bs.map fun x=>(x.1,AU p [(q,base)] x.2))++[(q,base)]:=by rw[hb];rfl
 have hbat:∀i,base.getD i 0=inv*left.getD i 0%p:=fun i=>by rw[hb,Lm (by simp)]
 rw[ew]at hB ⊢
 have hbl:base.length=n:=(hB.len (q,base) (by simp)).1
 have h1:Bs p n [(q,base)]:=⟨fun x hx=>by rw[jg_.mp hx];exact hB.len (q,base) (by simp),fun x hx=>by rw[jg_.mp hx];exact hB.own (q,base) (by simp),qF_ ..⟩
 have hnew:∀x∈bs,∀i,(AU p [(q,base)] x.2).getD i 0%p=(x.2.getD i 0-x.2.getD q 0*base.getD i 0)%p:=fun x hx i=>by
  rw[(E2 x.2 (S.b.len x hx).1 _ h1).2 i]
  congr 2
  show dotW [x.2.getD q 0] [base.getD i 0]=_
  rw[A1,B8];lia
 have hbase:Span p n (seen++[row]) fun i=>base.getD i 0:=(hleft.smul inv).congr fun i _=>by
  rw[hbat,jT_ _ (qx_ p)]
 have hbn:base∈basR ((bs.map fun x=>(x.1,AU p [(q,base)] x.2))++[(q,base)]):=by unfold basR;simp
 have hnb:∀x∈bs,AU p [(q,base)] x.2∈basR ((bs.map fun x=>(x.1,AU p [(q,base)] x.2))++[(q,base)]):=fun x hx=>by
  unfold basR
  rw[ji_,jK_]
  exact jY_ _ (jv_.mpr ⟨x,hx,rfl⟩)
 have hold:∀r∈basR bs,Span p m (basR ((bs.map fun x=>(x.1,AU p [(q,base)] x.2))++[(q,base)])) fun i=>r.getD i 0:=fun r hr'=>by
  obtain⟨x,hx,rfl⟩:=jv_.mp hr'
  refine ((Span.mem (hnb x hx)).add ((Span.mem hbn).smul (x.2.getD q 0))).congr fun i _=>?_
  show _=((AU p [(q,base)] x.2).getD i 0+x.2.getD q 0*base.getD i 0)%p
  rw[qO_,hnew x hx i,<-qO_]
  congr 1
  lia
 refine⟨hB,fun x hx=>?_,fun x hx=>?_,fun r hr'=>?_⟩
 ·rcases jx_.mp hx with hx|hx
  ·obtain⟨y,hy,rfl⟩:=jv_.mp hx
   exact S.lt y hy
  ·rw[jg_.mp hx];exact hq
 ·rcases jx_.mp hx with hx|hx
  ·obtain⟨y,hy,rfl⟩:=jv_.mp hx
   refine (((S.made y hy).app [row]).add (hbase.smul (-y.2.getD q 0))).congr fun i _=>?_
   show (AU p [(q,base)] y.2).getD i 0%p=(y.2.getD i 0 + -y.2.getD q 0*base.getD i 0)%p
   rw[hnew y hy i,zH_]
   congr 1
  ·rw[jg_.mp hx];exact hbase
 ·rcases jx_.mp hr' with h' | h'
  ·exact⟨(S.kept r h').1,(S.kept r h').2.trans hold⟩
  ·rw[jg_.mp h']
   refine⟨hr,?_⟩
   have h2:Span p m (basR ((bs.map fun x=>(x.1,AU p [(q,base)] x.2))++[(q,base)])) fun i=>dotW (cof bs row) (colW (basR bs) i):=Span.comb _ hold (by unfold cof basR;simp)
   refine (h2.add ((Span.mem hbn).smul (left.getD q 0))).congr fun i _=>?_
   show row.getD i 0%p=(dotW (cof bs row) (colW (basR bs) i)+left.getD q 0*base.getD i 0)%p
   have e3:left.getD q 0*base.getD i 0%p=left.getD i 0%p:=by
    rw[hbat,qs_,jT_ _ (qx_ p),<-qs_,show left.getD q 0*(inv*left.getD i 0)=(inv*left.getD q 0)*left.getD i 0 by rw[<-qZ_,xj_ (left.getD q 0)],qs_,hi]
    rw[zt_,jT_ _ (qx_ p)]
   rw[qO_,e3,hat i,<-qO_]
   congr 1
   lia
noncomputable def EW (n k:Nat):α2:=(List.range n).map fun i=>if i=k then 1 else 0
theorem Yz  : ∀cs:α2,cs.length=n->dotW cs ((List.range n).map fun i=>if i=k then 1 else 0)=cs.getD k 0:=by
 intro cs hc
 have key:∀(m:Nat) (cs:α2),dotW cs ((List.range' m cs.length).map fun i=>if i=k then 1 else 0)=if m<=k then cs.getD (k-m) 0 else 0:=fun m cs=>by
  induction cs generalizing m with
  |nil=>rw[B8];split<;>simp
  |cons c cs ih=>
   rw[q7_,List.range'_succ,j4_,A1,ih (m+1)]
   by_cases h1:m=k
   ·subst h1
    rw[if_pos rfl,if_neg s!"",if_pos (jf_ _),qr_]
    show c*1+0=c
    lia
   ·rw[if_neg h1]
    by_cases h2:m+1<=k
    ·rw[if_pos h2,if_pos s!"",show k-m=(k-(m+1))+1 by lia]
     show c*0+cs.getD (k-(m+1)) 0=cs.getD (k-(m+1)) 0
     lia
    ·rw[if_neg h2,if_neg s!""];lia
 have:=key 0 cs
 rw[if_pos (qt_ _),Nat.sub_zero,hc,<-List.range_eq_range']at this
 exact this
noncomputable def BO (rows:α1):α1:=(List.range rows.length).map fun k=>rows.getD k []++EW rows.length k
theorem Lo {xs ys:α2}{i:Nat}(h:i<xs.length):(xs++ys).getD i 0=xs.getD i 0:=by
 rw[ja_,jn_ h,<-ja_]
theorem V3 {xs ys:α2}{i:Nat}:(xs++ys).getD (xs.length+i) 0=ys.getD i 0:=by
 rw[ja_,jq_ s!"",show xs.length+i-xs.length=i by lia,<-ja_]
theorem FR_  (hi:i<n):(EW n k).getD i 0=if i=k then 1 else 0:=by
 unfold EW
 rw[ja_,jh_,j7_ hi];rfl
theorem KQ   (h:∀r∈rows,r.length=m)  (hi:i<m):colW (BO rows) i=colW rows i:=by
 unfold colW BO
 rw[jK_]
 have:(List.range rows.length).map ((fun r:α2=>r.getD i 0) ∘ fun k=>rows.getD k []++EW rows.length k)=(List.range rows.length).map fun k=>(rows.getD k []).getD i 0:=by
  refine jS_ fun k hk=>?_
  have hk:=j9_.mp hk
  have e:rows.getD k []=rows[k]:=by rw[ja_,jc_ hk];rfl
  show (rows.getD k []++EW rows.length k).getD i 0=_
  rw[Lo (by rw[e,h _ (jD_ hk)];exact hi)]
 rw[this]
 have:rows.map (fun r=>r.getD i 0)=((List.range rows.length).map fun k=>rows.getD k []).map fun r=>r.getD i 0:=by rw[MC]
 rw[this,jK_];rfl
theorem Xu   (h:∀r∈rows,r.length=m)  (hj:j<rows.length):colW (BO rows) (m+j)=EW rows.length j:=by
 unfold colW BO
 rw[jK_]
 show (List.range rows.length).map _=(List.range rows.length).map _
 refine jS_ fun k hk=>?_
 have hk:=j9_.mp hk
 have e:rows.getD k []=rows[k]:=by rw[ja_,jc_ hk];rfl
 have hl:(rows.getD k []).length=m:=by rw[e,h _ (jD_ hk)]
 show (rows.getD k []++EW rows.length k).getD (m+j) 0=if k=j then 1 else 0
 rw[<-hl,V3,FR_ hj]
 by_cases hkj:k=j
 ·rw[if_pos hkj,if_pos hkj.symm]
 ·rw[if_neg hkj,if_neg (qT_ hkj)]
theorem Xv    (h:∀r∈rows,r.length=m)  (hv:Span p (m+rows.length) (BO rows) v):∀i:Nat,i<m->v i%p=dotW ((List.range rows.length).map fun k=>v (m+k)) (colW rows i)%p:=fun i hi=>by
 obtain⟨cs,a,b⟩:=hv
 have a':cs.length=rows.length:=by rw[a];unfold BO;simp
 have e:cg p ((List.range rows.length).map fun k=>v (m+k)) cs:=by
  have:cs=(List.range rows.length).map fun k=>cs.getD k 0:=by rw[<-a'];exact (MC 0 cs).symm
  rw[this]
  refine cg.map fun k hk=>?_
  have hk:=j9_.mp hk
  rw[b (m+k) s!"",Xu h hk]
  unfold EW
  rw[Yz cs a']
 rw[b i s!"",KQ h hi,cg.dot e (cg.refl p _)]
theorem Span.less     (h:Span p n S v)(hm:m<=n):Span p m S v:=by
 obtain⟨cs,a,b⟩:=h
 exact⟨cs,a,fun i hi=>b i s!""⟩
theorem Seen.iff   (hp:0<p)(hmn:m<=n){seen:α1}  (S:Seen p n m seen bs)  (hw:row.length=n):(∀i:Nat,i<m->(AU p bs row).getD i 0=0)↔Span p m seen fun i=>row.getD i 0:=by
 refine⟨fun h=>(V2 hw S.b h).trans fun r hr=>?_,fun h=>BK_ hp hw S.b S.lt (h.trans fun r hr=>(S.kept r hr).2)⟩
 obtain⟨x,hx,rfl⟩:=jv_.mp hr
 exact (S.made x hx).less hmn
open Classical in
noncomputable def Jm (p:Int)(m:Nat)(rows:α1):List Nat:=(List.range rows.length).filter fun k=>decide (¬ Span p m (rows.take k) fun i=>(rows.getD k []).getD i 0)
open Classical in
theorem O5 (p:Int)(m:Nat)(rows:α1)(r:α2):Jm p m (rows++[r])=Jm p m rows++(if Span p m rows (fun i=>r.getD i 0) then [] else [rows.length]):=by
 unfold Jm
 rw[jk_,jZ_,j2_,List.filter_append]
 congr 1
 ·refine List.filter_congr fun k hk=>?_
  have hk:=j9_.mp hk
  rw[qi_ s!"",ja_,jn_ hk,<-ja_]
 ·rw[List.filter_cons,List.filter_nil,List.take_left,ja_,jq_ (jf_ _),qr_]
  show (if decide (¬ Span p m rows fun i=>r.getD i 0)=true then [rows.length] else [])=_
  by_cases h:Span p m rows fun i=>r.getD i 0
  ·rw[if_neg (by rw[q4_];exact fun g=>g h),if_pos h]
  ·rw[if_pos (qg_ h),if_neg h]
noncomputable def O6 (p:Int)(m:Nat)(rows:α1):Prop:=∀cs:α2,cs.length=rows.length->(∀i:Nat,i<m->dotW cs (colW rows i)%p=0)->∀c∈cs,c%p=0
theorem YA (R S:α1)(i:Nat):colW (R++S) i=colW R i++colW S i:=by unfold colW;rw[ji_]
theorem O6.uniq    (h:O6 p m rows)  (hc:cs.length=rows.length)(hd:ds.length=rows.length)(e:∀i:Nat,i<m->dotW cs (colW rows i)%p=dotW ds (colW rows i)%p):cg p cs ds:=by
 have key:=h (List.zipWith (· + ·) cs (ds.map (-1 * ·))) (by simp[hc,hd]) fun i hi=>by
  rw[S0 _ _ _ (by simp[hc,hd]),Hn]
  have:=jI_.mp (e i hi)
  rwa [show dotW cs (colW rows i) + -1*dotW ds (colW rows i)=dotW cs (colW rows i)-dotW ds (colW rows i) by lia]
 unfold cg
 refine qJ_ (by simp[hc,hd]) fun i h1 h2=>?_
 rw[qA_,qA_]
 have i1:i<cs.length:=by simpa using h1
 have i2:i<ds.length:=by simpa using h2
 have:=key (cs[i] + -1*ds[i]) (List.mem_iff_getElem.mpr ⟨i,by simp;lia,by simp⟩)
 refine jI_.mpr ?_
 rwa [show cs[i]-ds[i]=cs[i] + -1*ds[i] by lia]
theorem O6.nil (p:Int)(m:Nat):O6 p m []:=fun cs a _ c hc=>by
 have:cs=[]:=jX_.mp a
 subst this;simp at hc
theorem Zh   (h:∀r∈rows,r.length=m):∀r∈BO rows,r.length=m+rows.length:=fun r hr=>by
 unfold BO at hr
 obtain⟨k,hk,rfl⟩:=jv_.mp hr
 have hk:=j9_.mp hk
 have e:rows.getD k []=rows[k]:=by rw[ja_,jc_ hk];rfl
 rw[jk_,e,h _ (jD_ hk)];unfold EW;simp
theorem Xw    (h:∀r∈rows,r.length=m)  : Span p m (BO rows) v↔Span p m rows v:=by
 have l:(BO rows).length=rows.length:=by unfold BO;simp
 constructor
 ·rintro⟨cs,a,b⟩
  exact⟨cs,by rw[a,l],fun i hi=>by rw[b i hi,KQ h hi]⟩
 ·rintro⟨cs,a,b⟩
  exact⟨cs,by rw[a,l],fun i hi=>by rw[b i hi,KQ h hi]⟩
theorem FS_ (c i:Nat):(List.replicate c (0:Int)).getD i 0=0:=by
 rw[ja_,j8_];split<;>rfl
theorem BM_  (hp:0<p)   (h:∀r∈rows,r.length=m)  (S:Seen p (m+rows.length) m (BO rows) bs)  (hw:row.length=m):(∀i:Nat,i<m->(AU p bs (row++List.replicate rows.length 0)).getD i 0=0)↔Span p m rows fun i=>row.getD i 0:=by
 rw[S.iff hp s!"" (by simp[hw]),Xw h]
 exact⟨fun g=>g.congr fun i hi=>by rw[Lo s!""],fun g=>g.congr fun i hi=>by rw[Lo s!""]⟩
theorem HQ_  (hp:0<p)   (h:∀r∈rows,r.length=m)  (S:Seen p (m+rows.length) m (BO rows) bs)  (hw:row.length=m)(h0:∀i:Nat,i<m->(AU p bs (row++List.replicate rows.length 0)).getD i 0=0):∀i:Nat,i<m->row.getD i 0%p=dotW ((List.range rows.length).map fun k => -(AU p bs (row++List.replicate rows.length 0)).getD (m+k) 0%p) (colW rows i)%p:=by
 have hat:=(E2 (row++List.replicate rows.length 0) (by simp[hw]:_=m+rows.length) bs S.b).2
 generalize hL:AU p bs (row++List.replicate rows.length 0)=left at hat h0 ⊢
 have hs:Span p (m+rows.length) (BO rows) fun i=>dotW (cof bs (row++List.replicate rows.length 0)) (colW (basR bs) i):=Span.comb _ (fun r hr=>by
  obtain⟨x,hx,rfl⟩:=jv_.mp hr
  exact S.made x hx) (by unfold cof basR;simp)
 intro i hi
 have h1:=Xv h hs i hi
 have h2:=hat i
 rw[h0 i hi,Lo s!""]at h2
 have e1:row.getD i 0%p=dotW (cof bs (row++List.replicate rows.length 0)) (colW (basR bs) i)%p:=jI_.mpr (by rw[<-h2];simp)
 rw[e1,h1]
 refine cg.dot (cg.map fun k hk=>?_) (cg.refl p _)
 have h3:=hat (m+k)
 rw[<-hw,V3,FS_,hw,Int.zero_sub]at h3
 rw[jT_ _ (qx_ p),<-Int.neg_neg (dotW _ _)]
 have d:=qD_ (jI_.mp h3)
 refine jI_.mpr (q0_ ?_)
 have e:∀x y:Int,- -x - -y=y - -x:=fun x y=>by lia
 rw[e];exact d
theorem HR_  (hp:0<p)   (h:∀r∈rows,r.length=m)(hI:O6 p m rows)  (S:Seen p (m+rows.length) m (BO rows) bs)  (hw:row.length=m)  (ha:am.length=rows.length)(hin:∀x∈am,0<=x/\x<p)(he:∀i:Nat,i<m->row.getD i 0%p=dotW am (colW rows i)%p):((AU p bs (row++List.replicate rows.length 0)).drop m).map (fun y => -y%p)=am:=by
 have h0:=(BM_ hp h S hw).mpr ⟨am,ha,he⟩
 have hl:=(E2 (row++List.replicate rows.length 0) (by simp[hw]:_=m+rows.length) bs S.b).1
 have hf:=HQ_ hp h S hw h0
 generalize AU p bs (row++List.replicate rows.length 0)=left at hl hf h0 ⊢
 have e0:(left.drop m).map (fun y => -y%p)=(List.range rows.length).map fun k => -left.getD (m+k) 0%p:=by
  refine qJ_ (by simp[hl]) fun i h1 h2=>?_
  have hi:m+i<left.length:=by simp at h1;lia
  rw[qA_,qA_,xV_,List.getElem_drop,ja_,jc_ hi];rfl
 have hu:=hI.uniq (cs:=(List.range rows.length).map fun k => -left.getD (m+k) 0%p) (ds:=am) (by simp) ha fun i hi=>(hf i hi).symm.trans (he i hi)
 rw[e0]
 unfold cg at hu
 rw[jK_]at hu
 have e2:am.map (· % p)=am:=by
  conv=>rhs;rw[<-List.map_id am]
  exact jS_ fun x hx=>j5_ (hin x hx).1 (hin x hx).2
 rw[e2]at hu
 rw[<-hu]
 refine jS_ fun k _=>?_
 show _=(-left.getD (m+k) 0%p)%p
 rw[jT_ _ (qx_ p)]
theorem YB:∀(m:Nat) (l:List Nat),l.Nodup->(∀x∈l,x<m)->l.length<=m
 |0,l,_,h=>by
  cases l with
  |nil=>exact jf_ _
  |cons x l=>exact absurd (h x (jC_ ..)) (Nat.not_lt_zero _)
 |m+1,l,nd,h=>by
  have h1:=YB m (l.erase m) (nd.erase m) fun x hx=>by
   have hx1:=h x (List.mem_of_mem_erase hx)
   have hx2:x≠m:=fun e=>by
    subst e
    exact (List.Nodup.not_mem_erase nd) hx
   lia
  have h2:=List.length_erase (a:=m) (l:=l)
  by_cases hm:m∈l
  ·rw[if_pos hm]at h2
   lia
  ·rw[if_neg hm]at h2;lia
theorem bez (a b:Nat):∃x y:Int,x*a+y*b=(Nat.gcd a b:Int):=by
 induction a,b using Nat.gcd.induction with
 |H0 n=>exact⟨0,1,by simp⟩
 |H1 m n hm ih=>
  obtain⟨x,y,h⟩:=ih
  refine⟨y-x*((n / m:Nat):Int),x,?_⟩
  rw[Nat.gcd_rec m n,<-h]
  have e:(n:Int)=(m:Int)*((n / m:Nat):Int)+((n%m:Nat):Int):=by
   have:=Nat.div_add_mod n m
   rw[<-xw_,<-Int.natCast_add,this]
  have e2:x*(n:Int)=x*((m:Int)*((n / m:Nat):Int))+x*((n%m:Nat):Int):=by rw[<-x6_,<-e]
  rw[e2,zF_,qZ_,xj_ ((n / m:Nat):Int) (m:Int)]
  lia
theorem HS_  (hp:2<=p)(h0:0<a)(hg:Int.gcd a p=1):∃inv:Int,inv*a%p=1:=by
 obtain⟨x,y,h⟩:=bez a.natAbs p.natAbs
 rw[show Nat.gcd a.natAbs p.natAbs=1 from hg,show (a.natAbs:Int)=a by lia,show (p.natAbs:Int)=p by lia]at h
 refine⟨x,?_⟩
 have e:x*a=1+p*(-y):=by rw[Int.mul_neg,xj_ p y];lia
 rw[e,Int.add_mul_emod_self_left]
 exact j5_ (by decide) s!""
structure GcdI (p n one two f g:Int):Prop where
 o:0<one
 o1:one<=p
 t:0<=two
 t1:two<=p
 gc:Int.gcd one two=1
 f1:(f*n-one)%p=0
 g1:(g*n-two)%p=0
theorem FT_  (ha:0<a)(hb:0<b)(h:Int.gcd a b=1):Int.gcd b (a%b)=1:=by
 have m0:=jJ_ a (show b≠0 by lia)
 have e:(a%b).natAbs=a.natAbs%b.natAbs:=by
  have e1:a%b=((a.natAbs%b.natAbs:Nat):Int):=by rw[Int.natCast_emod,show (a.natAbs:Int)=a from by lia,show (b.natAbs:Int)=b from by lia]
  rw[e1,Int.natAbs_natCast]
 unfold Int.gcd at h ⊢
 rw[e,Nat.gcd_comm,<-Nat.gcd_rec,Nat.gcd_comm];exact h
theorem GcdI.step  (h:GcdI p n one two f g)(ht:two≠0):GcdI p n two (one-one / two*two) g (f-one / two*g):=by
 have hp:0<two:=by have:=h.t;lia
 have e:one-one / two*two=one%two:=by have:=zf_ one two;rw[xj_];lia
 refine⟨hp,h.t1,by rw[e];exact jJ_ _ ht,by rw[e];have:=jE_ one hp;have:=h.t1;lia,?_,h.g1,?_⟩
 ·rw[e];exact FT_ h.o hp h.gc
 ·have e2:(f-one / two*g)*n-(one-one / two*two)=(f*n-one)-one / two*(g*n-two):=by
   rw[zF_,Int.mul_sub,qZ_];lia
  have d1:=qD_ h.f1
  have d2:=qD_ h.g1
  rw[e2]
  exact q0_ (zG_ d1 (qM_ d2))
theorem GcdI.done  (h:GcdI p n one 0 f g)(hp:2<=p):f%p*n%p=1:=by
 have e:one=1:=by have:=h.gc;have:=h.o;rw[Int.gcd_zero_right] at *;lia
 have:=h.f1
 rw[e]at this
 have d:=qD_ this
 have e3:f*n%p=1%p:=jI_.mpr this
 have e4:f%p*n%p=f*n%p:=by rw[qs_,Int.emod_emod,<-qs_]
 rw[e4,e3]
 exact j5_ (by decide) s!""
noncomputable def RZ (NI:Addr):Sp:=fun vs H Q E=>∃(p n:Int),vs=[.int p,.int n]/\2<=p/\p<1000000000000000000/\(n%p=0->E (.ref NI) none H)/\(n%p≠0->Int.gcd (n%p) p=1/\∀r,0<=r->r<p->r*n%p=1->Q (.int r) H)
theorem Zi   (F:Fun K "inverse" "inverse" GC f fd)(T:Txt mg)
  (W:Own K mg)
  (Z:Exs K mg C_j3 C_j0 C_j2 C_j1)
  : FnOk P w K mg base (CXe P w) 1 f fd ["p","number"] (RZ C_j1):=by
 refine F.okE B9 (fun vs H Q E h=>?_) (fun cdv A outer s H vs Q E hr h=>?_)
 ·obtain⟨p,n,rfl,_⟩:=h;rfl
 ·obtain⟨p,n,rfl,hp,hp18,kE,k⟩:=h
  have hl:=Au
  refine⟨_,(Ae (Ah (i:=2) B9.nd (pvD 0))
   (Ae (Ah (i:=3) B9.nd (Al (opD Bb) (pvD 1) (pvD 0)))
   (Ae (CI (ptT (AK (opE I0) (pvD 3) Ad (AQ _)))
   (Ag (OB Z.m_j1 Z.x_j1 rfl rfl (Aa X9 Ab)))
   AZ)
   (Ae (Ah (i:=4) B9.nd Ad)
   (Ae (Ah (i:=5) B9.nd Ad)
   (Ae (Sr PassesOwn.leaving (ptT (AK (opN OJ) (pvD 3) Ad (AQ _)))
   (Ae (Ah (i:=6) B9.nd (Al (opD CS_) (pvD 2) (pvD 3)))
   (Ae (Ah (i:=7) B9.nd (Al (opD0 Kg) (pvD 2) (Al (opD DH) (pvD 6) (pvD 3))))
   (Ae (Ah (i:=8) B9.nd (Al (opD0 Kg) (pvD 4) (Al (opD DH) (pvD 6) (pvD 5))))
   (Ae (Ah (i:=2) B9.nd (pvD 3))
   (Ae (Ah (i:=4) B9.nd (pvD 5))
   (Ae (Ah (i:=3) B9.nd (pvD 7))
   (Ag (Ah (i:=5) B9.nd (pvD 8))))))))))
   (Ag (Ay (Al (opD Bb) (pvD 4) (pvD 0)))))))))),?_⟩
  walk_at "rd"
  refine⟨by lia,ite2 (fun e=>⟨by lia,kE e⟩) (fun e=>?_)⟩
  obtain⟨hg,kq⟩:=k e
  have m0:=jJ_ n (show p≠0 by lia)
  have m1:=jE_ n (show 0<p by lia)
  obtain⟨Pv,hPv⟩:∃Pv:Nat->St->Hp->Prop,∀m σ2 H2,Pv m σ2 H2↔(H2=H/\∃(one two f g:Int) (o6 o7 o8:Option V),m=two.toNat/\GcdI p n one two f g/\σ2=[some (.int p),some (.int n),some (.int one),some (.int two),some (.int f),some (.int g),o6,o7,o8]):=⟨_,fun _ _ _=>qf_⟩
  refine Bf_ Pv ⟨_,(hPv _ _ _).mpr ⟨rfl,p,n%p,0,1,none,none,none,rfl,⟨by lia,by lia,m0,by lia,by rw[Int.gcd_comm];exact hg,q0_ ⟨-1,by rw[Int.zero_mul];lia⟩,q0_ ⟨n / p,by rw[zt_];have:=zf_ n p;lia⟩⟩,rfl⟩⟩ ?_
  intro m σ2 H2 hpv
  obtain⟨rfl,one,two,f,g,o6,o7,o8,rfl,G,rfl⟩:=(hPv _ _ _).mp hpv
  have g1:=G.o
  have g2:=G.o1
  have g3:=G.t
  have g4:=G.t1
  walk_at "rd"
  by_cases ht:two=0
  ·rw[if_neg (by simp[ht])]
   subst ht
   walk_at "rd"
   exact⟨by lia,kq _ (jJ_ _ s!"") (jE_ _ s!"") (G.done hp)⟩
  ·rw[if_pos (by simp[ht])]
   have q0:=Int.ediv_nonneg (show 0<=one by lia) g3
   have q1:one / two<=one:=Int.ediv_le_self _ s!""
   have G':=G.step ht
   have r1:=G'.t
   refine⟨fun σ' H'=>∃m',m'<two.toNat/\Pv m' σ' H',fun _ _ h=>h,by lia,by lia,.inr ⟨by lia,by lia⟩,.inl ⟨by lia,by lia⟩,(one-one / two*two).toNat,?_,(hPv _ _ _).mpr ⟨rfl,_,_,_,_,_,_,_,rfl,G',rfl⟩⟩
   have e1:one-one / two*two=one%two:=by have:=zf_ one two;rw[xj_];lia
   have:=jE_ one (show 0<two by lia)
   lia
noncomputable def Lp (K:α3):Sp:=fun vs H Q _=>∃(p f:Int) (t:Bool) (a:Addr) (xs:α2),vs=[.int p,.int f,.ref a]/\0<p/\(-(2 ^ 64)<f/\f<2 ^ 64)/\SqB K H t a (xs.map V.int)/\xs.length<=900/\∀q H',Same H H'->H' q=some (.tup ((xs.map fun x=>f*x%p).map V.int))->Q (.ref q) H'
theorem BN_   (F:Fun K "scaled" "scaled" Gi f fd)(T:Txt mg)
  (W:Own K mg)
  (Z:Exs K mg C_j3 C_j0 C_j2 C_j1)
  : FnOk P w K mg base CX0 1 f fd ["p","factor","row"] (Lp K):=by
 refine F.ok BI_ (fun vs H Q E h=>?_) (fun cdv A outer s H vs Q E hr h=>?_)
 ·obtain⟨p,f,t,a,xs,rfl,_⟩:=h;rfl
 ·obtain⟨p,f,t,a,xs,rfl,hp,hf,ha,hz,k⟩:=h
  have hl:=Au
  refine⟨_,(Ag (Ay (AR AJ rfl T.tuple jz_ (Aa (C4 rfl (DK rfl) (cp:=RX) ⟨⟨rfl,rfl⟩,⟨⟨rfl,rfl⟩,True.intro⟩⟩ (Bh_ (pvD 2)) (fun _ _ _ _=>(Aw (i:=0) SX rfl (Or.inl rfl))) (fun _ _ _ _=>DI) (fun _ _ _ _=>(Al (opD Bb) (Al (opD DH) (pvD 2) (pvD 0)) (pvD 1)))) Ab)))),?_⟩
  walk_at "rd"
  obtain⟨g,hg⟩:∃g:V->V,∀n:Int,g (V.int n)=.int (f*n%p):=⟨fun x=>match x with | .int n=>.int (f*n%p)|_=>.non,fun _=>rfl⟩
  refine Yu (σ':=[some (.int p),some (.int f)]) g rfl ha (by rw[jb_];lia) (fun x hx R hR=>?_) (fun D hD=>?_)
  ·obtain⟨n,hn,rfl⟩:=jv_.mp hx
   rw[hg]at hR
   walk_at "rd"
   exact⟨.inl hf,hp,hR⟩
  ·have em:(xs.map V.int).map g=(xs.map fun x=>f*x%p).map V.int:=by
    rw[jK_,jK_]
    exact jS_ fun n _=>hg n
   rw[em]
   refine⟨D,rfl,_,.inl ⟨SqL.of Ac,fun q hq=>k q _ ((Same.new hD).newT hq) Ac⟩⟩
noncomputable def YC (K:α3):Sp:=fun vs H Q _=>∃(p:Int) (t1 t2:Bool) (a b:Addr) (xs ys:α2),vs=[.int p,.ref a,.ref b]/\0<p/\SqB K H t1 a (xs.map V.int)/\SqB K H t2 b (ys.map V.int)/\xs.length=ys.length/\xs.length<=900/\∀q H',Same H H'->H' q=some (.tup ((List.zipWith (fun x y=>(x+y)%p) xs ys).map V.int))->Q (.ref q) H'
theorem De_   (F:Fun K "added" "added" KN f fd)(T:Txt mg)
  (W:Own K mg)
  (Z:Exs K mg C_j3 C_j0 C_j2 C_j1)
  : FnOk P w K mg base CX0 1 f fd ["p","row","other"] (YC K):=by
 refine F.ok CZ_ (fun vs H Q E h=>?_) (fun cdv A outer s H vs Q E hr h=>?_)
 ·obtain⟨p,t1,t2,a,b,xs,ys,rfl,_⟩:=h;rfl
 ·obtain⟨p,t1,t2,a,b,xs,ys,rfl,hp,ha,hb,hlen,hz,k⟩:=h
  have hl:=Au
  refine⟨_,(Ag (Ay (AR AJ rfl T.tuple jz_ (Aa (C4 rfl (DK rfl) (cp:=V0) ⟨⟨rfl,rfl⟩,True.intro⟩ (Xq rfl T.zip (Aa (pvD 1) (Aa (pvD 2) Ab))) (fun _ _ _ _=>(SJ (K:=K) (n:=2) rfl rfl (DG (Aw (i:=0) ND rfl (Or.inl rfl)) (DG (Aw (i:=1) ND rfl (Or.inl rfl)) KJ)))) (fun _ _ _ _=>DI) (fun _ _ _ _=>(Al (opD Bb) (Al (opD0 Bw) (pvD 0) (pvD 1)) (pvD 2)))) Ab)))),?_⟩
  walk_at "rd"
  refine⟨_,_,t1,ha,t2,hb,Yv (σ':=[some (.int p)]) (fun x y=>(x+y)%p) rfl ha hb hlen s!"" (fun t u v o1 o2 H1 N ht hN=>?_) (fun x y H1 hx hy s1 R hR=>?_) (fun H1 D s1 hD=>?_)⟩
  ·walk_at "rd"
   exact⟨_,SqT.of ht,rfl,_,_,rfl,_,_,rfl,rfl,hN⟩
  ·walk_at "rd"
   exact⟨hp,hR⟩
  ·refine⟨D,rfl,_,.inl ⟨SqL.of Ac,fun q hq=>k q _ ((s1.newT hD).newT hq) Ac⟩⟩
noncomputable def ME (K:α3):Sp:=fun vs H Q _=>∃(p:Int) (t1 t2:Bool) (a b:Addr) (xs ys:α2),vs=[.int p,.ref a,.ref b]/\0<p/\SqB K H t1 a (xs.map V.int)/\SqB K H t2 b (ys.map V.int)/\xs.length=ys.length/\xs.length<=900/\(∀x∈xs,-(2 ^ 64)<x/\x<2 ^ 64)/\∀H',Same H H'->Q (.int (dotW xs ys%p)) H'
theorem Zj   (F:Fun K "product" "product" FP f fd)(T:Txt mg)
  (W:Own K mg)
  (Z:Exs K mg C_j3 C_j0 C_j2 C_j1)
  : FnOk P w K mg base CX0 1 f fd ["p","row","other"] (ME K):=by
 refine F.ok Zc (fun vs H Q E h=>?_) (fun cdv A outer s H vs Q E hr h=>?_)
 ·obtain⟨p,t1,t2,a,b,xs,ys,rfl,_⟩:=h;rfl
 ·obtain⟨p,t1,t2,a,b,xs,ys,rfl,hp,ha,hb,hlen,hz,hx64,k⟩:=h
  have hl:=Au
  refine⟨_,(Ag (Ay (Al (opD Bb) (Az (OD rfl) rfl T.sum xx_ (Aa (C4 rfl (DK rfl) (cp:=OY) True.intro (Xq rfl T.zip (Aa (pvD 1) (Aa (pvD 2) Ab))) (fun _ _ _ _=>(SJ (K:=K) (n:=2) rfl rfl (DG (Aw (i:=0) Kj rfl (Or.inl rfl)) (DG (Aw (i:=1) Kj rfl (Or.inl rfl)) KJ)))) (fun _ _ _ _=>DI) (fun _ _ _ _=>(Al (opD DH) (pvD 0) (pvD 1)))) Ab)) (pvD 0)))),?_⟩
  walk_at "rd"
  refine⟨_,_,t1,ha,t2,hb,Yv (σ':=[]) (fun x y=>x*y) rfl ha hb hlen s!"" (fun t u v o1 o2 H1 N ht hN=>?_) (fun x y H1 hx hy s1 R hR=>?_) (fun H1 D s1 hD=>?_)⟩
  ·walk_at "rd"
   exact⟨_,SqT.of ht,rfl,_,_,rfl,_,_,rfl,rfl,hN⟩
  ·walk_at "rd"
   exact⟨.inl (hx64 x hx),hR⟩
  ·exact⟨D,rfl,_,SqL.of Ac,hp,k _ (s1.newT hD)⟩
noncomputable def R3 (K:α3):Sp:=fun vs H Q _=>∃(p:Int) (t1 t2:Bool) (a b:Addr) (xs:List V) (rows:α1) (am:α2) (n:Nat),vs=[.int p,.ref a,.ref b,.int n]/\0<p/\SqB K H t1 a xs/\Ba K H xs rows/\(∀r∈rows,r.length=n)/\SqB K H t2 b (am.map V.int)/\am.length=rows.length/\rows.length<=900/\n<=900/\(∀x∈am,-(2 ^ 64)<x/\x<2 ^ 64)/\∀q H',Same H H'->H' q=some (.tup ((DF p rows am n).map V.int))->Q (.ref q) H'
theorem Zk   (F:Fun K "made_of" "made_of" GD f fd)(T:Txt mg)
  (W:Own K mg)
  (Z:Exs K mg C_j3 C_j0 C_j2 C_j1)
   (Ho:FnOk P w K mg base CX0 1 E3 Hq ["p","row","other"] (ME K)) (FT:Fun K "product" "product" FP E3 Hq) (Hr:AI K Hq ["p","row","other"] []) (Ht:mg "product"=some (.ref E3))
  : FnOk P w K mg base CX0 2 f fd ["p","rows","parts","size"] (R3 K):=by
 refine F.ok Zd (fun vs H Q E h=>?_) (fun cdv A outer s H vs Q E hr h=>?_)
 ·obtain⟨p,t1,t2,a,b,xs,rows,am,n,rfl,_⟩:=h;rfl
 ·obtain⟨p,t1,t2,a,b,xs,rows,am,n,rfl,hp,ha,hrw,hrn,hb,hlen,hz,hn,h64,k⟩:=h
  have hl:=Au
  refine⟨_,(Ag (Ay (AR AJ rfl T.tuple jz_ (Aa (CO_ rfl (Fy_ rfl) (cp:=O0) ⟨⟨rfl,rfl⟩,⟨⟨rfl,rfl⟩,⟨⟨rfl,rfl⟩,True.intro⟩⟩⟩ (A3 rfl T.range (Aa (pvD 3) Ab)) (fun _ _ _ _=>(Aw (i:=0) QJ rfl (Or.inr rfl))) (fun _ _ _ _=>DI) (fun _ _ _ _=>(Ai Ho (hr.mono (by decide)) rfl Ht FT.kp Hr .nil AL (Aa (pvD 1) (Aa (pvD 2) (Aa (C4 rfl (DK rfl) (cp:=O1) ⟨⟨rfl,rfl⟩,True.intro⟩ (FD_ (K:=K) rfl (pvD 3)) (fun _ _ _ _=>(Aw (i:=0) QK rfl (Or.inl rfl))) (fun _ _ _ _=>DI) (fun _ _ _ _=>(Aj (ixTD (Fv (K:=K) rfl)) (pvD 0) (pvD 1)))) Ab)))))) Ab)))),?_⟩
  walk_at "rd"
  refine⟨by lia,by lia,?_⟩
  rw[jA_]
  obtain⟨Pc,hPc⟩:∃Pc:Nat->List V->St->Hp->Prop,∀c ys σ4 H4,Pc c ys σ4 H4↔(Same H H4/\ys=((List.range c).map fun c=>dotW am (colW rows c)%p).map V.int/\∃o,σ4=[o,some (.int p),some (.ref b),some (.ref a)]):=⟨_,fun _ _ _ _=>qf_⟩
  refine OR Pc ((hPc _ _ _ _).mpr ⟨Same.refl _,rfl,none,rfl⟩) s!"" (fun c ys σ4 H4 _ h4=>?_) (fun c ys σ4 H4 hc h4=>?_) (fun ys σ4 H4 h4 D hD=>?_)
  ·obtain⟨_,rfl,_⟩:=(hPc _ _ _ _).mp h4
   rw[jb_,jb_,jU_];exact jf_ _
  ·obtain⟨s4,rfl,o,rfl⟩:=(hPc _ _ _ _).mp h4
   rw[j3_]
   walk_at "rd"
   refine Bx_ (σ':=[some (.int c)]) (fun i=>V.int ((rows.getD i []).getD c 0)) rfl (ha.mono s4) (by rw[hrw.1];lia) (fun i x hx R hR=>?_) (fun D hD=>?_)
   ·have hi:i<rows.length:=by rw[<-hrw.1];exact (jd_.mp hx).1
    obtain⟨t,e1,e2⟩:=hrw.2 i rows[i] (by simp[hi])
    rw[hx]at e1
    cases e1
    have hcl:c<(rows[i]).length:=by rw[hrn _ (jD_ hi)];exact hc
    have er:rows.getD i []=rows[i]:=by rw[ja_,jc_ hi];rfl
    rw[er,ja_,jc_ hcl]at hR
    walk_at "rd"
    exact⟨_,s4.seqT e2,_,Gy s!"" (v:=(rows[i])[c]) (by simp[hcl]),hR⟩
   ·rw[hrw.1,HP_] at *
    have sD:=Same.new hD (o:=.lst ((colW rows c).map V.int))
    walk_at "rd"
    refine⟨p,t2,false,b,D,am,colW rows c,rfl,hp,hb.mono (s4.trans sD),SqL.of Ac,by unfold colW;rw[jb_];exact hlen,by lia,h64,fun H5 s5=>(hPc _ _ _ _).mpr ⟨(s4.trans sD).trans s5,?_,_,rfl⟩⟩
    rw[j2_,ji_,ji_];rfl
  ·obtain⟨s4,rfl,o,rfl⟩:=(hPc _ _ _ _).mp h4
   exact⟨D,rfl,_,.inl ⟨SqL.of Ac,fun q hq=>k q _ ((s4.newT hD).newT hq) Ac⟩⟩
noncomputable def BasD (K:α3)(H:Hp)(d:Addr)(bs:List (Nat×α2)):Prop:=∃kvs:List (Key×V),Rd H d (.dK kvs)/\kvs.length=bs.length/\∀(i:Nat) (x:Nat×α2),bs[i]?=some x->∃t,kvs[i]?=some (Sum.inl (x.1:Int),V.ref t)/\SqT K H t (x.2.map V.int)
theorem BasD.fz {K:α3}    (h:BasD K H d bs)(s:FzAt e H H'):BasD K H' d bs:=by
 obtain⟨kvs,h1,h2,h3⟩:=h
 refine⟨kvs,s.rd h1,h2,fun i x hx=>?_⟩
 obtain⟨t,a,b⟩:=h3 i x hx
 exact⟨t,a,s.seqT b⟩
theorem BasD.mono {K:α3}    (h:BasD K H d bs)(s:Same H H'):BasD K H' d bs:=h.fz (FzAt.of (d:=d) s)
noncomputable def YD (K:α3):Sp:=fun vs H Q _=>∃(a:Addr) (xs:α2),vs=[.ref a]/\SqT K H a (xs.map V.int)/\xs.length<=900/\(∀(q:Nat) (H':Hp),Same H H'->q<xs.length->xs.getD q 0≠0->Q (.int q) H')/\∀H',Same H H'->(∀q:Nat,q<xs.length->xs.getD q 0=0)->Q .non H'
theorem MF   (F:Fun K "place_of_first" "place_of_first" Bg f fd)(T:Txt mg)
  (W:Own K mg)
  (Z:Exs K mg C_j3 C_j0 C_j2 C_j1)
  : FnOk P w K mg base CX0 1 f fd ["row"] (YD K):=by
 refine F.ok Fw (fun vs H Q E h=>?_) (fun cdv A outer s H vs Q E hr h=>?_)
 ·obtain⟨a,xs,rfl,_⟩:=h;rfl
 ·obtain⟨a,xs,rfl,ha,hz,k1,k2⟩:=h
  have hl:=Au
  refine⟨_,(Ae (Cg jF_ rfl (SH rfl T.enumerate (pvD 0)) (Yb rfl (DG (Aw (i:=1) Fw.nd rfl (Or.inl rfl)) (DG (Aw (i:=2) Fw.nd rfl (Or.inl rfl)) KJ)))
   (Ag (CI (ptT (AK (opN OJ) (pvD 2) Ad (AQ _)))
   (Ag (Ay (pvD 1)))
   AZ)))
   (Ag (Ay Gv))),?_⟩
  walk_at "rd"
  obtain⟨Pv,hPv⟩:∃Pv:Nat->St->Hp->Prop,∀i σ' H',Pv i σ' H'↔(Same H H'/\(∀q:Nat,q<i->xs.getD q 0=0)/\∃o1 o2,σ'=[some (.ref a),o1,o2]):=⟨_,fun _ _ _=>qf_⟩
  refine⟨_,ha,forN Pv ((hPv _ _ _).mpr ⟨Same.refl _,fun q hq=>by lia,none,none,rfl⟩) (fun i σ' H' _ h'=>((hPv _ _ _).mp h').1.seqT ha) (fun i v σ' H' t hv h' ht=>?_) (fun σ' H' h'=>?_)⟩
  ·obtain⟨s1,h0,o1,o2,rfl⟩:=(hPv _ _ _).mp h'
   obtain⟨x,hx,rfl⟩:∃x,xs[i]?=some x/\v=.int x:=by
    rw[jh_]at hv
    cases e:xs[i]? with
    |none=>rw[e]at hv;cases hv
    |some x=>rw[e]at hv;exact⟨x,rfl,(jB_ hv).symm⟩
   have hi:i<xs.length:=(jd_.mp hx).1
   have ex:xs.getD i 0=x:=by rw[ja_,hx];rfl
   walk_at "rd"
   refine⟨_,SqT.of Ac,rfl,_,_,rfl,_,_,rfl,rfl,rfl,?_⟩
   have s2:=s1.newT ht (o:=.tup [.int i,.int x])
   by_cases hx0:x=0
   ·rw[if_neg (by simp[hx0])]
    refine (hPv _ _ _).mpr ⟨s2,fun q hq=>?_,_,_,rfl⟩
    rcases Nat.lt_or_ge q i with h|h
    ·exact h0 q h
    ·rw[show q=i by lia,ex,hx0]
   ·rw[if_pos (by simp[hx0])]
    exact k1 i _ s2 hi (by rw[ex];exact hx0)
  ·obtain⟨s1,h0,o1,o2,rfl⟩:=(hPv _ _ _).mp h'
   walk_at "rd"
   exact k2 _ s1 (by simpa using h0)
noncomputable def O7 (K:α3):Sp:=fun vs H Q _=>∃(p:Int) (d r:Addr) (t:Bool) (bs:List (Nat×α2)) (row:α2),vs=[.int p,.ref d,.ref r]/\0<p/\p<2 ^ 62/\BasD K H d bs/\SqB K H t r (row.map V.int)/\row.length<=900/\(∀x∈bs,x.2.length=row.length/\x.1<row.length)/\∀q H',FzAt d H H'->SqT K H' q ((AU p bs row).map V.int)->Q (.ref q) H'
theorem Zl   (F:Fun K "left_of" "left_of" Ej f fd)(T:Txt mg)
  (W:Own K mg)
  (Z:Exs K mg C_j3 C_j0 C_j2 C_j1)
   (Gk:FnOk P w K mg base CX0 1 Ep FU ["p","factor","row"] (Lp K)) (E4:Fun K "scaled" "scaled" Gi Ep FU) (Gm:AI K FU ["p","factor","row"] []) (Gn:mg "scaled"=some (.ref Ep))
   (Xx:FnOk P w K mg base CX0 1 MG YE ["p","row","other"] (YC K)) (O8:Fun K "added" "added" KN MG YE) (Xy:AI K YE ["p","row","other"] []) (Xz:mg "added"=some (.ref MG))
  : FnOk P w K mg base CX0 2 f fd ["p","bases","row"] (O7 K):=by
 refine F.ok Hk (fun vs H Q E h=>?_) (fun cdv A outer s H vs Q E hr h=>?_)
 ·obtain⟨p,d,r,t,bs,row,rfl,_⟩:=h;rfl
 ·obtain⟨p,d,r,t,bs,row,rfl,hp,hp62,hB,hrow,hz,hbs,k⟩:=h
  have hl:=Au
  refine⟨_,(Ae (Ah (i:=3) Hk.nd (AR AJ rfl T.tuple jz_ (Aa (C4 rfl (DK rfl) (cp:=OZ) ⟨⟨rfl,rfl⟩,True.intro⟩ (Bh_ (pvD 2)) (fun _ _ _ _=>(Aw (i:=0) QI rfl (Or.inl rfl))) (fun _ _ _ _=>DI) (fun _ _ _ _=>(Al (opD Bb) (pvD 0) (pvD 1)))) Ab)))
   (Ae (Cg jF_ rfl (BC_ (pvD 1)) (Yb rfl (DG (Aw (i:=4) Hk.nd rfl (Or.inl rfl)) (DG (Aw (i:=5) Hk.nd rfl (Or.inl rfl)) KJ)))
   (Ag (CI (ptT (AK (opN OJ) (Aj (ixTD Am) (pvD 3) (pvD 4)) Ad (AQ _)))
   (Ag (Ah (i:=3) Hk.nd (Ai Xx (hr.mono (by decide)) rfl Xz O8.kp Xy .nil AL (Aa (pvD 0) (Aa (pvD 3) (Aa (Ai Gk (hr.mono (by decide)) rfl Gn E4.kp Gm .nil AL (Aa (pvD 0) (Aa (Y0 RO (Aj (ixTD Am) (pvD 3) (pvD 4))) (Aa (pvD 5) Ab)))) Ab))))))
   AZ)))
   (Ag (Ay (pvD 3))))),?_⟩
  walk_at "rd"
  obtain⟨g,hg⟩:∃g:V->V,∀n:Int,g (V.int n)=.int (n%p):=⟨fun x=>match x with | .int n=>.int (n%p)|_=>.non,fun _=>rfl⟩
  refine Yu (σ':=[some (.int p)]) g rfl hrow (by rw[jb_];lia) (fun x hx R hR=>?_) (fun D hD=>?_)
  ·obtain⟨n,hn,rfl⟩:=jv_.mp hx
   rw[hg]at hR
   walk_at "rd"
   exact⟨hp,hR⟩
  ·have em:(row.map V.int).map g=(row.map fun x=>x%p).map V.int:=by
    rw[jK_,jK_]
    exact jS_ fun n _=>hg n
   rw[em]
   refine⟨D,rfl,_,.inl ⟨SqL.of Ac,fun q hq=>?_⟩⟩
   have s0:=(Same.new hD (o:=.lst ((row.map fun x=>x%p).map V.int))).newT hq (o:=.tup ((row.map fun x=>x%p).map V.int))
   obtain⟨kvs,b1,b2,b3⟩:=hB.mono s0
   refine⟨kvs,b1,fun o H2 hfr hF=>?_⟩
   have hF0:FzAt d H H2:=(FzAt.of s0).trans hF
   obtain⟨Pv,hPv⟩:∃Pv:Nat->St->Hp->Prop,∀i σ' H',Pv i σ' H'↔(Same H2 H'/\∃(l:Addr) (o1 o2:Option V),SqT K H' l (((bs.take i).foldl (Ic p) (row.map fun x=>x%p)).map V.int)/\σ'=[some (.int p),some (.ref d),some (.ref r),some (.ref l),o1,o2]):=⟨_,fun _ _ _=>qf_⟩
   have hlen:∀i:Nat,((bs.take i).foldl (Ic p) (row.map fun x=>x%p)).length=row.length/\∀y∈(bs.take i).foldl (Ic p) (row.map fun x=>x%p),0<=y/\y<p:=fun i=>⟨by
    have key:∀(bs:List (Nat×α2)) (l:α2),(∀x∈bs,x.2.length=l.length)->(bs.foldl (Ic p) l).length=l.length:=fun bs=>by
     induction bs with
     |nil=>exact fun l _=>rfl
     |cons x bs ih=>
      intro l h
      have e:(Ic p l x).length=l.length:=(S2 rfl (h x (jC_ ..)) 0).1
      rw[List.foldl_cons,ih _ (fun y hy=>by rw[e];exact h y (jt_ _ hy)),e]
    rw[key _ _ fun x hx=>by rw[jb_];exact (hbs x (xb_ hx)).1,jb_],Jl hp row (bs.take i)⟩
   refine It_ Pv ((hPv _ _ _).mpr ⟨Same.refl _,q,none,none,by rw[List.take_zero];exact hF.seqT (SqT.of Ac),rfl⟩) (fun i σ' H' _ h'=>((hPv _ _ _).mp h').1 _ _ hfr) (fun i key v tt σ' H' hkv h' htt=>?_) (fun σ' H' h'=>?_)
   ·obtain⟨s1,lf,o1,o2,hlf,rfl⟩:=(hPv _ _ _).mp h'
    have hib:i<bs.length:=by rw[<-b2];exact (jd_.mp hkv).1
    have hbi:bs[i]?=some bs[i]:=by simp[hib]
    obtain⟨bt,hbt,hbase⟩:=b3 i _ hbi
    rw[hkv]at hbt
    cases hbt
    have hmem:bs[i]∈bs:=jD_ hib
    have hbl:=hbs _ hmem
    obtain⟨ll,lin⟩:=hlen i
    have etk:(bs.take (i+1)).foldl (Ic p) (row.map fun x=>x%p)=Ic p ((bs.take i).foldl (Ic p) (row.map fun x=>x%p)) bs[i]:=by
     rw[qv_ hib,qE_];rfl
    have hbase':SqT K H' bt (bs[i].2.map V.int):=s1.seqT (hF.seqT hbase)
    generalize (bs.take i).foldl (Ic p) (row.map fun x=>x%p)=left at ll lin hlf etk
    generalize bs[i]=x at hbl hbase' etk hkv
    obtain⟨pl,xb⟩:=x
    have g:=getD_in hp lin pl
    have s2:=Same.new htt (o:=.tup [kV (Sum.inl (pl:Int)),.ref bt])
    have hpl:pl<left.length:=by rw[ll];exact hbl.2
    walk_at "rd"
    refine⟨_,SqT.of Ac,rfl,_,_,rfl,_,_,rfl,rfl,?_⟩
    refine⟨_,(pl:Int),rfl,s2.seqT hlf,_,SY hpl,rfl,?_⟩
    have hxl:xb.length=row.length:=hbl.1
    by_cases h0:left.getD pl 0=0
    ·rw[if_neg (by rw[h0];simp)]
     refine (hPv _ _ _).mpr ⟨s1.trans s2,lf,_,_,?_,rfl⟩
     rw[etk]
     unfold Ic
     rw[if_pos h0];exact s2.seqT hlf
    ·rw[if_pos (by simp only[V.int.injEq,Bool.not_eq_eq_eq_not,Bool.not_true,decide_eq_false_iff_not];exact h0)]
     refine⟨_,(pl:Int),rfl,s2.seqT hlf,_,SY hpl,_,rfl,p,-left.getD pl 0,true,bt,xb,rfl,hp,⟨by lia,by lia⟩,s2.seqT hbase',by lia,fun q1 H4 s4 hq1=>⟨p,true,true,lf,q1,left,_,rfl,hp,(s2.trans s4).seqT hlf,SqT.of hq1,by rw[jb_];lia,by lia,fun q5 H5 s5 hq5=>(hPv _ _ _).mpr ⟨s1.trans (s2.trans (s4.trans s5)),q5,_,_,?_,rfl⟩⟩⟩
     rw[etk]
     unfold Ic
     rw[if_neg h0];exact SqT.of hq5
   ·obtain⟨s1,lf,o1,o2,hlf,rfl⟩:=(hPv _ _ _).mp h'
    rw[b2,jM_]at hlf
    walk_at "rd"
    exact k lf _ (hF0.trans (FzAt.of s1)) hlf
theorem Bs.nodup    (h:Bs p n bs):(bs.map (·.1)).Nodup:=by
 refine x7_.mpr ((List.Pairwise.and_mem.mp h.off).imp fun {x y} g e=>?_)
 obtain⟨hx,hy,g1,_⟩:=g
 rw[<-e,h.own x hx]at g1
 exact absurd g1 (by decide)
noncomputable def FU_ (K:α3):Sp:=fun vs H Q _=>∃(p:Int) (d l:Addr) (q:Nat) (bs:List (Nat×α2)) (left:α2),vs=[.int p,.ref d,.ref l,.int q]/\Pr p/\BasD K H d bs/\SqT K H l (left.map V.int)/\q<left.length/\left.length<=900/\0<left.getD q 0/\left.getD q 0<p/\bs.length<=900/\(∀x∈bs,x.2.length=left.length/\x.1<left.length)/\(bs.map (·.1)).Nodup/\q∉bs.map (·.1)/\∀m inv H',FzAt d H H'->0<=inv->inv<p->inv*left.getD q 0%p=1->BasD K H' m (V1 p inv bs left q)->H m=none->Q (.ref m) H'
noncomputable def PutD (K:α3)(H:Hp)(d:Addr)(bs:List (Nat×α2)):Prop:=Ents K H d (bs.map fun x=>((x.1:Int),x.2))
theorem PutD.bas {K:α3}    (h:PutD K H d bs):BasD K H d bs:=by
 obtain⟨kvs,h1,h2,h3⟩:=h
 refine⟨kvs,.inl h1,by rw[h2,jb_],fun i x hx=>?_⟩
 exact h3 i ((x.1:Int),x.2) (by rw[jh_,hx];rfl)
theorem PutD.fz {K:α3}    (h:PutD K H d bs)(s:FzAt e H H')(hne:d≠e):PutD K H' d bs:=by
 obtain⟨kvs,h1,h2,h3⟩:=h
 refine⟨kvs,s.1 _ _ hne h1,h2,fun i x hx=>?_⟩
 obtain⟨t,a,b⟩:=h3 i x hx
 exact⟨t,a,s.seqT b⟩
theorem PutD.put {K:α3}{H:Hp}{d t:Addr}{bs:List (Nat×α2)}{q:Nat}{v:α2}(h:PutD K H d bs)(hq:q∉bs.map (·.1))(hz:bs.length<1000)(ht:SqT K H t (v.map V.int)):∃H',DPut H d (.int q) (.ref t) H'/\(∃kvs kvs',H d=some (.dK kvs)/\H'=upd H d (.dK kvs'))/\PutD K H' d (bs++[(q,v)]):=by
 have:=Ents.put (g:=(q:Int)) (w:=v) h (fun hm=>hq (by
  rw[jK_]at hm
  obtain⟨x,hx,e⟩:=jv_.mp hm
  exact jv_.mpr ⟨x,hx,by have:((x.1:Int))=(q:Int):=e;lia⟩)) (by rw[jb_];exact hz) ht
 obtain⟨H',a,b,c⟩:=this
 exact⟨H',a,b,by unfold PutD;rw[ji_];exact c⟩
theorem PutD.nil {K:α3}   (h:H d=some (.dK [])):PutD K H d []:=⟨[],h,rfl,fun i x hx=>by simp at hx⟩
theorem BasD.get {K:α3}    (h:BasD K H d bs)(nod:(bs.map (·.1)).Nodup)  (hx:x∈bs):∃t,DGet H d (.int x.1) (some (.ref t))/\SqT K H t (x.2.map V.int):=by
 obtain⟨kvs,h1,h2,h3⟩:=h
 obtain⟨i,hi,ei⟩:=xI_ hx
 have ei':bs[i]?=some x:=by rw[jc_ hi,ei]
 obtain⟨t,a,b⟩:=h3 i _ ei'
 refine⟨t,?_,b⟩
 have hf:valV kvs (Sum.inl (x.1:Int):Key)=some (.ref t):=by
  unfold valV
  cases hq:kvs.find? (fun kv=>decide (kv.1=(Sum.inl (x.1:Int):Key))) with
  |none=>
   rw[List.find?_eq_none]at hq
   have:=hq _ (jj_ a)
   simp at this
  |some kv=>
   have hk:=List.find?_some hq
   simp only[q4_]at hk
   obtain⟨j,hj,ej⟩:=xI_ (List.mem_of_find?_eq_some hq)
   have hj':j<bs.length:=by lia
   obtain⟨t',a',b'⟩:=h3 j bs[j] (by simp[hj'])
   have e2:kvs[j]?=some kv:=by rw[jc_ hj,ej]
   rw[e2]at a'
   have a2:kv=(Sum.inl (bs[j].1:Int),V.ref t'):=jB_ a'
   rw[a2]at hk
   have hk':bs[j].1=x.1:=by injection hk with hk;lia
   have ij:i=j:=by
    refine (List.getElem_inj (h₀:=by simpa using hi) (h₁:=by simpa using hj') nod).mp ?_
    simp[ei,hk']
   subst ij
   rw[e2]at a
   have a3:kv=(Sum.inl (x.1:Int),V.ref t):=jB_ a
   rw[a3];rfl
 exact .inl ⟨kvs,Sum.inl (x.1:Int),h1,rfl,hf.symm⟩
theorem SqT.offm {K:α3}     (h:SqT K H t xs)(hm:H m=some (.dK kv))(s:∀a u,a≠m->H a=some u->H' a=some u):SqT K H' t xs:=by
 rcases h with (q|⟨o,q⟩)|q
 ·exact .inl (.inl (s _ _ (fun z=>by rw[z,hm]at q;cases q) q))
 ·exact .inl (.inr ⟨o,s _ _ (fun z=>by rw[z,hm]at q;cases q) q⟩)
 ·exact .inr q
theorem BasD.offm {K:α3}     (h:BasD K H d bs)(hm:H m=some (.dK kv))(hd:d≠m)(s:∀a u,a≠m->H a=some u->H' a=some u):BasD K H' d bs:=by
 obtain⟨kvs,h1,h2,h3⟩:=h
 refine⟨kvs,?_,h2,fun i x hx=>?_⟩
 ·rcases h1 with h1|⟨o,h1⟩
  ·exact .inl (s _ _ hd h1)
  ·exact .inr ⟨o,s _ _ hd h1⟩
 ·obtain⟨t,a,b⟩:=h3 i x hx
  exact⟨t,a,SqT.offm b hm s⟩
theorem V4   (F:Fun K "with_base" "with_base" DL f fd)(T:Txt mg)
  (W:Own K mg)
  (Z:Exs K mg C_j3 C_j0 C_j2 C_j1)
   (O9:FnOk P w K mg base (CXe P w) 1 Hu R4 ["p","number"] (RZ C_j1)) (Jn:Fun K "inverse" "inverse" GC Hu R4) (Pb:AI K R4 ["p","number"] []) (Pd:mg "inverse"=some (.ref Hu))
   (Gk:FnOk P w K mg base CX0 1 Ep FU ["p","factor","row"] (Lp K)) (E4:Fun K "scaled" "scaled" Gi Ep FU) (Gm:AI K FU ["p","factor","row"] []) (Gn:mg "scaled"=some (.ref Ep))
   (Dj:FnOk P w K mg base CX0 2 B4 CK ["p","bases","row"] (O7 K)) (Ck:Fun K "left_of" "left_of" Ej B4 CK) (Dk:AI K CK ["p","bases","row"] []) (Dm:mg "left_of"=some (.ref B4))
  : FnOk P w K mg base CX0 3 f fd ["p","bases","left","place"] (FU_ K):=by
 refine F.ok GX (fun vs H Q E h=>?_) (fun cdv A outer s H vs Q E hr h=>?_)
 ·obtain⟨p,d,l,q,bs,left,rfl,_⟩:=h;rfl
 ·obtain⟨p,d,l,q,bs,left,rfl,hp,hB,hL,hq,hz,h0,h1,hbz,hbs,nod,hqn,k⟩:=h
  have hl:=Au
  have hp1:=hp.1
  have hp2:=hp.2.1
  have em:left.getD q 0%p=left.getD q 0:=j5_ s!"" h1
  refine⟨_,(Ae (Ah (i:=4) GX.nd (Ai Gk (hr.mono (by decide)) rfl Gn E4.kp Gm .nil AL (Aa (pvD 0) (Aa (Ai O9 (hr.mono (by decide)) rfl Pd Jn.kp Pb .nil (Jd (P:=P) (w:=w)) (Aa (pvD 0) (Aa (Aj (ixTD Am) (pvD 2) (pvD 3)) Ab))) (Aa (pvD 2) Ab)))))
   (Ae (Ah (i:=5) GX.nd Sy)
   (Ae (Cg jF_ rfl (CU_ (pvD 1)) (Aw (i:=6) GX.nd rfl (Or.inl rfl))
   (Ag (Xi (Cv_ hr) (pvD 5) (pvD 6) (Ai Dj (hr.mono (by decide)) rfl Dm Ck.kp Dk .nil AL (Aa (pvD 0) (Aa (CK_ (pvD 3) (pvD 4)) (Aa (Fm_ (Cv_ hr) (pvD 1) (pvD 6) (fun _ _=>rfl)) Ab)))) rfl)))
   (Ae (Xi (Cv_ hr) (pvD 5) (pvD 3) (pvD 4) rfl)
   (Ag (Ay (pvD 5))))))),?_⟩
  walk_at "rd"
  refine⟨_,hL,_,SY hq,p,_,rfl,hp1,hp2,fun z=>by rw[em]at z;lia,fun _=>⟨by rw[em];exact hp.gcd h0 h1,fun inv i0 i1 hinv=>?_⟩⟩
  walk_at "rd"
  refine⟨p,inv,true,l,left,rfl,by lia,⟨by lia,by lia⟩,hL,hz,fun b H1 s1 hb=>?_⟩
  walk_at "rd"
  intro m hm
  obtain⟨base,hbase⟩:∃base:α2,base=left.map fun y=>inv*y%p:=⟨_,rfl⟩
  rw[<-hbase]at hb
  have hm0:H m=none:=by
   cases e:H m with
   |none=>rfl
   |some u=>rw[s1 _ _ e]at hm;cases hm
  have s2:=s1.trans (Same.new hm (o:=.dK []))
  obtain⟨kvs,b1,b2,b3⟩:=hB.mono s2
  refine⟨kvs,b1,fun o H3 hfr hF=>?_⟩
  have hdm:d≠m:=fun z=>by
   subst z
   obtain⟨kvs0,c1,_⟩:=hB
   rcases c1 with c1|⟨o',c1⟩
   ·rw[hm0]at c1;cases c1
   ·rw[hm0]at c1;cases c1
  have hb3:H3 b=some (.tup (base.map V.int)):=by
   have:upd H1 m (.dK []) b=some (.tup (base.map V.int)):=(Same.new hm) _ _ hb
   exact (hF.1 b _ (fun z=>by
    subst z
    rcases b1 with c1|⟨o',c1⟩
    ·rw[this]at c1;cases c1
    ·rw[this]at c1;cases c1) this)
  have hm3:H3 m=some (.dK []):=hF.1 m _ (qT_ hdm) Ac
  have hB3:BasD K H3 d bs:=BasD.fz ⟨kvs,b1,b2,b3⟩ hF
  have hqn':q<left.length:=hq
  obtain⟨Pv,hPv⟩:∃Pv:Nat->St->Hp->Prop,∀i σ' H',Pv i σ' H'↔((∀a u,a≠m->H3 a=some u->H' a=some u)/\PutD K H' m ((bs.take i).map fun x=>(x.1,AU p [(q,base)] x.2))/\∃o1,σ'=[some (.int p),some (.ref d),some (.ref l),some (.int q),some (.ref b),some (.ref m),o1]):=⟨_,fun _ _ _=>qf_⟩
  have hbaseLen:base.length=left.length:=by rw[hbase,jb_]
  refine Is_ Pv ((hPv _ _ _).mpr ⟨fun a u _ h=>h,PutD.nil hm3,none,rfl⟩) (fun i σ' H' _ h'=>((hPv _ _ _).mp h').1 d _ hdm hfr) (fun i key v σ' H' hkv h'=>?_) (fun σ' H' h'=>?_)
  ·obtain⟨s3,hP,o1,rfl⟩:=(hPv _ _ _).mp h'
   have hib:i<bs.length:=by rw[<-b2];exact (jd_.mp hkv).1
   have hbi:bs[i]?=some bs[i]:=by simp[hib]
   obtain⟨t,ht,_⟩:=b3 i _ hbi
   rw[hkv]at ht
   cases ht
   have hmem:bs[i]∈bs:=jD_ hib
   have etk:bs.take (i+1)=bs.take i++[bs[i]]:=qv_ hib
   have hnk:bs[i].1∉(bs.take i).map (·.1):=fun hm=>by
    rw[xl_]at hm
    obtain⟨j,hj1,hj2⟩:=List.mem_take_iff_getElem.mp hm
    have:(bs.map (·.1))[j]'s!""=(bs.map (·.1))[i]'(by rw[jb_];exact hib):=by rw[hj2];simp
    have:=(List.getElem_inj nod).mp this
    lia
   have hbl:=hbs _ hmem
   generalize bs[i]=x at hmem etk hnk hbl hkv
   obtain⟨pl,xb⟩:=x
   walk_at "rd"
   intro e he
   have sE:=Same.new he (o:=.dK (Ny [] [((Sum.inl (q:Int):Key),V.ref b)]))
   have hB':=(hB3.offm hm3 hdm s3).mono sE
   have hb':=sE.seqT (SqT.offm (SqT.of (K:=K) hb3) hm3 s3)
   refine⟨Ac,[((Sum.inl (q:Int):Key),V.ref b)],rfl,Nat.le_of_ble_eq_true rfl,?_⟩
   rw[Fc_]
   obtain⟨t',hget,hrow⟩:=hB'.get nod hmem
   have hne:m≠e:=fun z=>by
    subst z
    obtain⟨kk,h1,_⟩:=hP
    rw[he]at h1;cases h1
   have hxl:xb.length=left.length:=hbl.1
   refine⟨_,hget,p,e,t',true,[(q,base)],xb,rfl,by lia,by lia,⟨_,.inl Ac,rfl,fun j x hx=>?_⟩,hrow,by lia,fun x hx=>?_,fun q1 H4 hF4 hq1=>?_⟩
   ·have hj:j=0:=by
     have:=(jd_.mp hx).1
     simp at this;lia
    subst hj
    cases hx
    exact⟨b,rfl,hb'⟩
   ·rw[jg_.mp hx];exact⟨hbaseLen.trans hxl.symm,by lia⟩
   ·have hP4:PutD K H4 m ((bs.take i).map fun x=>(x.1,AU p [(q,base)] x.2)):=(hP.fz (FzAt.of sE) hne).fz hF4 hne
    obtain⟨H5,g1,⟨kv1,kv2,g2,rfl⟩,g3⟩:=hP4.put (q:=pl) (v:=AU p [(q,base)] xb) (t:=q1) (by rw[jK_];exact hnk) (by rw[jb_,jR_];lia) hq1
    refine⟨_,g1,(hPv _ _ _).mpr ⟨fun a u ha h=>?_,by rw[etk,ji_];exact g3,_,rfl⟩⟩
    rw[AD ha]
    exact hF4.1 a u (fun z=>by have:=s3 a u ha h;rw[z,he]at this;cases this) (sE _ _ (s3 a u ha h))
  ·obtain⟨s3,hP,o1,rfl⟩:=(hPv _ _ _).mp h'
   rw[b2,jM_]at hP
   walk_at "rd"
   obtain⟨H5,g1,⟨kv1,kv2,g2,rfl⟩,g3⟩:=hP.put (q:=q) (v:=base) (t:=b) (by rw[jK_];exact hqn) (by rw[jb_];lia) (SqT.offm (SqT.of (K:=K) hb3) hm3 s3)
   refine⟨_,g1,k m inv _ ⟨fun a u ha h=>?_,fun u h=>?_⟩ i0 i1 hinv (by
    have ew:V1 p inv bs left q=(bs.map fun x=>(x.1,AU p [(q,base)] x.2))++[(q,base)]:=by rw[hbase];rfl
    rw[ew];exact g3.bas) hm0⟩
   ·have ham:a≠m:=fun z=>by rw[z,hm0]at h;cases h
    rw[AD ham]
    exact s3 a u ham (hF.1 a u ha (s2 _ _ h))
   ·rw[AD hdm]
    rcases hF.2 u (s2 _ _ h) with h' | ⟨kvs,o,e,h'⟩
    ·exact .inl (s3 _ _ hdm h')
    ·exact .inr ⟨kvs,o,e,s3 _ _ hdm h'⟩
noncomputable def natV (ks:List Nat):List V:=ks.map fun (k:Nat)=>V.int (k:Int)
noncomputable def ER_ (K:α3):Sp:=fun vs H Q _=>∃(p:Int) (t:Bool) (a:Addr) (m n:Nat) (xs:List V) (rows:α1),vs=[.int p,.ref a,.int m]/\Pr p/\SqB K H t a xs/\Ba K H xs rows/\(∀r∈rows,r.length=n)/\m<=n/\n<=900/\rows.length<=900/\∀q l d bs H',Same H H'->SqT K H' q [.ref l,.ref d]->H' l=some (.lst (natV (Jm p m rows)))->BasD K H' d bs->Seen p n m rows bs->H d=none->H l=none->Q (.ref q) H'
theorem BasD.offl {K:α3}     (h:BasD K H d bs)(hp:H p=some (.lst zs)):BasD K (upd H p (.lst ys)) d bs:=by
 obtain⟨kvs,h1,h2,h3⟩:=h
 refine⟨kvs,?_,h2,fun i x hx=>?_⟩
 ·rcases h1 with h1|⟨o,h1⟩
  ·exact .inl (by rw[AD (fun z=>by rw[z,hp]at h1;cases h1)];exact h1)
  ·exact .inr ⟨o,by rw[AD (fun z=>by rw[z,hp]at h1;cases h1)];exact h1⟩
 ·obtain⟨t,a,b⟩:=h3 i x hx
  exact⟨t,a,AV hp b⟩
theorem Same.gone   (s:Same H H')(h:H' a=none):H a=none:=by
 cases e:H a with
 |none=>rfl
 |some u=>rw[s _ _ e]at h;cases h
theorem V5 (p inv:Int)(bs:List (Nat×α2))(left:α2)(q:Nat):(V1 p inv bs left q).length=bs.length+1:=by unfold V1;simp
theorem KR   (F:Fun K "chosen_and_bases" "chosen_and_bases" Bp f fd)(T:Txt mg)
  (W:Own K mg)
  (Z:Exs K mg C_j3 C_j0 C_j2 C_j1)
   (Bh:FnOk P w K mg base CX0 1 AO Bl ["row"] (YD K)) (A0:Fun K "place_of_first" "place_of_first" Bg AO Bl) (Bi:AI K Bl ["row"] []) (Bj:mg "place_of_first"=some (.ref AO))
   (Dj:FnOk P w K mg base CX0 2 B4 CK ["p","bases","row"] (O7 K)) (Ck:Fun K "left_of" "left_of" Ej B4 CK) (Dk:AI K CK ["p","bases","row"] []) (Dm:mg "left_of"=some (.ref B4))
   (Fy:FnOk P w K mg base CX0 3 Dd FV ["p","bases","left","place"] (FU_ K)) (DY:Fun K "with_base" "with_base" DL Dd FV) (Fz:AI K FV ["p","bases","left","place"] []) (FA:mg "with_base"=some (.ref Dd))
  : FnOk P w K mg base CX0 4 f fd ["p","rows","size"] (ER_ K):=by
 refine F.ok A6 (fun vs H Q E h=>?_) (fun cdv A outer s H vs Q E hr h=>?_)
 ·obtain⟨p,t,a,m,n,xs,rows,rfl,_⟩:=h;rfl
 ·obtain⟨p,t,a,m,n,xs,rows,rfl,hp,ha,hR,hrn,hmn,hn,hz,k⟩:=h
  have hl:=Au
  have hp1:=hp.1
  have hp2:=hp.2.1
  refine⟨_,(Ae (Ah (i:=3) A6.nd (Ex Ab))
   (Ae (Ah (i:=4) A6.nd Sy)
   (Ae (Cg jF_ rfl (HA_ (Yp rfl T.enumerate (pvD 1)) (SH rfl T.enumerate (pvD 1))) (Yb rfl (DG (Aw (i:=5) A6.nd rfl (Or.inl rfl)) (DG (Aw (i:=6) A6.nd rfl (Or.inl rfl)) KJ)))
   (Ae (Ah (i:=7) A6.nd (Ai Dj (hr.mono (by decide)) rfl Dm Ck.kp Dk .nil AL (Aa (pvD 0) (Aa (pvD 4) (Aa (pvD 6) Ab)))))
   (Ae (Ah (i:=8) A6.nd (Ai Bh (hr.mono (by decide)) rfl Bj A0.kp Bi .nil AL (Aa (Ea GA (pvD 7) Ft (Fu (pvD 2))) Ab)))
   (Ag (CI (ptT (AK Ss (pvD 8) Gv (AQ _)))
   (Ae (CH (Lc jQ_ jN_ jO_ Ci (pvD 3) (Aa (pvD 5) Ab)))
   (Ag (Ah (i:=4) A6.nd (Ai Fy (hr.mono (by decide)) rfl FA DY.kp Fz .nil AL (Aa (pvD 0) (Aa (pvD 4) (Aa (pvD 7) (Aa (pvD 8) Ab))))))))
   AZ)))))
   (Ag (Ay (A4 (Aa (pvD 3) (Aa (pvD 4) Ab)))))))),?_⟩
  walk_at "rd"
  refine⟨qt_ _,fun l hl0 d0 hd0=>?_⟩
  have s0:=(Same.new hl0 (o:=.lst [])).newT hd0 (o:=.dK [])
  have hd00:H d0=none:=by
   cases e:H d0 with
   |none=>rfl
   |some u=>rw[(Same.new hl0 (o:=.lst [])) _ _ e]at hd0;cases hd0
  have hne:l≠d0:=fun z=>by subst z;rw[Ac]at hd0;cases hd0
  obtain⟨Pv,hPv⟩:∃Pv:Nat->St->Hp->Prop,∀i σ' H',Pv i σ' H'↔(Same H H'/\H' l=some (.lst (natV (Jm p m (rows.take i))))/\∃(d:Addr) (bs:List (Nat×α2)) (o1 o2 o3 o4:Option V),H d=none/\BasD K H' d bs/\Seen p n m (rows.take i) bs/\bs.length<=i/\σ'=[some (.int p),some (.ref a),some (.int m),some (.ref l),some (.ref d),o1,o2,o3,o4]):=⟨_,fun _ _ _=>qf_⟩
  refine forE (ha.mono s0) Pv ((hPv _ _ _).mpr ⟨s0,by rw[AD hne,Ac];rfl,d0,[],none,none,none,none,hd00,PutD.bas (PutD.nil Ac),⟨⟨by simp,by simp,.nil⟩,by simp,by simp,by simp⟩,jf_ _,rfl⟩) (fun i σ' H' _ h'=>ha.mono ((hPv _ _ _).mp h').1) (fun i v σ' H' q hv h' hq=>?_) (fun σ' H' h'=>?_)
  ·obtain⟨s1,hl1,d,bs,o1,o2,o3,o4,hd,hB,hS,hbz,rfl⟩:=(hPv _ _ _).mp h'
   have hi:i<rows.length:=by rw[<-hR.1];exact (jd_.mp hv).1
   have hri:rows[i]?=some rows[i]:=by simp[hi]
   obtain⟨tr,ht,hrow⟩:=hR.2 i _ hri
   rw[hv]at ht
   cases ht
   have hrl:=hrn _ (jD_ hi)
   have etk:rows.take (i+1)=rows.take i++[rows[i]]:=(qv_ hi)
   generalize rows[i]=row at hrow hrl etk
   walk_at "rd"
   have s2:=Same.new hq (o:=.tup [.int i,.ref tr])
   refine⟨_,SqT.of Ac,rfl,_,_,rfl,_,_,rfl,rfl,p,d,tr,true,bs,row,rfl,by lia,by lia,hB.mono s2,s2.seqT (s1.seqT hrow),by lia,fun x hx=>by rw[hrl];exact⟨(hS.b.len x hx).1,(hS.b.len x hx).2.1⟩,fun q1 H3 hF3 hq1=>⟨q1,rfl,_,hq1,fun p1 H4 s4 hp1'=>?_⟩⟩
   rw[RY,<-xl_]at hp1'
   have hiff:=hS.iff s!"" hmn hrl
   have hll:=(E2 row hrl bs hS.b).1
   have hlin:=Jl (p:=p) s!"" row bs
   have hown:=S3 (p:=p) s!"" hrl hS.b
   have hmore:=fun (inv:Int) (qq:Nat) (h1:qq<m) (h2:inv*(AU p bs row).getD qq 0%p=1)=>hS.more (inv:=inv) hp1 hmn hrl h1 h2
   have hsame:=hS.same hrl
   generalize AU p bs row=left at hq1 hp1' hiff hll hlin hown hmore hsame
   have htk:∀qq:Nat,qq<m->(left.take m).getD qq 0=left.getD qq 0:=fun qq hqq=>by
    rw[ja_,xr_,if_pos hqq,<-ja_]
   have hlt:(left.take m).length=m:=by rw[jR_];lia
   have hl3:=hF3.lst (s2 _ _ hl1)
   have hti:(rows.take i).length=i:=by rw[jR_];lia
   have hcl:(Jm p m (rows.take i)).length<=i:=by
    unfold Jm
    refine jV_ (List.length_filter_le _ _) ?_
    rw[jU_,hti];exact jf_ _
   refine⟨p1,left.take m,rfl,hp1',by lia,fun qn H5 s5 hqn hq0=>?_,fun H5 s5 hall=>?_⟩
   ·rw[hlt]at hqn
    rw[htk qn hqn]at hq0
    rw[if_pos (by simp)]
    have hl5:=s5 _ _ (s4 _ _ hl3)
    have g:=getD_in (show 0<p by lia) hlin qn
    have hsp:¬ Span p m (rows.take i) fun j=>row.getD j 0:=fun z=>hq0 (hiff.mpr z qn hqn)
    have hB5:=((hB.mono s2).fz hF3).mono (s4.trans s5)
    have hS5:Same H H5:=(hF3.same (s1.trans s2) hd).trans (s4.trans s5)
    have hne:d≠l:=fun z=>by
     obtain⟨kk,c1,_⟩:=hB
     rcases c1 with c1|⟨o,c1⟩
     ·rw[z,hl1]at c1;cases c1
     ·rw[z,hl1]at c1;cases c1
    refine⟨.inl ⟨rfl,_,SqL.of hl5⟩,_,hl5,by unfold natV;rw[jb_];lia,p,d,q1,qn,bs,left,rfl,hp,hB5.offl hl5,AV hl5 ((s4.trans s5).seqT hq1),by lia,by lia,by lia,g.2,by lia,fun x hx=>by rw[hll];exact⟨(hS.b.len x hx).1,(hS.b.len x hx).2.1⟩,hS.b.nodup,fun hm=>?_,fun m' inv H7 hF7 i0 i1 hinv hB7 hm7=>?_⟩
    ·obtain⟨x,hx,e⟩:=jv_.mp hm
     exact hq0 (by rw[<-e];exact hown x hx)
    ·have hS6:Same H (upd H5 l (.lst (natV (Jm p m (rows.take i))++[V.int i]))):=hS5.over hl0
     refine (hPv _ _ _).mpr ⟨hF7.same hS6 hd,?_,m',_,_,_,_,_,Mine.Same.gone hS6 hm7,hB7,by rw[etk];exact hmore inv qn hqn hinv,by rw[V5];lia,rfl⟩
     rw[hF7.lst Ac,etk,O5,if_neg hsp,hti]
     unfold natV
     rw[ji_];rfl
   ·show if (!decide (V.non=V.non))=true then _ else _
    rw[if_neg (by simp)]
    have hz0:∀j:Nat,j<m->left.getD j 0=0:=fun j hj=>by rw[<-htk j hj];exact hall j s!""
    have hsp:=hiff.mp hz0
    refine (hPv _ _ _).mpr ⟨(hF3.same (s1.trans s2) hd).trans (s4.trans s5),?_,d,bs,_,_,_,_,hd,((hB.mono s2).fz hF3).mono (s4.trans s5),by rw[etk];exact hsame hz0,by lia,rfl⟩
    rw[s5 _ _ (s4 _ _ hl3),etk,O5,if_pos hsp,zp_]
  ·obtain⟨s1,hl1,d,bs,o1,o2,o3,o4,hd,hB,hS,hbz,rfl⟩:=(hPv _ _ _).mp h'
   rw[hR.1,jM_]at hl1 hS
   walk_at "rd"
   refine⟨by lia,fun q hq=>?_⟩
   have s2:=Same.new hq (o:=.tup [.ref l,.ref d])
   exact k q l d bs _ (s1.trans s2) (SqT.of Ac) (s2 _ _ hl1) (hB.mono s2) hS hd hl0
noncomputable def BO_ (K:α3):Sp:=fun vs H Q _=>∃(n:Nat) (k:Nat),vs=[.int n,.int k]/\n<=900/\∀q H',Same H H'->SqT K H' q ((EW n k).map V.int)->Q (.ref q) H'
theorem FV_   (F:Fun K "unit" "unit" OX f fd)(T:Txt mg)
  (W:Own K mg)
  (Z:Exs K mg C_j3 C_j0 C_j2 C_j1)
  : FnOk P w K mg base CX0 1 f fd ["size","place"] (BO_ K):=by
 refine F.ok FQ_ (fun vs H Q E h=>?_) (fun cdv A outer s H vs Q E hr h=>?_)
 ·obtain⟨n,k,rfl,_⟩:=h;rfl
 ·obtain⟨n,c,rfl,hn,k⟩:=h
  have hl:=Au
  refine⟨_,(Ag (Ay (AR AJ rfl T.tuple jz_ (Aa (C4 rfl (DK rfl) (cp:=Yy) ⟨⟨rfl,rfl⟩,True.intro⟩ (A3 rfl T.range (Aa (pvD 0) Ab)) (fun _ _ _ _=>(Aw (i:=0) Xt rfl (Or.inl rfl))) (fun _ _ _ _=>DI) (fun _ _ _ _=>(Sq (ptT (AK (opE I0) (pvD 0) (pvD 1) (AQ _))) Ad Ad))) Ab)))),?_⟩
  walk_at "rd"
  refine⟨by lia,by lia,?_⟩
  rw[jA_]
  refine OR (fun j zs σ4 H4=>H4=H/\zs=(((List.range j).map fun i=>if i=c then (1:Int) else 0)).map V.int/\∃o,σ4=[o,some (.int c)]) ⟨rfl,rfl,none,rfl⟩ s!"" (fun j zs σ4 H4 _ h4=>?_) (fun j zs σ4 H4 hj h4=>?_) (fun zs σ4 H4 h4 D hD=>?_)
  ·rw[h4.2.1,jb_,jb_,jU_];exact jf_ _
  ·obtain⟨rfl,rfl,o,rfl⟩:=h4
   rw[j3_]
   walk_at "rd"
   rw[j2_,ji_,ji_]
   by_cases hjc:j=c
   ·rw[if_pos (by rw[hjc])]
    exact⟨by rw[j6_,if_pos hjc];rfl,_,rfl⟩
   ·rw[if_neg s!""]
    exact⟨by rw[j6_,if_neg hjc];rfl,_,rfl⟩
  ·obtain⟨rfl,rfl,o,rfl⟩:=h4
   exact⟨D,rfl,_,.inl ⟨SqL.of Ac,fun q hq=>k q _ ((Same.new hD).newT hq) (SqT.of Ac)⟩⟩
theorem Zm (d:Nat)(v:V):(List.replicate d [v]).flatten=List.replicate d v:=by
 induction d with
 |zero=>rfl
 |succ d ih=>rw[qe_,q3_,ih,qe_];rfl
noncomputable def V6 (H:Hp)(p:Int)(m:Nat)(rows:α1)(bs:List (Nat×α2))(zs:List V)(somes:α1):Prop:=zs.length=somes.length/\∀(i:Nat) (r:α2),somes[i]?=some r->(Span p m rows (fun j=>r.getD j 0)/\∃c,zs[i]?=some (.ref c)/\H c=some (.lst ((((AU p bs (r++List.replicate rows.length 0)).drop m).map fun y => -y%p).map V.int)))\/(¬ Span p m rows (fun j=>r.getD j 0)/\zs[i]?=some .non)
noncomputable def HT_ (K:α3):Sp:=fun vs H Q _=>∃(p:Int) (t:Bool) (a b:Addr) (m:Nat) (xs ys:List V) (rows somes:α1),vs=[.int p,.ref a,.ref b,.int m]/\Pr p/\SqB K H t a xs/\Ba K H xs rows/\(∀r∈rows,r.length=m)/\SqL K H b ys/\Ba K H ys somes/\(∀r∈somes,r.length=m)/\m<=400/\rows.length<=400/\somes.length<=900/\∀l zs bs H',Same H H'->H l=none->H' l=some (.lst zs)->Seen p (m+rows.length) m (BO rows) bs->V6 H' p m rows bs zs somes->Q (.ref l) H'
theorem V6.keep       (h:V6 H p m rows bs zs somes)(k:∀c ys,(∃j:Nat,zs[j]?=some (V.ref c))->H c=some (.lst ys)->H' c=some (.lst ys)):V6 H' p m rows bs zs somes:=by
 refine⟨h.1,fun i r hi=>?_⟩
 rcases h.2 i r hi with ⟨a,c,e1,e2⟩|h'
 ·exact .inl ⟨a,c,e1,k c _ ⟨i,e1⟩ e2⟩
 ·exact .inr h'
theorem V6.snoc         (h:V6 H p m rows bs zs somes)(g:(Span p m rows (fun j=>r.getD j 0)/\∃c,z=.ref c/\H c=some (.lst ((((AU p bs (r++List.replicate rows.length 0)).drop m).map fun y => -y%p).map V.int)))\/(¬ Span p m rows (fun j=>r.getD j 0)/\z=.non)):V6 H p m rows bs (zs++[z]) (somes++[r]):=by
 refine⟨by simp[h.1],fun i v hi=>?_⟩
 by_cases hl:i<somes.length
 ·rw[jn_ hl]at hi
  rw[jn_ (by rw[h.1];exact hl)]
  exact h.2 i v hi
 ·have:=(jd_.mp hi).1
  rw[jk_,jZ_]at this
  have e:i=somes.length:=by lia
  subst e
  rw[jq_ (jf_ _),qr_]at hi
  simp at hi
  subst hi
  have ez:(zs++[z])[somes.length]?=some z:=by rw[<-h.1];simp
  rw[ez]
  rcases g with ⟨a,c,e1,e2⟩|⟨a,e1⟩
  ·exact .inl ⟨a,c,by rw[e1],e2⟩
  ·exact .inr ⟨a,by rw[e1]⟩
theorem YF {zs:List V}{z v:V}{j:Nat}(h:(zs++[z])[j]?=some v):zs[j]?=some v\/z=v:=by
 by_cases hl:j<zs.length
 ·rw[jn_ hl]at h;exact .inl h
 ·rw[jq_ s!""]at h
  have:=(jd_.mp h).1
  simp at this
  have e:j-zs.length=0:=by lia
  rw[e]at h
  exact .inr (by simpa using h)
theorem Lq   (F:Fun K "factors_of_each" "factors_of_each" Bv f fd)(T:Txt mg)
  (W:Own K mg)
  (Z:Exs K mg C_j3 C_j0 C_j2 C_j1)
   (Bh:FnOk P w K mg base CX0 1 AO Bl ["row"] (YD K)) (A0:Fun K "place_of_first" "place_of_first" Bg AO Bl) (Bi:AI K Bl ["row"] []) (Bj:mg "place_of_first"=some (.ref AO))
   (Dj:FnOk P w K mg base CX0 2 B4 CK ["p","bases","row"] (O7 K)) (Ck:Fun K "left_of" "left_of" Ej B4 CK) (Dk:AI K CK ["p","bases","row"] []) (Dm:mg "left_of"=some (.ref B4))
   (E5:FnOk P w K mg base CX0 4 BD GJ ["p","rows","size"] (ER_ K)) (Cm:Fun K "chosen_and_bases" "chosen_and_bases" Bp BD GJ) (E6:AI K GJ ["p","rows","size"] []) (E7:mg "chosen_and_bases"=some (.ref BD))
   (BP_:FnOk P w K mg base CX0 1 R5 BQ_ ["size","place"] (BO_ K)) (V7:Fun K "unit" "unit" OX R5 BQ_) (BR_:AI K BQ_ ["size","place"] []) (BS_:mg "unit"=some (.ref R5))
  : FnOk P w K mg base CX0 5 f fd ["p","rows","some","size"] (HT_ K):=by
 refine F.ok Bc (fun vs H Q E h=>?_) (fun cdv A outer s H vs Q E hr h=>?_)
 ·obtain⟨p,t,a,b,m,xs,ys,rows,somes,rfl,_⟩:=h;rfl
 ·obtain⟨p,t,a,b,m,xs,ys,rows,somes,rfl,hp,ha,hR,hrn,hb,hY,hsn,hm,hz,hsz,k⟩:=h
  have hl:=Au
  have hp1:=hp.1
  have hp2:=hp.2.1
  refine⟨_,(Ae (OI (i:=4) Bc.nd rfl (Or.inr rfl) (Az (lenD Ao) (by rfl) T.len jH_ (Aa (pvD 1) Ab)))
   (Ae (SA (i:=5) Bc.nd rfl rfl rfl (DK rfl) (cp:=GH) ⟨⟨rfl,rfl⟩,True.intro⟩ (HA_ (Yp rfl T.enumerate (pvD 1)) (SH rfl T.enumerate (pvD 1))) (fun _ _ _ _=>(SJ (K:=K) (n:=2) rfl rfl (DG (Aw (i:=0) Fp rfl (Or.inl rfl)) (DG (Aw (i:=1) Fp rfl (Or.inl rfl)) KJ)))) (fun _ _ _ _=>DI) (fun _ _ _ _=>(Al (Jf (K:=K) rfl) (AR (SK (K:=K) rfl) rfl T.tuple jz_ (Aa (pvD 1) Ab)) (Ai BP_ (hr.mono (by decide)) rfl BS_ V7.kp BR_ .nil AL (Aa (pvD 2) (Aa (pvD 0) Ab))))))
   (Ae (Ah (i:=6) Bc.nd (Aj (ixTD Am) (Ai E5 (hr.mono (by decide)) rfl E7 Cm.kp E6 .nil AL (Aa (pvD 0) (Aa (pvD 5) (Aa (pvD 3) Ab)))) Ad))
   (Ae (Ah (i:=7) Bc.nd (Ex Ab))
   (Ae (Cg jF_ rfl (Mo (pvD 2)) (Aw (i:=8) Bc.nd rfl (Or.inl rfl))
   (Ae (Ah (i:=9) Bc.nd (Ai Dj (hr.mono (by decide)) rfl Dm Ck.kp Dk .nil AL (Aa (pvD 0) (Aa (pvD 6) (Aa (Al B6 (AR NC rfl T.tuple jz_ (Aa (pvD 8) Ab)) (Al Jc (A4 (Aa Ad Ab)) (pvD 4))) Ab)))))
   (Ae (Ah (i:=10) Bc.nd (HS RP (Ai Bh (hr.mono (by decide)) rfl Bj A0.kp Bi .nil AL (Aa (Ea GA (pvD 9) Ft (Fu (pvD 3))) Ab)) Gv (AQ _)))
   (Ag (CH (Lc jQ_ jN_ jO_ Ci (pvD 7) (Aa (Sq (ptB (Gg (pvD 10))) (C4 rfl (DK rfl) (cp:=GI) ⟨⟨rfl,rfl⟩,True.intro⟩ (Kf (Ea GA (pvD 9) (Fu (pvD 3)) Ft)) (fun _ _ _ _=>(Aw (i:=0) IM rfl (Or.inl rfl))) (fun _ _ _ _=>DI) (fun _ _ _ _=>(Al (opD Bb) (Y0 RO (pvD 0)) (pvD 1)))) Gv) Ab)))))))
   (Ag (Ay (pvD 7)))))))),?_⟩
  walk_at "rd"
  refine⟨xs,(by cases t;exact .inl ha;exact .inr ha),?_⟩
  rw[hR.1]
  have hlm:(BO rows).length=rows.length:=by unfold BO;simp
  obtain⟨Pc,hPc⟩:∃Pc:Nat->List V->St->Hp->Prop,∀j zs σ4 H4,Pc j zs σ4 H4↔(Same H H4/\Ba K H4 zs ((BO rows).take j)/\∃o1 o2,σ4=[o1,o2,some (.int rows.length)]):=⟨_,fun _ _ _ _=>qf_⟩
  refine Iu_ ha Pc ((hPc _ _ _ _).mpr ⟨Same.refl _,by rw[List.take_zero];exact Ba.nil,none,none,rfl⟩) (by rw[hR.1];lia) (fun j zs σ4 H4 hj h4=>?_) (fun j v zs σ4 H4 q hv h4 hq=>?_) (fun zs σ4 H4 h4 D hD=>?_)
  ·obtain⟨s4,hR4,_⟩:=(hPc _ _ _ _).mp h4
   exact⟨ha.mono s4,by rw[hR4.1,jR_];lia⟩
  ·obtain⟨s4,hR4,o1,o2,rfl⟩:=(hPc _ _ _ _).mp h4
   have hi:j<rows.length:=by rw[<-hR.1];exact (jd_.mp hv).1
   obtain⟨tr,ht,hrow⟩:=hR.2 j rows[j] (by simp[hi])
   rw[hv]at ht
   cases ht
   have s5:=Same.new hq (o:=.tup [.int j,.ref tr])
   have etk:(BO rows).take (j+1)=(BO rows).take j++[rows[j]++EW rows.length j]:=by
    rw[qv_ (hlm ▸ hi)]
    congr 2
    unfold BO
    rw[qA_,xV_,ja_,jc_ hi];rfl
   have hrl:=hrn _ (jD_ hi)
   generalize rows[j]=row at hrow etk hrl
   walk_at "rd"
   refine⟨_,SqT.of Ac,rfl,_,_,rfl,_,_,rfl,rfl,tr,rfl,_,.inr ⟨s5.seqT (s4.seqT hrow),rows.length,j,rfl,by lia,fun q6 H6 s6 hq6=>?_⟩⟩
   refine CF.of (s6.seqT (s5.seqT (s4.seqT hrow))) hq6 (by unfold EW;simp;lia) fun q7 H7 s7 hq7=>?_
   refine (hPc _ _ _ _).mpr ⟨s4.trans (s5.trans (s6.trans s7)),?_,_,_,rfl⟩
   rw[etk]
   exact (hR4.mono (s5.trans (s6.trans s7))).snoc (by rw[ji_];exact hq7)
  ·obtain⟨s4,hR4,o1,o2,rfl⟩:=(hPc _ _ _ _).mp h4
   rw[hR.1,<-hlm,jM_]at hR4
   walk_at "rd"
   have sD:=Same.new hD (o:=.lst zs)
   refine⟨p,false,D,m,m+rows.length,zs,BO rows,rfl,hp,SqL.of Ac,hR4.mono sD,Zh hrn,by lia,by lia,by lia,fun q6 l6 d bs H6 s6 hq6 _ hB S hd0 _=>⟨q6,rfl,_,hq6,.ref d,rfl,qt_ _,fun l hl0=>?_⟩⟩
   have s60:Same H H6:=(s4.trans sD).trans s6
   have s7:=Same.new hl0 (o:=.lst [])
   have hd00:H d=none:=Mine.Same.gone (s4.trans sD) hd0
   have hl00:H l=none:=Mine.Same.gone s60 hl0
   refine⟨⟨_,(s60.trans s7).seq hb⟩,?_⟩
   obtain⟨Pv,hPv⟩:∃Pv:Nat->St->Hp->Prop,∀i σ' H',Pv i σ' H'↔(Same H H'/\BasD K H' d bs/\∃(us:List V) (o1 o2 o3:Option V),H' l=some (.lst us)/\V6 H' p m rows bs us (somes.take i)/\(∀(j:Nat) (c:Addr),us[j]?=some (.ref c)->c≠l)/\σ'=[some (.int p),some (.ref a),some (.ref b),some (.int m),some (.int rows.length),some (.ref D),some (.ref d),some (.ref l),o1,o2,o3]):=⟨_,fun _ _ _=>qf_⟩
   refine forL Pv ((hPv _ _ _).mpr ⟨s60.trans s7,hB.mono s7,[],none,none,none,Ac,⟨rfl,fun i r hi=>by simp at hi⟩,by simp,rfl⟩) (fun i σ' H' _ h'=>((hPv _ _ _).mp h').1.seq hb) (fun i v σ' H' hv h'=>?_) (fun σ' H' h'=>?_)
   ·obtain⟨s8,hB8,us,o1,o2,o3,hu,hT,hne,rfl⟩:=(hPv _ _ _).mp h'
    have hi:i<somes.length:=by rw[<-hY.1];exact (jd_.mp hv).1
    obtain⟨tr,ht,hrow⟩:=hY.2 i somes[i] (by simp[hi])
    rw[hv]at ht
    cases ht
    have hrl:=hsn _ (jD_ hi)
    have etk:somes.take (i+1)=somes.take i++[somes[i]]:=qv_ hi
    generalize somes[i]=row at hrow hrl etk
    walk_at "rd"
    have etl:(somes.take i).length=i:=by rw[jR_];lia
    refine⟨_,.inr ⟨s8.seqT hrow,by lia,fun p1 hp1'=>?_⟩⟩
    have sA:=Same.new hp1' (o:=.tup [V.int 0])
    refine OT.of (SqT.of Ac) (by simp) s!"" s!"" (by simp;lia) fun pt H2 s2 ht=>?_
    rw[jA_,Zm]at ht
    refine CF.of ((s8.trans (sA.trans s2)).seqT hrow) ht (by simp;lia) fun q5 H5 s5 hq5=>?_
    have sB:=sA.trans (s2.trans s5)
    have erow:(row++List.replicate rows.length 0).map V.int=row.map V.int++List.replicate rows.length (V.int 0):=by rw[ji_,List.map_replicate]
    rw[<-erow]at hq5
    have hr0:(row++List.replicate rows.length (0:Int)).length=m+rows.length:=by simp[hrl]
    have hll:=(E2 (row++List.replicate rows.length 0) hr0 bs S.b).1
    have hiff:=BM_ (show 0<p by lia) hrn S hrl
    refine⟨p,d,q5,true,bs,row++List.replicate rows.length 0,rfl,by lia,by lia,hB8.mono sB,hq5,by lia,fun x hx=>by rw[hr0];exact⟨(S.b.len x hx).1,(S.b.len x hx).2.1⟩,fun q6 H6 hF6 hq6=>⟨q6,rfl,_,hq6,fun p7 H7 s7 hp7=>?_⟩⟩
    rw[RY,<-xl_]at hp7
    have hlt:((AU p bs (row++List.replicate rows.length 0)).take m).length=m:=by rw[jR_];lia
    have htk:∀qq:Nat,qq<m->((AU p bs (row++List.replicate rows.length 0)).take m).getD qq 0=(AU p bs (row++List.replicate rows.length 0)).getD qq 0:=fun qq hqq=>by
     rw[ja_,xr_,if_pos hqq,<-ja_]
    generalize hleft:AU p bs (row++List.replicate rows.length 0)=left at hq6 hp7 hll hiff hlt htk
    have hu6:=hF6.lst (sB _ _ hu)
    have hS6:Same H H6:=hF6.same (s8.trans sB) hd00
    refine⟨p7,left.take m,rfl,hp7,by lia,fun qn H9 s9 hqn hq0=>?_,fun H9 s9 hall=>?_⟩
    ·rw[hlt]at hqn
     rw[htk qn hqn]at hq0
     have hu9:=s9 _ _ (s7 _ _ hu6)
     refine⟨.inl ⟨rfl,_,SqL.of hu9⟩,?_⟩
     show if V.int qn=V.non then _ else _
     rw[if_neg (by simp)]
     have hnsp:¬ Span p m rows fun j=>row.getD j 0:=fun z=>hq0 (hiff.mpr z qn hqn)
     refine⟨_,hu9,by rw[hT.1];lia,(hPv _ _ _).mpr ⟨((hS6.trans (s7.trans s9))).over hl00,(((hB8.mono sB).fz hF6).mono (s7.trans s9)).offl hu9,us++[.non],_,_,_,Ac,?_,fun j c hj=>?_,rfl⟩⟩
     ·rw[etk]
      refine (hT.keep fun c ys hc h=>?_).snoc (.inr ⟨hnsp,rfl⟩)
      obtain⟨j,hj⟩:=hc
      rw[AD (hne j c hj)]
      exact s9 _ _ (s7 _ _ (hF6.lst (sB _ _ h)))
     ·rcases YF hj with hj|hj
      ·exact hne j c hj
      ·cases hj
    ·have hz0:∀j:Nat,j<m->left.getD j 0=0:=fun j hj=>by rw[<-htk j hj];exact hall j s!""
     have hsp:=hiff.mp hz0
     have hu9:=s9 _ _ (s7 _ _ hu6)
     refine⟨.inl ⟨rfl,_,SqL.of hu9⟩,?_⟩
     show if V.non=V.non then _ else _
     rw[if_pos rfl]
     refine⟨q6,rfl,_,(s7.trans s9).seqT hq6,fun p8 H10 s10 hp8=>⟨⟨_,hp8⟩,?_⟩⟩
     rw[Zg,<-List.map_drop]at hp8
     obtain⟨gg,hgg⟩:∃g:V->V,∀n:Int,g (V.int n)=.int (-n%p):=⟨fun x=>match x with | .int n=>.int (-n%p)|_=>.non,fun _=>rfl⟩
     refine SE (σ':=[some (.int p)]) gg rfl hp8 (by rw[jb_,xD_];lia) (fun x hx R hR=>?_) (fun D2 hD2=>?_)
     ·obtain⟨n,hn,rfl⟩:=jv_.mp hx
      rw[hgg]at hR
      walk_at "rd"
      exact⟨by lia,hR⟩
     ·have em:((left.drop m).map V.int).map gg=((left.drop m).map fun y => -y%p).map V.int:=by
       rw[jK_,jK_]
       exact jS_ fun n _=>hgg n
      rw[em]
      have sD2:=Same.new hD2 (o:=.lst (((left.drop m).map fun y => -y%p).map V.int))
      have hu10:=sD2 _ _ (s10 _ _ hu9)
      have hDl:D2≠l:=fun z=>by rw[z,s10 _ _ hu9]at hD2;cases hD2
      have sZ:=s7.trans (s9.trans (s10.trans sD2))
      refine⟨_,hu10,by rw[hT.1];lia,(hPv _ _ _).mpr ⟨(hS6.trans sZ).over hl00,(((hB8.mono sB).fz hF6).mono sZ).offl hu10,us++[.ref D2],_,_,_,Ac,?_,fun j c hj=>?_,rfl⟩⟩
      ·rw[etk]
       refine (hT.keep fun c ys hc h=>?_).snoc (.inl ⟨hsp,D2,rfl,?_⟩)
       ·obtain⟨j,hj⟩:=hc
        rw[AD (hne j c hj)]
        exact sZ _ _ (hF6.lst (sB _ _ h))
       ·rw[AD hDl,Ac,hleft]
      ·rcases YF hj with hj|hj
       ·exact hne j c hj
       ·cases hj;exact hDl
   ·obtain⟨s8,hB8,us,o1,o2,o3,hu,hT,hne,rfl⟩:=(hPv _ _ _).mp h'
    rw[hY.1,jM_]at hT
    walk_at "rd"
    exact k l us bs _ s8 hl00 hu S hT
noncomputable def R6 (K:α3):Sp:=fun vs H Q _=>∃(L:Int) (a:Addr) (ws:α2),vs=[.int L,.ref a]/\SqT K H a (ws.map V.int)/\ws.length<=1000/\∀H',Same H H'->Q (.bl (isW L ws)) H'
theorem Zn   (F:Fun K "is_word" "is_word" GF f fd)(T:Txt mg)
  (W:Own K mg)
  (Z:Exs K mg C_j3 C_j0 C_j2 C_j1)
  : FnOk P w K mg base CX0 1 f fd ["letters","word"] (R6 K):=by
 refine F.ok Ze (fun vs H Q E h=>?_) (fun cdv A outer s H vs Q E hr h=>?_)
 ·obtain⟨L,a,ws,rfl,_⟩:=h;rfl
 ·obtain⟨L,a,ws,rfl,hw,hz,k⟩:=h
  have hl:=Au
  refine⟨_,(Ag (Ay (Az (CF_ rfl) rfl T.all PyProof.Rows.boot_all (Aa (C4 rfl (DK rfl) (cp:=O2) ⟨⟨rfl,rfl⟩,True.intro⟩ (Kf (pvD 1)) (fun _ _ _ _=>(Aw (i:=0) QL rfl (Or.inl rfl))) (fun _ _ _ _=>DI) (fun _ _ _ _=>(Cr_ Ih_ VA Ad (pvD 0) (pvD 1)))) Ab)))),?_⟩
  walk_at "rd"
  refine⟨⟨_,hw⟩,SE (σ':=[some (.int L)]) (fun x=>match x with | .int n=>.bl (inW L n)|_=>.non) rfl hw (by rw[jb_];lia) (fun x hx R hR=>?_) (fun D hD=>?_)⟩
  ·obtain⟨n,_,rfl⟩:=Lf hx
   walk_at "rd"
   by_cases h0:0<=n
   ·simp only[h0,zE_]
    simpa [inW,h0] using hR
   ·simp only[h0,xP_]
    simpa [inW,h0] using hR
  ·refine⟨D,rfl,ws.map (inW L),.inl (.inl ?_),?_⟩
   ·rw[Ac,jK_,jK_];rfl
   ·have:=k _ (Same.new hD (o:=.lst ((ws.map V.int).map fun x=>match x with | .int n=>.bl (inW L n)|_=>.non)))
    simpa [isW,List.all_map] using this
noncomputable def YG (K:α3)(BW:Addr):Sp:=fun vs H Q E=>∃(L:Int) (a:Addr) (ws:α2),vs=[.int L,.ref a]/\SqT K H a (ws.map V.int)/\ws.length<=1000/\(isW L ws=true->∀H',Same H H'->Q .non H')/\(isW L ws=false->∀H',Same H H'->E (.ref BW) none H')
theorem S4   (F:Fun K "check_word" "check_word" DM f fd)(T:Txt mg)
  (W:Own K mg)
  (Z:Exs K mg C_j3 C_j0 C_j2 C_j1)
   (Pf:FnOk P w K mg base CX0 1 Hv R7 ["letters","word"] (R6 K)) (Jo:Fun K "is_word" "is_word" GF Hv R7) (Pg:AI K R7 ["letters","word"] []) (Ph:mg "is_word"=some (.ref Hv))
  : FnOk P w K mg base (CXe P w) 2 f fd ["letters","word"] (YG K C_j2):=by
 refine F.okE SM (fun vs H Q E h=>?_) (fun cdv A outer s H vs Q E hr h=>?_)
 ·obtain⟨L,a,ws,rfl,_⟩:=h;rfl
 ·obtain⟨L,a,ws,rfl,hw,hz,k,kE⟩:=h
  have hl:=Au
  refine⟨_,(Ag (CI (Hh (ptB (Gg (Ai Pf (hr.mono (by decide)) rfl Ph Jo.kp Pg .nil AL (Aa (pvD 0) (Aa (pvD 1) Ab))))))
   (Ag (OB Z.m_j2 Z.x_j2 rfl rfl (Aa X9 Ab)))
   AZ)),?_⟩
  walk_at "rd"
  refine⟨L,a,ws,rfl,hw,hz,fun H' s'=>?_⟩
  walk_at "rd"
  cases hv:isW L ws with
  |true=>
   simp only[Bool.not_true,xT_,xP_]
   exact k hv H' s'
  |false=>
   simp only[Bool.not_false,zE_]
   exact⟨by lia,kE hv H' s'⟩
noncomputable def Tabs (K:α3)(H:Hp)(tt:Addr)(tables:α0):Prop:=∃us:List Addr,SqT K H tt (us.map V.ref)/\us.length=tables.length/\∀(i:Nat) (u:Addr) (tb:α1),us[i]?=some u->tables[i]?=some tb->∃xs,SqT K H u xs/\Ba K H xs tb
theorem Tabs.mono {K:α3}    (h:Tabs K H tt tables)(s:Same H H'):Tabs K H' tt tables:=by
 obtain⟨us,a,b,c⟩:=h
 refine⟨us,s.seqT a,b,fun i u tb h1 h2=>?_⟩
 obtain⟨xs,d,e⟩:=c i u tb h1 h2
 exact⟨xs,s.seqT d,e.mono s⟩
noncomputable def SumH (K:α3)(H:Hp)(h:Addr)(p:Int)(L:Int)(first:α2)(tables:α0)(last:α2):Prop:=∃tf tt tl:Addr,SqT K H h [.int p,.int L,.ref tf,.ref tt,.ref tl]/\SqT K H tf (first.map V.int)/\SqT K H tl (last.map V.int)/\Tabs K H tt tables
theorem SumH.mono {K:α3}      (x:SumH K H h p L first tables last)(s:Same H H'):SumH K H' h p L first tables last:=by
 obtain⟨tf,tt,tl,a,b,c,d⟩:=x
 exact⟨tf,tt,tl,s.seqT a,s.seqT b,s.seqT c,d.mono s⟩
structure WfSum (p L:Int)(d:Nat)(first:α2)(tables:α0)(last:α2):Prop where
 p2:2<=p
 p18:p<1000000000000000000
 dl:d<=40
 f:first.length=d/\∀x∈first,0<=x/\x<p
 l:last.length=d/\∀x∈last,0<=x/\x<p
 t:(tables.length:Int)=L
 tt:∀tb∈tables,tb.length=d/\∀r∈tb,r.length=d
noncomputable def FW (p:Int)(d:Nat)(tables:α0)(row:α2)(x:Int):α2:=DF p (tables.getD x.toNat []) row d
noncomputable def rowS (p:Int)(d:Nat)(tables:α0)(first ws:α2):α2:=ws.foldl (FW p d tables) first
theorem Df_  (hp:0<p)    : ∀x∈DF p rows am n,0<=x/\x<p:=fun x hx=>by
 obtain⟨c,_,rfl⟩:=jv_.mp hx
 exact⟨jJ_ _ s!"",jE_ _ hp⟩
theorem Lr (p:Int)(rows:α1)(am:α2)(n:Nat):(DF p rows am n).length=n:=by unfold DF;rw[jb_,jU_]
theorem WfSum.row     (wf:WfSum p L d first tables last)(ws:α2):(rowS p d tables first ws).length=d/\∀x∈rowS p d tables first ws,0<=x/\x<p:=by
 have h2:=wf.p2
 have key:∀(ws r:α2),(r.length=d/\∀x∈r,0<=x/\x<p)->((ws.foldl (FW p d tables) r).length=d/\∀x∈ws.foldl (FW p d tables) r,0<=x/\x<p):=fun ws=>by
  induction ws with
  |nil=>exact fun r h=>h
  |cons y ws ih=>exact fun r _=>ih _ ⟨Lr _ _ _ _,Df_ s!""⟩
 exact key ws first wf.f
theorem V8 {p:Int}{d:Nat}{tables:α0}{first ws:α2}{i:Nat}{x:Int}(h:ws[i]?=some x):rowS p d tables first (ws.take (i+1))=FW p d tables (rowS p d tables first (ws.take i)) x:=by
 unfold rowS
 rw[qb_,h,Option.toList_some,qE_];rfl
theorem WfSum.table     (wf:WfSum p L d first tables last)  (x0:0<=x)(x1:x<L):tables[x.toNat]?=some (tables.getD x.toNat [])/\(tables.getD x.toNat []).length=d/\∀r∈tables.getD x.toNat [],r.length=d:=by
 have hx:x.toNat<tables.length:=by have:=wf.t;lia
 have e:tables.getD x.toNat []=tables[x.toNat]:=by rw[ja_,jc_ hx];rfl
 rw[e]
 exact⟨by rw[jc_ hx],wf.tt _ (jD_ hx)⟩
theorem Tabs.at {K:α3}{H:Hp}{tt:Addr}{tables:α0}(h:Tabs K H tt tables){i:Nat}{tb:α1}(ht:tables[i]?=some tb):∃zs u xs,SqT K H tt zs/\atI zs (i:Int)=some (V.ref u)/\SqT K H u xs/\Ba K H xs tb:=by
 obtain⟨us,a,b,c⟩:=h
 have hi:i<us.length:=by rw[b];exact (jd_.mp ht).1
 have hu:us[i]?=some us[i]:=by simp[hi]
 obtain⟨xs,d,e⟩:=c i _ tb hu ht
 exact⟨_,us[i],xs,a,AY (by rw[jh_,hu];rfl),d,e⟩
noncomputable def J8 (K:α3):Sp:=fun vs H Q _=>∃(h r:Addr) (p L x:Int) (d:Nat) (first last row:α2) (tables:α0),vs=[.ref h,.ref r,.int x]/\SumH K H h p L first tables last/\WfSum p L d first tables last/\SqT K H r (row.map V.int)/\row.length=d/\(∀y∈row,0<=y/\y<p)/\0<=x/\x<L/\∀q H',Same H H'->H' q=some (.tup ((FW p d tables row x).map V.int))->Q (.ref q) H'
theorem Zo   (F:Fun K "stepped" "stepped" EX f fd)(T:Txt mg)
  (W:Own K mg)
  (Z:Exs K mg C_j3 C_j0 C_j2 C_j1)
   (Pj:FnOk P w K mg base CX0 2 Hw R8 ["p","rows","parts","size"] (R3 K)) (Jp:Fun K "made_of" "made_of" GD Hw R8) (Pk:AI K R8 ["p","rows","parts","size"] []) (Pl:mg "made_of"=some (.ref Hw))
  : FnOk P w K mg base CX0 3 f fd ["house","row","letter"] (J8 K):=by
 refine F.ok Zf (fun vs H Q E h=>?_) (fun cdv A outer s H vs Q E hr h=>?_)
 ·obtain⟨h,r,p,L,x,d,first,last,row,tables,rfl,_⟩:=h;rfl
 ·obtain⟨h,r,p,L,x,d,first,last,row,tables,rfl,hh,wf,hrr,hrl,hri,x0,x1,k⟩:=h
  have h2:=wf.p2
  have h18:=wf.p18
  have hd:=wf.dl
  refine⟨_,(Ag (Ay (Ai Pj (hr.mono (by decide)) rfl Pl Jp.kp Pk .nil AL (Aa (Aj (ixTD Am) (pvD 0) Ad) (Aa (Aj (ixTD Am) (Aj (ixTD Am) (pvD 0) Ad) (pvD 2)) (Aa (pvD 1) (Aa (Az (lenD Ao) (by rfl) T.len jH_ (Aa (pvD 1) Ab)) Ab))))))),?_⟩
  obtain⟨tf,tt,tl,e1,e2,e3,e4⟩:=id hh
  obtain⟨t1,t2,t3⟩:=wf.table x0 x1
  obtain⟨zs,u,xs,z1,z2,z3,z4⟩:=e4.at t1
  rw[q6_ x0]at z2
  walk_at "rd"
  refine⟨_,e1,_,rfl,_,e1,_,rfl,?_⟩
  walk_at "rd"
  exact⟨_,z1,_,z2,_,.inr hrr,p,true,true,u,r,xs,tables.getD x.toNat [],row,d,by rw[jb_,hrl],by lia,z3,z4,t3,hrr,by rw[t2];exact hrl,by lia,by lia,(fun y hy=>by have:=hri y hy;lia),fun q H' s' hq=>k q H' s' hq⟩
noncomputable def Ls (K:α3)(BW:Addr):Sp:=fun vs H Q E=>∃(h a:Addr) (p L:Int) (d:Nat) (first last ws:α2) (tables:α0),vs=[.ref h,.ref a]/\SumH K H h p L first tables last/\WfSum p L d first tables last/\SqT K H a (ws.map V.int)/\ws.length<=600/\(isW L ws=true->∀(q t:Addr) (xs:List V) (H':Hp),Same H H'->H' q=some (.lst (xs++[V.ref t]))->SqT K H' t ((rowS p d tables first ws).map V.int)->Q (.ref q) H')/\(isW L ws=false->∀H',Same H H'->E (.ref BW) none H')
theorem S5   (F:Fun K "rows_along" "rows_along" DQ f fd)(T:Txt mg)
  (W:Own K mg)
  (Z:Exs K mg C_j3 C_j0 C_j2 C_j1)
   (Jq:FnOk P w K mg base (CXe P w) 2 EA Lu ["letters","word"] (YG K C_j2)) (FX:Fun K "check_word" "check_word" DM EA Lu) (Jr:AI K Lu ["letters","word"] []) (Js:mg "check_word"=some (.ref EA))
   (E8:FnOk P w K mg base CX0 3 Dn EB ["house","row","letter"] (J8 K)) (DZ:Fun K "stepped" "stepped" EX Dn EB) (E9:AI K EB ["house","row","letter"] []) (Fb:mg "stepped"=some (.ref Dn))
  : FnOk P w K mg base (CXe P w) 4 f fd ["house","word"] (Ls K C_j2):=by
 refine F.okE HY (fun vs H Q E h=>?_) (fun cdv A outer s H vs Q E hr h=>?_)
 ·obtain⟨h,a,p,L,d,first,last,ws,tables,rfl,_⟩:=h;rfl
 ·obtain⟨h,a,p,L,d,first,last,ws,tables,rfl,hh,wf,hw,hz,k,kE⟩:=h
  have hl:=Au
  refine⟨_,(Ae (CH (Ai Jq (hr.mono (by decide)) rfl Js FX.kp Jr .nil (VO fun _ _ _ h=>h) (Aa (Aj (ixTD Am) (pvD 0) Ad) (Aa (pvD 1) Ab))))
   (PSs.nox (Ae (Ah (i:=2) HY.nd (Ex (Aa (Aj (ixTD Am) (pvD 0) Ad) Ab)))
   (Ae (Cg jF_ rfl (Kf (pvD 1)) (Aw (i:=3) HY.nd rfl (Or.inl rfl))
   (Ag (CH (Lc jQ_ jN_ jO_ Ci (pvD 2) (Aa (Ai E8 (hr.mono (by decide)) rfl Fb DZ.kp E9 .nil AL (Aa (pvD 0) (Aa (Aj (ixLD BM) (pvD 2) (Y0 RO Ad)) (Aa (pvD 3) Ab)))) Ab)))))
   (Ag (Ay (pvD 2))))))),?_⟩
  obtain⟨tf,tt,tl,e1,e2,e3,e4⟩:=id hh
  walk_at "rd"
  refine⟨_,e1,_,rfl,L,a,ws,rfl,hw,by lia,fun hv H1 s1=>?_,kE⟩
  walk_at "rd"
  refine⟨_,s1.seqT e1,_,rfl,by lia,fun q hq=>?_⟩
  have s0:=Same.new hq (o:=.lst [V.ref tf])
  refine⟨⟨_,(s1.trans s0).seqT hw⟩,?_⟩
  obtain⟨Pv,hPv⟩:∃Pv:Nat->St->Hp->Prop,∀i σ' H',Pv i σ' H'↔(∃(xs:List V) (t:Addr) (o:Option V),Same H1 H'/\H' q=some (.lst (xs++[V.ref t]))/\xs.length=i/\SqT K H' t ((rowS p d tables first (ws.take i)).map V.int)/\σ'=[some (.ref h),some (.ref a),some (.ref q),o]):=⟨_,fun _ _ _=>qf_⟩
  refine forT (xs:=ws.map V.int) Pv ((hPv _ _ _).mpr ⟨[],tf,none,s0,Ac,rfl,(s1.trans s0).seqT e2,rfl⟩) (fun i σ' H' _ h'=>by obtain⟨_,_,_,s',_⟩:=(hPv _ _ _).mp h';exact (s1.trans s').seqT hw) (fun i x σ' H' hx h'=>?_) (fun σ' H' h'=>?_)
  ·obtain⟨xs,t,o,s2,hq2,hxl,ht,rfl⟩:=(hPv _ _ _).mp h'
   obtain⟨n,hn,rfl⟩:=J5 hx
   have hi:=(jd_.mp hn).1
   have hnr:=Bo.mp hv n (jj_ hn)
   obtain⟨r1,r2⟩:=wf.row (ws.take i)
   walk_at "rd"
   refine⟨.inl ⟨rfl,_,SqL.of hq2⟩,_,SqL.of hq2,_,Bj_ (v:=V.ref t) (by simp),h,t,p,L,n,d,first,last,_,tables,rfl,hh.mono (s1.trans s2),wf,ht,r1,r2,hnr.1,hnr.2,fun q3 H3 s3 hq3=>?_⟩
   refine⟨_,s3 _ _ hq2,by simp;lia,(hPv _ _ _).mpr ⟨xs++[V.ref t],q3,_,(s2.trans s3).over hq,Ac,by simp[hxl],?_,rfl⟩⟩
   rw[V8 hn]
   exact AV (s3 _ _ hq2) (SqT.of hq3)
  ·obtain⟨xs,t,o,s2,hq2,hxl,ht,rfl⟩:=(hPv _ _ _).mp h'
   rw[jb_,jM_]at ht
   walk_at "rd"
   exact k hv q t xs _ (s1.trans s2) hq2 ht
noncomputable def Lv (K:α3)(BW:Addr):Sp:=fun vs H Q E=>∃(h a:Addr) (p L:Int) (d:Nat) (first last ws:α2) (tables:α0),vs=[.ref h,.ref a]/\SumH K H h p L first tables last/\WfSum p L d first tables last/\SqT K H a (ws.map V.int)/\ws.length<=600/\(isW L ws=true->∀(t:Addr) (H':Hp),Same H H'->SqT K H' t ((rowS p d tables first ws).map V.int)->Q (.ref t) H')/\(isW L ws=false->∀H',Same H H'->E (.ref BW) none H')
theorem S6   (F:Fun K "row_behind" "row_behind" DR f fd)(T:Txt mg)
  (W:Own K mg)
  (Z:Exs K mg C_j3 C_j0 C_j2 C_j1)
   (Jt:FnOk P w K mg base (CXe P w) 4 EC Lw ["house","word"] (Ls K C_j2)) (FY:Fun K "rows_along" "rows_along" DQ EC Lw) (Ju:AI K Lw ["house","word"] []) (Jv:mg "rows_along"=some (.ref EC))
  : FnOk P w K mg base (CXe P w) 5 f fd ["house","word"] (Lv K C_j2):=by
 refine F.okE SR (fun vs H Q E h=>?_) (fun cdv A outer s H vs Q E hr h=>?_)
 ·obtain⟨h,a,p,L,d,first,last,ws,tables,rfl,_⟩:=h;rfl
 ·obtain⟨h,a,p,L,d,first,last,ws,tables,rfl,hh,wf,hw,hz,k,kE⟩:=h
  refine⟨_,(Ag (Ay (Aj (ixLD BM) (Ai Jt (hr.mono (by decide)) rfl Jv FY.kp Ju .nil (VO fun _ _ _ h=>h) (Aa (pvD 0) (Aa (pvD 1) Ab))) (Y0 RO Ad)))),?_⟩
  walk_at "rd"
  refine⟨h,a,p,L,d,first,last,ws,tables,rfl,hh,wf,hw,hz,fun hv q t xs H1 s1 hq ht=>?_,kE⟩
  walk_at "rd"
  exact⟨_,SqL.of hq,_,Bj_ (v:=V.ref t) (by simp),k hv t _ s1 ht⟩
noncomputable def YH (K:α3)(BW:Addr):Sp:=fun vs H Q E=>∃(h a:Addr) (p L:Int) (d:Nat) (first last ws:α2) (tables:α0),vs=[.ref h,.ref a]/\SumH K H h p L first tables last/\WfSum p L d first tables last/\SqT K H a (ws.map V.int)/\ws.length<=600/\(isW L ws=true->∀H',Same H H'->Q (.int (dotW last (rowS p d tables first ws)%p)) H')/\(isW L ws=false->∀H',Same H H'->E (.ref BW) none H')
theorem Dg_   (F:Fun K "worth" "worth" KO f fd)(T:Txt mg)
  (W:Own K mg)
  (Z:Exs K mg C_j3 C_j0 C_j2 C_j1)
   (Ho:FnOk P w K mg base CX0 1 E3 Hq ["p","row","other"] (ME K)) (FT:Fun K "product" "product" FP E3 Hq) (Hr:AI K Hq ["p","row","other"] []) (Ht:mg "product"=some (.ref E3))
   (Jw:FnOk P w K mg base (CXe P w) 5 ED Lx ["house","word"] (Lv K C_j2)) (FZ:Fun K "row_behind" "row_behind" DR ED Lx) (Jx:AI K Lx ["house","word"] []) (Jy:mg "row_behind"=some (.ref ED))
  : FnOk P w K mg base (CXe P w) 6 f fd ["house","word"] (YH K C_j2):=by
 refine F.okE Da_ (fun vs H Q E h=>?_) (fun cdv A outer s H vs Q E hr h=>?_)
 ·obtain⟨h,a,p,L,d,first,last,ws,tables,rfl,_⟩:=h;rfl
 ·obtain⟨h,a,p,L,d,first,last,ws,tables,rfl,hh,wf,hw,hz,k,kE⟩:=h
  have h2:=wf.p2
  have h18:=wf.p18
  have hd:=wf.dl
  have hl':=wf.l
  refine⟨_,(Ag (Ay (Ai Ho (hr.mono (by decide)) rfl Ht FT.kp Hr .nil AL (Aa (Aj (ixTD Am) (pvD 0) Ad) (Aa (Aj (ixTD Am) (pvD 0) Ad) (Aa (Ai Jw (hr.mono (by decide)) rfl Jy FZ.kp Jx .nil (VO fun _ _ _ h=>h) (Aa (pvD 0) (Aa (pvD 1) Ab))) Ab)))))),?_⟩
  obtain⟨tf,tt,tl,e1,e2,e3,e4⟩:=id hh
  obtain⟨r1,r2⟩:=wf.row ws
  walk_at "rd"
  refine⟨_,e1,_,rfl,_,e1,_,rfl,h,a,p,L,d,first,last,ws,tables,rfl,hh,wf,hw,hz,fun hv t H1 s1 ht=>?_,kE⟩
  walk_at "rd"
  exact⟨p,true,true,tl,t,last,_,rfl,by lia,s1.seqT e3,ht,by rw[r1];exact hl'.1,by lia,(fun x hx=>by have:=hl'.2 x hx;lia),fun H2 s2=>k hv _ (s1.trans s2)⟩
noncomputable def QM (d:Nat)(tables:α0)(row:α2)(x:Int):α2:=(List.range d).map fun c=>dotW row (colW (tables.getD x.toNat []) c)
noncomputable def rowI (d:Nat)(tables:α0)(first ws:α2):α2:=ws.foldl (QM d tables) first
theorem Dh_      (ht:cgT p (t.getD x.toNat []) (t'.getD x.toNat []))(hr:cg p r r'):cg p (FW p d t r x) (QM d t' r' x):=by
 unfold FW DF QM
 refine cg.map fun c _=>?_
 rw[jT_ _ (qx_ p)]
 exact hr.dot (ht.col c)
theorem S7 {p:Int}{d:Nat}{t t':α0}(ht:∀i:Nat,cgT p (t.getD i []) (t'.getD i [])):∀(ws:α2) {r r':α2},cg p r r'->cg p (rowS p d t r ws) (rowI d t' r' ws)
 |[],r,r',h=>h
 |x::ws,r,r',h=>S7 ht ws (Dh_ (ht _) h)
theorem Pm     : (QM d t r x).length=d:=by unfold QM;simp
theorem YI {d:Nat}{t:α0}:∀(ws:α2) {r:α2},r.length=d->(rowI d t r ws).length=d
 |[],r,h=>h
 |x::ws,r,h=>YI ws Pm
noncomputable def Lz (d1 d2:Nat)(a b:α1):α1:=a.map (· ++ List.replicate d2 0)++b.map (List.replicate d1 0 ++ ·)
theorem BT_   (ha:∀r∈a,r.length=d1)(hc:c<d1):colW (Lz d1 d2 a b) c=colW a c++List.replicate b.length 0:=by
 unfold colW Lz
 rw[ji_,jK_,jK_]
 congr 1
 ·refine jS_ fun r hr=>?_
  show (r++List.replicate d2 0).getD c 0=r.getD c 0
  rw[ja_,jn_ (by rw[ha r hr];exact hc),<-ja_]
 ·refine qC_ fun i=>?_
  by_cases hi:i<b.length
  ·rw[jh_,jc_ hi,j8_,if_pos hi]
   show some ((List.replicate d1 0++b[i]).getD c 0)=some 0
   rw[ja_,jn_ (by simpa using hc),j8_,if_pos hc];rfl
  ·rw[ju_ (by simp;lia),ju_ (by simp;lia)]
theorem BU_   (ha:∀r∈a,r.length=d1):colW (Lz d1 d2 a b) (d1+c)=List.replicate a.length 0++colW b c:=by
 unfold colW Lz
 rw[ji_,jK_,jK_]
 congr 1
 ·refine qC_ fun i=>?_
  by_cases hi:i<a.length
  ·rw[jh_,jc_ hi,j8_,if_pos hi]
   show some ((a[i]++List.replicate d2 0).getD (d1+c) 0)=some 0
   rw[ja_,jq_ (by rw[ha _ (jD_ hi)];lia),j8_]
   split<;>rfl
  ·rw[ju_ (by simp;lia),ju_ (by simp;lia)]
 ·refine jS_ fun r hr=>?_
  show (List.replicate d1 0++r).getD (d1+c) 0=r.getD c 0
  rw[ja_,jq_ (by simp),qa_,Nat.add_sub_cancel_left,<-ja_]
theorem range_add (a b:Nat)(f:Nat->Int):(List.range (a+b)).map f=(List.range a).map f++(List.range b).map (fun c=>f (a+c)):=by
 rw[List.range_add,ji_,jK_];rfl
structure Dim (d:Nat)(tb:α1):Prop where
 n:tb.length=d
 r:∀r∈tb,r.length=d
theorem BV_    (hT:T.getD x.toNat []=Lz d1 d2 (t1.getD x.toNat []) (t2.getD x.toNat []))(h1:Dim d1 (t1.getD x.toNat []))(h2:Dim d2 (t2.getD x.toNat []))  (l1:r1.length=d1)(l2:r2.length=d2):
  QM (d1+d2) T (r1++r2) x=QM d1 t1 r1 x++QM d2 t2 r2 x:=by
 unfold QM
 rw[range_add,hT]
 congr 1
 ·refine jS_ fun c hc=>?_
  rw[BT_ h1.r (j9_.mp hc),Jk _ _ _ _ (by unfold colW;rw[jb_,l1,h1.n]),E1];lia
 ·refine jS_ fun c hc=>?_
  rw[BU_ h1.r,Jk _ _ _ _ (by rw[qa_,l1,h1.n]),E1];lia
theorem YJ {L d1 d2:Nat}{T t1 t2:α0}(hT:∀i:Nat,i<L->T.getD i []=Lz d1 d2 (t1.getD i []) (t2.getD i []))(h1:∀i:Nat,i<L->Dim d1 (t1.getD i []))(h2:∀i:Nat,i<L->Dim d2 (t2.getD i [])):
  ∀(ws:α2) {r1 r2:α2},(∀x∈ws,0<=x/\x<L)->r1.length=d1->r2.length=d2->rowI (d1+d2) T (r1++r2) ws=rowI d1 t1 r1 ws++rowI d2 t2 r2 ws
 |[],r1,r2,_,_,_=>rfl
 |x::ws,r1,r2,hw,l1,l2=>by
  have hx:=hw x (jC_ ..)
  show rowI (d1+d2) T (QM (d1+d2) T (r1++r2) x) ws=_
  rw[BV_ (hT _ s!"") (h1 _ s!"") (h2 _ s!"") l1 l2]
  exact YJ hT h1 h2 ws (fun y hy=>hw y (jt_ _ hy)) Pm Pm
noncomputable def ES_ (BH:Addr):Sp:=fun vs H Q E=>∃n:Nat,vs=[.int n]/\(decide (n<=16)=true->Q .non H)/\(decide (n<=16)=false->E (.ref BH) none H)
theorem S8   (F:Fun K "check_size" "check_size" DO f fd)(T:Txt mg)
  (W:Own K mg)
  (Z:Exs K mg C_j3 C_j0 C_j2 C_j1)
  : FnOk P w K mg base (CXe P w) 1 f fd ["size"] (ES_ C_j0):=by
 refine F.okE SN (fun vs H Q E h=>?_) (fun cdv A outer s H vs Q E hr h=>?_)
 ·obtain⟨n,rfl,_⟩:=h;rfl
 ·obtain⟨n,rfl,k,kE⟩:=h
  have hl:=Au
  refine⟨_,(Ag (CI (ptT (AK (opD0 Fg_) (pvD 0) (Im_ rfl W.q_j1j) (AQ _)))
   (Ag (OB Z.m_j0 Z.x_j0 rfl rfl (Aa X9 Ab)))
   AZ)),?_⟩
  walk_at "rd"
  by_cases h1:n<=16
  ·rw[if_neg s!""];exact k (by simp[h1])
  ·rw[if_pos s!""];exact⟨by lia,kE (by simp[h1])⟩
theorem R9 {K:α3}         (f:α2->α2)(e:cp.st σ=none::σ')(hu:SqT K H u xs)(hX:Ba K H xs a)(hz:a.length<=1000)
  (hs:∀r∈a,∀t H2 (R:VK),Same H H2->SqT K H2 t (r.map V.int)->(∀q H3,Same H2 H3->SqT K H3 q ((f r).map V.int)->R (.ref q) H3)->te (some (.ref t)::σ') H2 R)
  (hd:∀zs H2 D,Same H H2->H2 D=none->Ba K H2 zs (a.map f)->Q (.ref D) (upd H2 D (.lst zs))):(∃xs,SqT K H u xs)/\Kc (Itt K u) cp (IZ 0) OQ te σ H Q:=by
 have hl:=Au
 have hxl:=hX.1
 refine⟨⟨_,hu⟩,CG_ (xs:=xs) (fun i ys σ2 H2=>Same H H2/\Ba K H2 ys ((a.take i).map f)/\∃o,σ2=o::σ') ⟨Same.refl _,by rw[List.take_zero];exact Ba.nil,none,e⟩ s!"" (fun i ys σ2 H2 hi h=>⟨h.1.seqT hu,by rw[h.2.1.1,jb_,jR_];lia⟩) (fun i x ys σ2 H2 hx h=>?_) (fun ys σ2 H2 h D hD=>?_)⟩
 ·obtain⟨s,hY,o,rfl⟩:=h
  have hi:i<a.length:=by rw[<-hxl];exact (jd_.mp hx).1
  have hai:a[i]?=some a[i]:=by simp[hi]
  obtain⟨t,e1,e2⟩:=hX.2 i _ hai
  rw[hx]at e1
  cases e1
  refine hs a[i] (jD_ hi) t H2 _ s (s.seqT e2) fun q H3 s3 hq=>⟨s.trans s3,?_,_,rfl⟩
  rw[qb_,hai,ji_]
  exact (hY.mono s3).snoc hq
 ·obtain⟨s,hY,_⟩:=h
  rw[hxl,jM_]at hY
  exact hd ys H2 D s hD hY
noncomputable def XA (K:α3)(BH:Addr):Sp:=fun vs H Q E=>∃(h g:Addr) (p q L M:Int) (f1 f2 l1 l2:α2) (t1 t2:α0),vs=[.ref h,.ref g]/\SumH K H h p L f1 t1 l1/\SumH K H g q M f2 t2 l2/\(p=q/\L=M->∀H',Same H H'->Q .non H')/\(¬ (p=q/\L=M)->∀H',Same H H'->E (.ref BH) none H')
theorem N1   (F:Fun K "check_as_many" "check_as_many" BA f fd)(T:Txt mg)
  (W:Own K mg)
  (Z:Exs K mg C_j3 C_j0 C_j2 C_j1)
  : FnOk P w K mg base (CXe P w) 1 f fd ["house","other"] (XA K C_j0):=by
 refine F.okE NX (fun vs H Q E h=>?_) (fun cdv A outer s H vs Q E hr h=>?_)
 ·obtain⟨h,g,p,q,L,M,f1,f2,l1,l2,t1,t2,rfl,_⟩:=h;rfl
 ·obtain⟨h,g,p,q,L,M,f1,f2,l1,l2,t1,t2,rfl,⟨a1,a2,a3,x1,x2,x3,x4⟩,⟨b1,b2,b3,y1,y2,y3,y4⟩,k,kE⟩:=h
  have hl:=Au
  refine⟨_,(Ag (CI (ptT (AK (Yn 8 (hu9 hr)) (Ea GA (pvD 0) Ft (Fu Ad)) (Ea GA (pvD 1) Ft (Fu Ad)) (AQ _)))
   (Ag (OB Z.m_j0 Z.x_j0 rfl rfl (Aa X9 Ab)))
   AZ)),?_⟩
  walk_at "rd"
  have cut2:∀(a b c d e:V),cutV [a,b,c,d,e] none (some 2)=[a,b]:=fun _ _ _ _ _=>rfl
  refine⟨_,x1,fun c1 H1 s1 hc1=>⟨_,s1.seqT y1,fun c2 H2 s2 hc2=>?_⟩⟩
  rw[cut2]at hc1 hc2
  refine⟨_,EqD.ints (xs:=[p,L]) (ys:=[q,M]) (.inr ⟨s2.seqT hc1,hc2⟩) 7,?_⟩
  by_cases hq:p=q/\L=M
  ·rw[qg_ (by rw[hq.1,hq.2]),if_neg (by decide)]
   exact k hq _ (s1.trans s2)
  ·rw[qj_ (fun z=>hq (by injection z with z1 z2;injection z2 with z2 _;exact⟨z1,z2⟩)),if_pos (by decide)]
   exact⟨by lia,kE hq _ (s1.trans s2)⟩
theorem Ba.app66 {K:α3}    (h:Ba K H xs a)(g:Ba K H ys b):Ba K H (xs++ys) (a++b):=by
 refine⟨by rw[jk_,jk_,h.1,g.1],fun i r hi=>?_⟩
 by_cases hl:i<a.length
 ·rw[jn_ hl]at hi
  rw[jn_ (by rw[h.1];exact hl)]
  exact h.2 i r hi
 ·rw[jq_ s!""]at hi
  rw[jq_ (by rw[h.1];lia),h.1]
  exact g.2 _ r hi
theorem YK (n:Nat):(List.replicate n [V.int 0]).flatten=(List.replicate n (0:Int)).map V.int:=by
 induction n with
 |zero=>rfl
 |succ n ih=>rw[qe_,q3_,ih,qe_];rfl
noncomputable def YL (K:α3):Sp:=fun vs H Q _=>∃(u v:Addr) (xs ys:List V) (a b:α1) (d e:Nat),vs=[.ref u,.ref v]/\SqT K H u xs/\Ba K H xs a/\SqT K H v ys/\Ba K H ys b/\Dim d a/\Dim e b/\d<=40/\e<=40/\∀q zs H',Same H H'->H' q=some (.tup zs)->Ba K H' zs (Lz d e a b)->Q (.ref q) H'
theorem S9   (F:Fun K "table_less" "table_less" DS f fd)(T:Txt mg)
  (W:Own K mg)
  (Z:Exs K mg C_j3 C_j0 C_j2 C_j1)
  : FnOk P w K mg base CX0 1 f fd ["table","other"] (YL K):=by
 refine F.ok HZ (fun vs H Q E h=>?_) (fun cdv A outer s H vs Q E hr h=>?_)
 ·obtain⟨u,v,xs,ys,a,b,d,e,rfl,_⟩:=h;rfl
 ·obtain⟨u,v,xs,ys,a,b,d,e,rfl,hu,hX,hv,hY,da,db,hd,he,k⟩:=h
  have hl:=Au
  have hxl:=hX.1
  have hyl:=hY.1
  have hdn:=da.n
  have hen:=db.n
  refine⟨_,(Ae (OI (i:=2) HZ.nd rfl (Or.inr rfl) (Al Jc (A4 (Aa Ad Ab)) (Az (lenD Ao) (by rfl) T.len jH_ (Aa (pvD 0) Ab))))
   (Ae (OI (i:=3) HZ.nd rfl (Or.inr rfl) (Al Jc (A4 (Aa Ad Ab)) (Az (lenD Ao) (by rfl) T.len jH_ (Aa (pvD 1) Ab))))
   (Ag (Ay (AR AJ rfl T.tuple jz_ (Aa (Al VI (C4 rfl (DK rfl) (cp:=Kk) ⟨⟨rfl,rfl⟩,True.intro⟩ (Kf (pvD 0)) (fun _ _ _ _=>(Aw (i:=0) Mt rfl (Or.inl rfl))) (fun _ _ _ _=>DI) (fun _ _ _ _=>(Al (Jf (K:=K) rfl) (pvD 0) (pvD 1)))) (C4 rfl (DK rfl) (cp:=Kl) ⟨⟨rfl,rfl⟩,True.intro⟩ (Kf (pvD 1)) (fun _ _ _ _=>(Aw (i:=0) Mu rfl (Or.inl rfl))) (fun _ _ _ _=>DI) (fun _ _ _ _=>(Al (Jf (K:=K) rfl) (pvD 1) (pvD 0))))) Ab)))))),?_⟩
  walk_at "rd"
  refine⟨by lia,fun p0 hp0=>?_⟩
  have sp:=Same.new hp0 (o:=.tup [V.int 0])
  refine⟨_,.inr (sp.seqT hu),OT.of (SqT.of Ac) (by simp) s!"" s!"" (by simp;lia) fun pl H1 s1 hl1=>⟨by lia,fun p1 hp1=>?_⟩⟩
  rw[hxl,hdn,jA_,YK]at hl1
  have s01:=sp.trans s1
  have sp1:=Same.new hp1 (o:=.tup [V.int 0])
  refine⟨_,.inr ((s01.trans sp1).seqT hv),OT.of (SqT.of Ac) (by simp) s!"" s!"" (by simp;lia) fun pr H2 s2 hr2=>?_⟩
  rw[hyl,hen,jA_,YK]at hr2
  have s12:=sp1.trans s2
  have s02:=s01.trans s12
  have hl2:=s12.seqT hl1
  refine R9 (σ':=[some (.ref pr)]) (fun r=>r++List.replicate e 0) rfl (s02.seqT hu) (hX.mono s02) s!"" (fun r hr t H3 R s3 ht hR=>?_) (fun zs H3 D s3 hD hZ=>?_)
  ·walk_at "rd"
   have:=da.r r hr
   refine CF.of ht (s3.seqT hr2) (by simp;lia) fun q H4 s4 hq=>hR q H4 s4 ?_
   rw[ji_];exact hq
  have sD:=s3.newT hD (o:=.lst zs)
  have hDD:upd H3 D (.lst zs) D=some (.lst zs):=Ac
  have hZD:=hZ.mono (Same.new hD (o:=.lst zs))
  generalize upd H3 D (.lst zs)=H4 at sD hDD hZD ⊢
  have s04:=s02.trans sD
  refine R9 (σ':=[some (.ref pl)]) (fun r=>List.replicate d 0++r) rfl (s04.seqT hv) (hY.mono s04) s!"" (fun r hr t H5 R s5 ht hR=>?_) (fun us H5 D5 s5 hD5 hU=>?_)
  ·walk_at "rd"
   have:=db.r r hr
   refine CF.of ((sD.trans s5).seqT hl2) ht (by simp;lia) fun q H6 s6 hq=>hR q H6 s6 ?_
   rw[ji_];exact hq
  have hzl:=hZD.1
  have hul:=hU.1
  rw[jb_]at hzl hul
  refine⟨D,rfl,D5,rfl,_,Same.new hD5 _ _ (s5 _ _ hDD),_,Ac,by lia,fun pz hpz=>⟨_,.inl ⟨SqL.of Ac,fun q hq=>?_⟩⟩⟩
  have sE:=((Same.new hD5 (o:=.lst us)).newT hpz (o:=.lst (zs++us))).newT hq (o:=.tup (zs++us))
  refine k q _ _ (s04.trans (s5.trans sE)) Ac ?_
  unfold Lz
  exact Ba.app66 (hZD.mono (s5.trans sE)) (hU.mono sE)
noncomputable def MK (K:α3)(H:Hp)(zs:List V)(tabs:α0):Prop:=zs.length=tabs.length/\∀(i:Nat) (tb:α1),tabs[i]?=some tb->∃(u:Addr) (xs:List V),zs[i]?=some (.ref u)/\SqT K H u xs/\Ba K H xs tb
theorem MK.mono {K:α3}{H H':Hp}{zs:List V}{tabs:α0}(h:MK K H zs tabs)(s:Same H H'):MK K H' zs tabs:=⟨h.1,fun i tb hi=>by
 obtain⟨u,xs,a,b,c⟩:=h.2 i tb hi
 exact⟨u,xs,a,s.seqT b,c.mono s⟩⟩
theorem MK.nil {K:α3}  : MK K H [] []:=⟨rfl,fun i tb h=>by simp at h⟩
theorem MK.snoc {K:α3}{H:Hp}{zs:List V}{tabs:α0}(h:MK K H zs tabs){u:Addr}{xs:List V}{tb:α1}(h1:SqT K H u xs)(h2:Ba K H xs tb):MK K H (zs++[.ref u]) (tabs++[tb]):=by
 refine⟨by rw[jk_,jk_,h.1];rfl,fun i r hi=>?_⟩
 by_cases hl:i<tabs.length
 ·rw[jn_ hl]at hi
  rw[jn_ (by rw[h.1];exact hl)]
  exact h.2 i r hi
 ·have:=(jd_.mp hi).1
  rw[jk_,jZ_]at this
  have e:i=tabs.length:=by lia
  subst e
  rw[jq_ (jf_ _),qr_]at hi
  simp at hi
  subst hi
  exact⟨u,xs,by rw[<-h.1];simp,h1,h2⟩
theorem MK.tabs {K:α3}{H:Hp}{tt:Addr}{zs:List V}{tabs:α0}(h:MK K H zs tabs)(ht:SqT K H tt zs):Tabs K H tt tabs:=by
 refine⟨zs.map (fun v=>match v with | .ref t=>t|_=>0),?_,by rw[jb_];exact h.1,fun i u tb hi hr=>?_⟩
 ·have e:(zs.map (fun v=>match v with | .ref t=>t|_=>0)).map V.ref=zs:=by
   rw[jK_]
   refine qC_ fun i=>?_
   rw[jh_]
   by_cases hi:i<tabs.length
   ·obtain⟨t,_,a,_⟩:=h.2 i tabs[i] (by simp[hi])
    rw[a];rfl
   ·rw[ju_ (by rw[h.1];lia)];rfl
  rw[e];exact ht
 ·obtain⟨t',xs,a,b,c⟩:=h.2 i tb hr
  rw[jh_,a]at hi
  cases hi
  exact⟨xs,b,c⟩
theorem V9 {α:Type}(F:α->α->α){xs ys:List α}{i:Nat}{x y:α}(hx:xs[i]?=some x)(hy:ys[i]?=some y):(List.zipWith F xs ys).take (i+1)=(List.zipWith F xs ys).take i++[F x y]:=by
 rw[qb_,qN_,hx,hy];rfl
theorem Di_ {K:α3}{a b:Addr}{us vs:List Addr}{t1 t2:α0}{cp:Caps}{te:TE}{Q:VK}{σ σ':St}{H:Hp}(F:α1->α1->α1)(e:cp.st σ=none::none::σ')
  (x4:SqT K H a (us.map V.ref)) (x5:us.length=t1.length) (x6:∀(i:Nat) (u:Addr) (tb:α1),us[i]?=some u->t1[i]?=some tb->∃xs,SqT K H u xs/\Ba K H xs tb)
  (y4:SqT K H b (vs.map V.ref)) (y5:vs.length=t2.length) (y6:∀(i:Nat) (u:Addr) (tb:α1),vs[i]?=some u->t2[i]?=some tb->∃xs,SqT K H u xs/\Ba K H xs tb) (hn:t1.length=t2.length) (hz:t1.length<=1000)
  (hs:∀tb1∈t1,∀tb2∈t2,∀u v xs ys H2 (R:VK),Same H H2->SqT K H2 u xs->Ba K H2 xs tb1->SqT K H2 v ys->Ba K H2 ys tb2->(∀q zs H3,Same H2 H3->SqT K H3 q zs->Ba K H3 zs (F tb1 tb2)->R (.ref q) H3)->te (some (.ref u)::some (.ref v)::σ') H2 R)
  (hd:∀zs H2 D,Same H H2->H2 D=none->MK K H2 zs (List.zipWith F t1 t2)->Q (.ref D) (upd H2 D (.lst zs))):Kc (Itz2 K true true a b (us.map V.ref) (vs.map V.ref)) cp (gTup K 2 (YY (IZ 0) (YY (IZ 1) gNil))) OQ te σ H Q:=by
 have hl:=Au
 refine Ev_ t1.length (by rw[jb_];lia) (by rw[jb_];lia) (.inl (by rw[jb_];lia)) (fun i zs σ2 H2=>Same H H2/\MK K H2 zs ((List.zipWith F t1 t2).take i)/\∃o1 o2,σ2=o1::o2::σ') ⟨Same.refl _,MK.nil,none,none,e⟩ s!"" (fun i zs σ2 H2 hi h=>⟨h.1.seqT x4,h.1.seqT y4,by rw[h.2.1.1,jR_];lia⟩) (fun i u v zs σ2 H2 t hi hu hv h ht=>?_) (fun zs σ2 H2 h D hD=>?_)
 ·obtain⟨s,hZ,o1,o2,rfl⟩:=h
  rw[jh_]at hu hv
  cases h1:us[i]? with
  |none=>rw[h1]at hu;cases hu
  |some a1=>
   cases h2:vs[i]? with
   |none=>rw[h2]at hv;cases hv
   |some b1=>
    rw[h1]at hu
    rw[h2]at hv
    cases hu
    cases hv
    have e1:t1[i]?=some t1[i]:=by simp[hi]
    have e2:t2[i]?=some (t2[i]'s!""):=by simp[show i<t2.length by lia]
    obtain⟨xs,g1,g2⟩:=x6 i a1 _ h1 e1
    obtain⟨ys,k1,k2⟩:=y6 i b1 _ h2 e2
    have sT:=s.newT ht (o:=.tup [V.ref a1,V.ref b1])
    have hZT:=hZ.mono (Same.new ht (o:=.tup [V.ref a1,V.ref b1]))
    show gTup K 2 (YY (IZ 0) (YY (IZ 1) gNil)) (.ref t) _ _ _
    refine⟨t,_,rfl,SqT.of Ac,rfl,?_⟩
    walk_at "rd"
    refine hs _ (jj_ e1) _ (jj_ e2) a1 b1 xs ys _ _ sT (sT.seqT g1) (g2.mono sT) (sT.seqT k1) (k2.mono sT) fun q us' H3 s3 hq hr=>⟨sT.trans s3,?_,by first|exact⟨_,_,rfl⟩|exact⟨_,rfl⟩|rfl|simp⟩
    rw[V9 F e1 e2]
    exact (hZT.mono s3).snoc hq hr
 ·obtain⟨s,hZ,_⟩:=h
  rw[qm_ (by rw[xk_];lia)]at hZ
  exact hd zs H2 D s hD hZ
noncomputable def Ku (d e:Nat)(t1 t2:α0):α0:=List.zipWith (Lz d e) t1 t2
noncomputable def Pn (K:α3):Sp:=fun vs H Q _=>∃(h g:Addr) (p L:Int) (d e:Nat) (f1 f2 l1 l2:α2) (t1 t2:α0),vs=[.ref h,.ref g]/\SumH K H h p L f1 t1 l1/\SumH K H g p L f2 t2 l2/\WfSum p L d f1 t1 l1/\WfSum p L e f2 t2 l2/\L<=6/\∀q H',Same H H'->SumH K H' q p L (f1++f2) (Ku d e t1 t2) (l1++l2.map fun x => -1*x%p)->Q (.ref q) H'
theorem Zp   (F:Fun K "less_of" "less_of" FQ f fd)(T:Txt mg)
  (W:Own K mg)
  (Z:Exs K mg C_j3 C_j0 C_j2 C_j1)
   (Gk:FnOk P w K mg base CX0 1 Ep FU ["p","factor","row"] (Lp K)) (E4:Fun K "scaled" "scaled" Gi Ep FU) (Gm:AI K FU ["p","factor","row"] []) (Gn:mg "scaled"=some (.ref Ep))
   (Jz:FnOk P w K mg base CX0 1 EE LA ["table","other"] (YL K)) (F0:Fun K "table_less" "table_less" DS EE LA) (JA:AI K LA ["table","other"] []) (JC:mg "table_less"=some (.ref EE))
  : FnOk P w K mg base CX0 2 f fd ["house","other"] (Pn K):=by
 refine F.ok Ms (fun vs H Q E h=>?_) (fun cdv A outer s H vs Q E hr h=>?_)
 ·obtain⟨h,g,p,L,d,e,f1,f2,l1,l2,t1,t2,rfl,_⟩:=h;rfl
 ·obtain⟨h,g,p,L,d,e,f1,f2,l1,l2,t1,t2,rfl,⟨a1,a2,a3,x1,x2,x3,us,x4,x5,x6⟩,⟨b1,b2,b3,y1,y2,y3,vs,y4,y5,y6⟩,wf,wg,hL6,k⟩:=h
  have hl:=Au
  have hd:=wf.dl
  have he:=wg.dl
  have hp2:=wf.p2
  have ht:=wf.t
  have ht':=wg.t
  refine⟨_,(Ae (Ah (i:=2) Ms.nd (AR AJ rfl T.tuple jz_ (Aa (C4 rfl (DK rfl) (cp:=O3) True.intro (Xq rfl T.zip (Aa (Aj (ixTD Am) (pvD 0) Ad) (Aa (Aj (ixTD Am) (pvD 1) Ad) Ab))) (fun _ _ _ _=>(SJ (K:=K) (n:=2) rfl rfl (DG (Aw (i:=0) Km rfl (Or.inl rfl)) (DG (Aw (i:=1) Km rfl (Or.inl rfl)) KJ)))) (fun _ _ _ _=>DI) (fun _ _ _ _=>(Ai Jz (hr.mono (by decide)) rfl JC F0.kp JA .nil AL (Aa (pvD 0) (Aa (pvD 1) Ab))))) Ab)))
   (Ae (Ah (i:=3) Ms.nd (Al B6 (Aj (ixTD Am) (pvD 0) Ad) (Ai Gk (hr.mono (by decide)) rfl Gn E4.kp Gm .nil AL (Aa (Aj (ixTD Am) (pvD 0) Ad) (Aa (Y0 RO Ad) (Aa (Aj (ixTD Am) (pvD 1) Ad) Ab))))))
   (Ag (Ay (A4 (Aa (Aj (ixTD Am) (pvD 0) Ad) (Aa (Aj (ixTD Am) (pvD 0) Ad) (Aa (Al B6 (Aj (ixTD Am) (pvD 0) Ad) (Aj (ixTD Am) (pvD 1) Ad)) (Aa (pvD 2) (Aa (pvD 3) Ab)))))))))),?_⟩
  walk_at "rd"
  refine⟨_,x1,_,rfl,_,y1,_,rfl,?_⟩
  refine⟨a2,rfl,b2,rfl,_,_,true,x4,true,y4,Di_ (σ':=[]) (Lz d e) rfl x4 x5 x6 y4 y5 y6 s!"" s!"" (fun tb1 h1 tb2 h2 u v xs ys H2 R s2 hu hX hv hY hR=>?_) (fun zs H2 D s2 hD hZ=>?_)⟩
  ·walk_at "rd"
   have hw1:=wf.tt tb1 h1
   have hw2:=wg.tt tb2 h2
   exact⟨u,v,xs,ys,tb1,tb2,d,e,rfl,hu,hX,hv,hY,⟨hw1.1,hw1.2⟩,⟨hw2.1,hw2.2⟩,hd,he,fun q zs H3 s3 hq hr=>hR q zs H3 s3 (SqT.of hq) hr⟩
  ·refine⟨D,rfl,_,.inl ⟨SqL.of Ac,fun q hq=>?_⟩⟩
   have sD:=(Same.new hD (o:=.lst zs)).newT hq (o:=.tup zs)
   have s3:=s2.trans sD
   have hq3:upd (upd H2 D (.lst zs)) q (.tup zs) q=some (.tup zs):=Ac
   have hZ3:=hZ.mono sD
   generalize upd (upd H2 D (.lst zs)) q (.tup zs)=H3 at sD s3 hq3 hZ3 ⊢
   refine⟨_,s3.seqT x1,_,rfl,_,s3.seqT x1,_,rfl,_,s3.seqT y1,_,rfl,p,-1,true,b3,l2,rfl,by lia,⟨by decide,by decide⟩,s3.seqT y3,by have:=wg.l.1;lia,fun ql H4 s4 hql=>?_⟩
   have s34:=s3.trans s4
   have h1l:=wf.l.1
   have h2l:=wg.l.1
   refine CF.of (s34.seqT x3) (SqT.of hql) (by simp;lia) fun qc H5 s5 hqc=>?_
   have s35:=s34.trans s5
   refine⟨_,s35.seqT x1,_,rfl,_,s35.seqT x1,_,rfl,_,s35.seqT x1,_,rfl,_,s35.seqT y1,_,rfl,?_⟩
   have h1f:=wf.f.1
   have h2f:=wg.f.1
   refine CF.of (s35.seqT x2) (s35.seqT y2) (by simp;lia) fun qf H6 s6 hqf=>⟨by lia,fun qz hqz=>?_⟩
   have s6z:=Same.new hqz (o:=.tup [V.int p,V.int L,V.ref qf,V.ref q,V.ref qc])
   have s36:=(s4.trans s5).trans (s6.trans s6z)
   refine k qz _ (s3.trans s36) ⟨qf,q,qc,SqT.of Ac,?_,?_,?_⟩
   ·rw[ji_];exact s6z.seqT hqf
   ·rw[ji_];exact (s6.trans s6z).seqT hqc
   ·exact (hZ3.mono s36).tabs (s36.seqT (SqT.of hq3))
theorem Dj_ {d e:Nat}{t1 t2:α0}(F:α1->α1->α1){i:Nat}(h1:i<t1.length)(h2:i<t2.length):(List.zipWith F t1 t2).getD i []=F (t1.getD i []) (t2.getD i []):=by
 rw[ja_,qN_,ja_,ja_,jc_ h1,jc_ h2];rfl
theorem BW_   (ha:Dim d a)(hb:Dim e b):Dim (d+e) (Lz d e a b):=by
 refine⟨by unfold Lz;rw[jk_,jb_,jb_,ha.n,hb.n],fun r hr=>?_⟩
 unfold Lz at hr
 rcases jx_.mp hr with hr|hr
 ·obtain⟨s,hs,rfl⟩:=jv_.mp hr
  rw[jk_,qa_,ha.r s hs]
 ·obtain⟨s,hs,rfl⟩:=jv_.mp hr
  rw[jk_,qa_,hb.r s hs]
theorem WfSum.dim     (wf:WfSum p L d first tables last)  (hi:i<tables.length):Dim d (tables.getD i []):=by
 have e:tables.getD i []=tables[i]:=by rw[ja_,jc_ hi];rfl
 rw[e]
 have:=wf.tt _ (jD_ hi)
 exact⟨this.1,this.2⟩
theorem XB {α:Type}{F:α->α->α}{xs ys:List α}{z:α}(h:z∈List.zipWith F xs ys):∃x∈xs,∃y∈ys,z=F x y:=by
 obtain⟨i,hi⟩:=qp_.mp h
 rw[qN_]at hi
 cases hx:xs[i]? with
 |none=>rw[hx]at hi;cases hi
 |some x=>
  cases hy:ys[i]? with
  |none=>rw[hx,hy]at hi;cases hi
  |some y=>
   rw[hx,hy]at hi
   cases hi
   exact⟨x,jj_ hx,y,jj_ hy,rfl⟩
theorem FW_     (wf:WfSum p L d f1 t1 l1)(wg:WfSum p L e f2 t2 l2)(h16:d+e<=40):WfSum p L (d+e) (f1++f2) (Ku d e t1 t2) (l1++l2.map fun x => -1*x%p):=by
 have hp:=wf.p2
 refine⟨wf.p2,wf.p18,h16,⟨by rw[jk_,wf.f.1,wg.f.1],fun x hx=>?_⟩,⟨by rw[jk_,jb_,wf.l.1,wg.l.1],fun x hx=>?_⟩,?_,fun tb htb=>?_⟩
 ·rcases jx_.mp hx with hx|hx
  ·exact wf.f.2 x hx
  ·exact wg.f.2 x hx
 ·rcases jx_.mp hx with hx|hx
  ·exact wf.l.2 x hx
  ·obtain⟨y,_,rfl⟩:=jv_.mp hx
   exact⟨jJ_ _ s!"",jE_ _ s!""⟩
 ·unfold Ku
  rw[xk_]
  have:=wf.t
  have:=wg.t
  lia
 ·obtain⟨x,hx,y,hy,rfl⟩:=XB htb
  have h1:=wf.tt x hx
  have h2:=wg.tt y hy
  have:=BW_ ⟨h1.1,h1.2⟩ ⟨h2.1,h2.2⟩
  exact⟨this.n,this.r⟩
noncomputable def YM (K:α3)(BH:Addr):Sp:=fun vs H Q E=>∃(h g:Addr) (p q L M:Int) (d e:Nat) (f1 f2 l1 l2:α2) (t1 t2:α0),vs=[.ref h,.ref g]/\SumH K H h p L f1 t1 l1/\SumH K H g q M f2 t2 l2/\WfSum p L d f1 t1 l1/\WfSum q M e f2 t2 l2/\L<=6/\(p=q/\L=M/\d+e<=16->∀r H',Same H H'->SumH K H' r p L (f1++f2) (Ku d e t1 t2) (l1++l2.map fun x => -1*x%p)->Q (.ref r) H')/\(¬ (p=q/\L=M/\d+e<=16)->∀H',Same H H'->E (.ref BH) none H')
theorem Wa   (F:Fun K "sums_less" "sums_less" Eu f fd)(T:Txt mg)
  (W:Own K mg)
  (Z:Exs K mg C_j3 C_j0 C_j2 C_j1)
   (JD:FnOk P w K mg base (CXe P w) 1 EF LB ["size"] (ES_ C_j0)) (F4:Fun K "check_size" "check_size" DO EF LB) (JE:AI K LB ["size"] []) (JF:mg "check_size"=some (.ref EF))
   (CL:FnOk P w K mg base (CXe P w) 1 Bq Dp ["house","other"] (XA K C_j0)) (BC:Fun K "check_as_many" "check_as_many" BA Bq Dp) (CM:AI K Dp ["house","other"] []) (CN:mg "check_as_many"=some (.ref Bq))
   (Hx:FnOk P w K mg base CX0 2 Fc Hy ["house","other"] (Pn K)) (F5:Fun K "less_of" "less_of" FQ Fc Hy) (Hz:AI K Hy ["house","other"] []) (HD:mg "less_of"=some (.ref Fc))
  : FnOk P w K mg base (CXe P w) 3 f fd ["house","other"] (YM K C_j0):=by
 refine F.okE VY (fun vs H Q E h=>?_) (fun cdv A outer s H vs Q E hr h=>?_)
 ·obtain⟨h,g,p,q,L,M,d,e,f1,f2,l1,l2,t1,t2,rfl,_⟩:=h;rfl
 ·obtain⟨h,g,p,q,L,M,d,e,f1,f2,l1,l2,t1,t2,rfl,hs,hg,wf,wg,hL6,k,kE⟩:=h
  refine⟨_,(Ae (CH (Ai CL (hr.mono (by decide)) rfl CN BC.kp CM .nil (VO fun _ _ _ h=>h) (Aa (pvD 0) (Aa (pvD 1) Ab))))
   (Ae (CH (Ai JD (hr.mono (by decide)) rfl JF F4.kp JE .nil (VO fun _ _ _ h=>h) (Aa (Al (opD0 Bw) (Az (lenD Ao) (by rfl) T.len jH_ (Aa (Aj (ixTD Am) (pvD 0) Ad) Ab)) (Az (lenD Ao) (by rfl) T.len jH_ (Aa (Aj (ixTD Am) (pvD 1) Ad) Ab))) Ab)))
   (Ag (Ay (Ai Hx (hr.mono (by decide)) rfl HD F5.kp Hz .nil AL (Aa (pvD 0) (Aa (pvD 1) Ab))))))),?_⟩
  walk_at "rd"
  refine⟨h,g,p,q,L,M,f1,f2,l1,l2,t1,t2,rfl,hs,hg,fun hq H1 s1=>?_,fun hq H1 s1=>kE (fun z=>hq ⟨z.1,z.2.1⟩) H1 s1⟩
  obtain⟨a1,a2,a3,x1,x2,x3,x4⟩:=hs.mono s1
  obtain⟨b1,b2,b3,y1,y2,y3,y4⟩:=hg.mono s1
  obtain⟨rfl,rfl⟩:=hq
  have h1f:=wf.f.1
  have h2f:=wg.f.1
  refine⟨_,x1,_,rfl,a1,rfl,_,.inr x2,_,y1,_,rfl,b1,rfl,_,.inr y2,d+e,?_,fun hd=>?_,fun hd=>?_⟩
  ·rw[jb_,jb_,h1f,h2f];rfl
  ·exact⟨h,g,p,L,d,e,f1,f2,l1,l2,t1,t2,rfl,hs.mono s1,hg.mono s1,wf,wg,hL6,fun r H2 s2 hr=>k ⟨rfl,rfl,xy_ hd⟩ r H2 (s1.trans s2) hr⟩
  ·exact kE (fun z=>by rw[qg_ z.2.2]at hd;cases hd) H1 s1
theorem O6.of {p:Int}(hp:2<=p)(hI:∀a:Int,0<a->a<p->∃inv:Int,inv*a%p=1){m:Nat}:∀(k:Nat) (rows:α1),rows.length=k->(∀i:Nat,i<rows.length->¬ Span p m (rows.take i) fun j=>(rows.getD i []).getD j 0)->O6 p m rows
 |0,rows,hk,_=>by
  have:rows=[]:=jX_.mp hk
  subst this
  exact O6.nil p m
 |k+1,rows,hk,h=>by
  obtain⟨R,r,rfl⟩:∃R r,rows=R++[r]:=⟨rows.dropLast,rows.getLast (by intro e;subst e;simp at hk),(qQ_ _).symm⟩
  have hkl:R.length=k:=by simp at hk;exact hk
  have ih:=O6.of hp hI k R hkl fun i hi=>by
   have:=h i (by simp;lia)
   rw[qi_ s!""]at this
   rw[ja_,jn_ hi]at this
   rw[ja_]
   exact this
  have hl:=h R.length (by simp)
  rw[List.take_left' rfl,ja_,jq_ (jf_ _),qr_]at hl
  intro cs hc h0
  obtain⟨ds,c,rfl⟩:∃ds c,cs=ds++[c]:=⟨cs.dropLast,cs.getLast (by intro e;subst e;simp at hc),(qQ_ _).symm⟩
  have hdl:ds.length=R.length:=by simp at hc;exact hc
  have hsum:∀i:Nat,i<m->(dotW ds (colW R i)+c*r.getD i 0)%p=0:=fun i hi=>by
   have:=h0 i hi
   rw[YA]at this
   rw[show colW [r] i=[r.getD i 0] from rfl,J7 _ _ (by rw[Ib,hdl])]at this
   exact this
  have hc0:c%p=0:=by
   refine Decidable.byContradiction fun hne=>hl ?_
   have hm0:=jJ_ c (show p≠0 by lia)
   have hm1:=jE_ c (show 0<p by lia)
   obtain⟨inv,hinv⟩:=hI (c%p) s!"" hm1
   refine⟨ds.map (-inv * ·),by rw[jb_,hdl],fun i hi=>?_⟩
   rw[Hn]
   show ((some r).getD []).getD i 0%p=_
   have h1:=hsum i hi
   have hinv':inv*c%p=1:=by rw[qs_,<-hinv,qs_ inv (c%p),jT_ _ (qx_ p)]
   have e:r.getD i 0 - -inv*dotW ds (colW R i)=inv*(dotW ds (colW R i)+c*r.getD i 0)-(inv*c-1)*r.getD i 0:=by
    rw[x6_,zF_,zt_,zH_,qZ_];lia
   refine jI_.mpr ?_
   show (r.getD i 0-_)%p=0
   rw[e]
   have d1:p ∣ inv*(dotW ds (colW R i)+c*r.getD i 0):=qM_ (qD_ h1)
   have d2:p ∣ (inv*c-1)*r.getD i 0:=Int.dvd_mul_of_dvd_left (qD_ (by rw[ze_,hinv'];have:(1:Int)%p=1:=j5_ s!"" s!"";rw[this];simp))
   exact q0_ (zG_ d1 d2)
  intro x hx
  rcases jx_.mp hx with hx|hx
  ·refine ih ds hdl (fun i hi=>?_) x hx
   have h1:=hsum i hi
   rw[qO_,qs_,hc0]at h1
   simpa using h1
  ·rw[jg_.mp hx];exact hc0
structure BW (p L:Int)(d:Nat)(tables:α0)(first:α2)(F:α1)(n:Nat)(K:α1):Prop where
 nF:n<=F.length
 f0:F[0]?=some []
 valid:∀f∈F,isW L f=true
 sorted:F.Pairwise fun a b=>BE L a<BE L b
 from_:∀f∈F,f=[] \/ ∃u x,f=u++[x]/\u∈F.take n
 kF:∀w∈K,w∈F.take n
 kSort:K.Pairwise fun a b=>BE L a<BE L b
 kids:∀w∈K,∀x:Int,0<=x->x<L->w++[x]∈F
 kPre:∀w∈K,w=[]\/w.dropLast∈K
 fPre:∀f∈F,f=[]\/f.dropLast∈K
 free:∀i:Nat,i<K.length->¬ Span p d ((K.take i).map (rowS p d tables first)) fun j=>(rowS p d tables first (K.getD i [])).getD j 0
 span:∀f∈F.take n,∃j:Nat,j<=K.length/\Span p d ((K.take j).map (rowS p d tables first)) (fun i=>(rowS p d tables first f).getD i 0)/\∀w∈K.take j,BE L w<=BE L f
 flen:(F.length:Int)=1+K.length*L
 short:∀f∈F,f.length<=K.length
 zero:n=0->K=[]/\F=[[]]
 nil0:0<n->(∀i:Nat,i<d->first.getD i 0%p=0)->K=[]
 nil1:0<n->¬ (∀i:Nat,i<d->first.getD i 0%p=0)->K[0]?=some []
theorem BW.start {p L:Int}{d:Nat}{tables:α0}{first:α2}:BW p L d tables first [[]] 0 [] where
 nF:=by simp
 f0:=rfl
 valid:=fun f hf=>by rw[jg_.mp hf];rfl
 sorted:=qF_ ..
 from_:=fun f hf=>.inl (jg_.mp hf)
 kF:=fun w hw=>by cases hw
 kSort:=.nil
 kids:=fun w hw=>by cases hw
 kPre:=fun w hw=>by cases hw
 fPre:=fun f hf=>.inl (jg_.mp hf)
 free:=fun i hi=>by simp at hi
 span:=fun f hf=>by simp at hf
 flen:=by simp
 short:=fun f hf=>by rw[jg_.mp hf];exact jf_ _
 zero:=fun _=>⟨rfl,rfl⟩
 nil0:=fun h=>absurd h (jW_ 0)
 nil1:=fun h=>absurd h (jW_ 0)
theorem XC {α:Type}{R:α->α->Prop}{F:List α}(h:F.Pairwise R){n:Nat}{f w:α}(hf:F[n]?=some f)(hw:w∈F.take n):R w f:=by
 obtain⟨i,hi⟩:=qp_.mp hw
 rw[xr_]at hi
 split at hi
 ·rename_i hlt
  have h1:=(jd_.mp hi)
  have h2:=(jd_.mp hf)
  have:=xC_.mp h i n h1.1 h2.1 hlt
  rw[h1.2,h2.2]at this
  exact this
 ·cases hi
theorem Cn {α:Type}{F:List α}{n:Nat}{f x:α}(hf:F[n]?=some f):x∈F.take (n+1)↔x∈F.take n\/x=f:=by
 rw[qb_,hf]
 simp
section
variable {p L:Int} {d:Nat} {tables:α0} {first:α2} {F:α1} {n:Nat} {K:α1}
theorem BW.lt (h:BW p L d tables first F n K){f w:α2}(hf:F[n]?=some f)(hw:w∈K):BE L w<BE L f:=XC h.sorted hf (h.kF w hw)
theorem BW.once (h:BW p L d tables first F n K)  (hf:F[n]?=some f)(hn:0<n):f ≠ []:=fun e=>by
 have h0:([]:α2)∈F.take n:=qp_.mpr ⟨0,by rw[xr_,if_pos hn];exact h.f0⟩
 have:=XC h.sorted hf h0
 rw[e]at this
 lia
theorem BW.some_ (h:BW p L d tables first F n K)  (hf:F[n]?=some f)(hn:0<n):K ≠ []:=fun e=>by
 rcases h.fPre f (jj_ hf) with z|z
 ·exact h.once hf hn z
 ·rw[e]at z;cases z
theorem BW.same (h:BW p L d tables first F n K)  : Span p d ((F.take n).map (rowS p d tables first)) v↔Span p d (K.map (rowS p d tables first)) v:=by
 constructor
 ·refine fun g=>g.trans fun r hr=>?_
  obtain⟨f,hf,rfl⟩:=jv_.mp hr
  obtain⟨j,hj,a,_⟩:=h.span f hf
  have:=a.app ((K.drop j).map (rowS p d tables first))
  rwa [<-ji_,List.take_append_drop]at this
 ·refine fun g=>g.trans fun r hr=>?_
  obtain⟨w,hw,rfl⟩:=jv_.mp hr
  exact Span.mem (zu_ (h.kF w hw))
theorem BW.skip (h:BW p L d tables first F n K){f:α2}(hf:F[n]?=some f)(hs:Span p d (K.map (rowS p d tables first)) fun i=>(rowS p d tables first f).getD i 0):BW p L d tables first F (n+1) K where
 nF:=(jd_.mp hf).1
 f0:=h.f0
 valid:=h.valid
 sorted:=h.sorted
 from_:=fun g hg=>by
  rcases h.from_ g hg with z|⟨u,x,a,b⟩
  ·exact .inl z
  ·exact .inr ⟨u,x,a,(Cn hf).mpr (.inl b)⟩
 kF:=fun w hw=>(Cn hf).mpr (.inl (h.kF w hw))
 kSort:=h.kSort
 kids:=h.kids
 kPre:=h.kPre
 fPre:=h.fPre
 free:=h.free
 flen:=h.flen
 short:=h.short
 span:=fun g hg=>by
  rcases (Cn hf).mp hg with hg|rfl
  ·exact h.span g hg
  ·exact⟨K.length,jf_ _,by rw[jM_];exact hs,fun w hw=>by rw[jM_]at hw;exact xi_ (h.lt hf hw)⟩
 zero:=fun z=>by lia
 nil0:=fun _ z=>by
  by_cases hn:n=0
  ·exact (h.zero hn).1
  ·exact h.nil0 s!"" z
 nil1:=fun _ z=>by
  by_cases hn:n=0
  ·subst hn
   obtain⟨e1,e2⟩:=h.zero rfl
   rw[h.f0]at hf
   cases hf
   rw[e1]at hs
   obtain⟨cs,a,b⟩:=hs
   have:cs=[]:=jX_.mp a
   subst this
   refine absurd (fun i hi=>?_) z
   have e:first.getD i 0%p=dotW [] _%p:=b i hi
   rw[e,B8];simp
  ·exact h.nil1 s!"" z
theorem BW.add {Ln:Nat}(hL:L=(Ln:Int))(h:BW p L d tables first F n K){f:α2}(hf:F[n]?=some f)(hs:¬ Span p d (K.map (rowS p d tables first)) fun i=>(rowS p d tables first f).getD i 0):BW p L d tables first (F++(List.range Ln).map fun (x:Nat)=>f++[(x:Int)]) (n+1) (K++[f]):=by
 have hfF:=jj_ hf
 have hfv:=h.valid f hfF
 have hnl:=(jd_.mp hf).1
 have htk:(F++(List.range Ln).map fun (x:Nat)=>f++[(x:Int)]).take (n+1)=F.take (n+1):=qi_ s!""
 have hp0:∀w:α2,isW L w=true->0<=BE L w:=fun w hw=>by
  by_cases hL0:0<L
  ·have:=(NA hL0 hw).1
   have:=Gx hL0 w.length
   lia
  ·cases w with
   |nil=>rw[VQ];exact x3_ 0
   |cons x w=>have:=Bo.mp hw x (by simp);lia
 have hnew:∀g∈(List.range Ln).map (fun (x:Nat)=>f++[(x:Int)]),∃x:Int,g=f++[x]/\0<=x/\x<L:=fun g hg=>by
  obtain⟨x,hx,rfl⟩:=jv_.mp hg
  exact⟨x,rfl,by lia,by have:=j9_.mp hx;lia⟩
 refine⟨by simp;lia,?_,fun g hg=>?_,?_,fun g hg=>?_,fun w hw=>?_,?_,fun w hw x x0 x1=>?_,fun w hw=>?_,fun g hg=>?_,fun i hi=>?_,fun g hg=>?_,?_,fun g hg=>?_,fun z=>by lia,fun _ z=>?_,fun _ z=>?_⟩
 ·rw[jn_ s!""];exact h.f0
 ·rcases jx_.mp hg with hg|hg
  ·exact h.valid g hg
  ·obtain⟨x,rfl,x0,x1⟩:=hnew g hg
   refine Bo.mpr fun y hy=>?_
   rcases jx_.mp hy with hy|hy
   ·exact Bo.mp hfv y hy
   ·rw[jg_.mp hy];exact⟨x0,x1⟩
 ·refine qX_.mpr ⟨h.sorted,?_,fun a ha b hb=>?_⟩
  ·refine x7_.mpr ((List.pairwise_lt_range).imp fun {x y} hxy=>?_)
   rw[Du,Du];lia
  ·obtain⟨x,rfl,x0,x1⟩:=hnew b hb
   rw[Du]
   have hpf:=hp0 f hfv
   have hm:0<=BE L f*L:=x8_ hpf s!""
   rcases h.from_ a ha with rfl|⟨u,y,rfl,hu⟩
   ·rw[VQ];lia
   ·have hlt:=XC h.sorted hf hu
    have hy:=Bo.mp (h.valid _ ha) y (by simp)
    rw[Du]
    have:(BE L u+1)*L<=BE L f*L:=j1_ s!"" s!""
    rw[x4_,zt_]at this
    lia
 ·rw[htk]
  rcases jx_.mp hg with hg|hg
  ·rcases h.from_ g hg with z|⟨u,x,a,b⟩
   ·exact .inl z
   ·exact .inr ⟨u,x,a,(Cn hf).mpr (.inl b)⟩
  ·obtain⟨x,rfl,x0,x1⟩:=hnew g hg
   exact .inr ⟨f,x,rfl,(Cn hf).mpr (.inr rfl)⟩
 ·rw[htk]
  rcases jx_.mp hw with hw|hw
  ·exact (Cn hf).mpr (.inl (h.kF w hw))
  ·exact (Cn hf).mpr (.inr (jg_.mp hw))
 ·refine qX_.mpr ⟨h.kSort,qF_ ..,fun a ha b hb=>?_⟩
  rw[jg_.mp hb]
  exact h.lt hf ha
 ·rcases jx_.mp hw with hw|hw
  ·exact jY_ _ (h.kids w hw x x0 x1)
  ·rw[jg_.mp hw]
   refine jP_ _ (jv_.mpr ⟨x.toNat,j9_.mpr s!"",?_⟩)
   rw[q6_ x0]
 ·rcases jx_.mp hw with hw|hw
  ·rcases h.kPre w hw with z|z
   ·exact .inl z
   ·exact .inr (jY_ _ z)
  ·rw[jg_.mp hw]
   rcases h.fPre f hfF with z|z
   ·exact .inl z
   ·exact .inr (jY_ _ z)
 ·rcases jx_.mp hg with hg|hg
  ·rcases h.fPre g hg with z|z
   ·exact .inl z
   ·exact .inr (jY_ _ z)
  ·obtain⟨x,rfl,x0,x1⟩:=hnew g hg
   exact .inr (by rw[List.dropLast_concat];simp)
 ·by_cases hik:i<K.length
  ·have:=h.free i hik
   rw[qi_ s!"",ja_,jn_ hik,<-ja_]
   exact this
  ·have ei:i=K.length:=by simp at hi;lia
   subst ei
   rw[List.take_left' rfl,ja_,jq_ (jf_ _),qr_]
   exact hs
 ·rw[htk]at hg
  rcases (Cn hf).mp hg with hg|rfl
  ·obtain⟨j,a,b,c⟩:=h.span g hg
   refine⟨j,by simp;lia,?_,?_⟩
   ·rw[qi_ a];exact b
   ·rw[qi_ a];exact c
  ·refine⟨K.length+1,by simp,?_,fun w hw=>?_⟩
   ·rw[qm_ (by simp),ji_]
    exact Span.last _ _
   ·rw[qm_ (by simp)]at hw
    rcases jx_.mp hw with hw|hw
    ·exact xi_ (h.lt hf hw)
    ·rw[jg_.mp hw];exact x3_ _
 ·have:=h.flen
  rw[jk_,jk_,jb_,jU_]
  push_cast
  rw[this,<-hL,x4_]
  simp
  lia
 ·rw[jk_,jZ_]
  rcases jx_.mp hg with hg|hg
  ·have:=h.short g hg;lia
  ·obtain⟨x,rfl,x0,x1⟩:=hnew g hg
   rw[jk_,jZ_]
   have:=h.short f hfF;lia
 ·exfalso
  by_cases hn:n=0
  ·subst hn
   obtain⟨e1,e2⟩:=h.zero rfl
   rw[h.f0]at hf
   cases hf
   rw[e1]at hs
   exact hs ⟨[],rfl,fun i hi=>by rw[B8];show first.getD i 0%p=0%p;rw[z i hi];simp⟩
  ·exact h.some_ hf s!"" (h.nil0 s!"" z)
 ·by_cases hn:n=0
  ·subst hn
   obtain⟨e1,e2⟩:=h.zero rfl
   rw[h.f0]at hf
   cases hf
   rw[e1];rfl
  ·have:=h.nil1 s!"" z
   have hk:0<K.length:=(jd_.mp this).1
   rw[jn_ hk];exact this
end
noncomputable def RowD (K:α3)(H:Hp)(kvs:List (List Key×V))(ws:α1)(row:α2->α2):Prop:=Za ws kvs/\Ba K H (kvs.map (·.2)) (ws.map row)
noncomputable def Prs (K:α3)(H:Hp)(xs:List V)(ws:α1)(row:α2->α2):Prop:=xs.length=ws.length/\∀(i:Nat) (v:α2),ws[i]?=some v->∃t a b,xs[i]?=some (.ref t)/\SqT K H t [.ref a,.ref b]/\H a=some (.tup (v.map V.int))/\SqT K H b ((row v).map V.int)
theorem Prs.mono {K:α3}     (h:Prs K H xs ws row)(s:∀t ys,SqT K H t ys->SqT K H' t ys)(s2:∀t ys,H t=some (.tup ys)->H' t=some (.tup ys)):Prs K H' xs ws row:=⟨h.1,fun i v hi=>by
 obtain⟨t,a,b,e,h1,h2,h3⟩:=h.2 i v hi
 exact⟨t,a,b,e,s _ _ h1,s2 _ _ h2,s _ _ h3⟩⟩
theorem Prs.snoc {K:α3}     (h:Prs K H xs ws row)   (h1:SqT K H t [.ref a,.ref b])(h2:H a=some (.tup (v.map V.int)))(h3:SqT K H b ((row v).map V.int)):Prs K H (xs++[.ref t]) (ws++[v]) row:=by
 refine⟨by rw[jk_,jk_,h.1];rfl,fun i r hi=>?_⟩
 by_cases hil:i<ws.length
 ·rw[jn_ hil]at hi
  rw[jn_ (by rw[h.1];exact hil)]
  exact h.2 i r hi
 ·have:=(jd_.mp hi).1
  rw[jk_,jZ_]at this
  have ei:i=ws.length:=by lia
  subst ei
  rw[jq_ (jf_ _),qr_]at hi
  simp at hi
  subst hi
  exact⟨t,a,b,by rw[<-h.1];simp,h1,h2,h3⟩
theorem Ba.mono2 {K:α3}    (h:Ba K H xs rows)(s:∀t ys,SqT K H t ys->SqT K H' t ys):Ba K H' xs rows:=⟨h.1,fun i r hi=>by
 obtain⟨t,e,h1⟩:=h.2 i r hi
 exact⟨t,e,s _ _ h1⟩⟩
theorem _root_.L2.Same.gone' {H H':Hp}{a:Addr}(s:Same H H')(h:H' a=none):H a=none:=by
 cases e:H a with
 |none=>rfl
 |some u=>rw[s _ _ e]at h;cases h
theorem Po {K:α3}     (hp:H p=some (.dT kvs))(h:SqT K H t xs):SqT K (upd H p (.dT kvs')) t xs:=by
 rcases h with (q|⟨o,q⟩)|q
 ·refine .inl (.inl ?_)
  rw[AD (fun z=>by rw[z,hp]at q;cases q)];exact q
 ·refine .inl (.inr ⟨o,?_⟩)
  rw[AD (fun z=>by rw[z,hp]at q;cases q)];exact q
 ·exact .inr q
theorem BasD.offT {K:α3}     (h:BasD K H d bs)(hp:H p=some (.dT kvs)):BasD K (upd H p (.dT kvs')) d bs:=by
 obtain⟨kv,h1,h2,h3⟩:=h
 refine⟨kv,?_,h2,fun i x hx=>?_⟩
 ·rcases h1 with h1|⟨o,h1⟩
  ·exact .inl (by rw[AD (fun z=>by rw[z,hp]at h1;cases h1)];exact h1)
  ·exact .inr ⟨o,by rw[AD (fun z=>by rw[z,hp]at h1;cases h1)];exact h1⟩
 ·obtain⟨t,a,b⟩:=h3 i x hx
  exact⟨t,a,Po hp b⟩
theorem BasD.ne {K:α3}     (h:BasD K H d bs)(hp:H p=some o)(h1:∀kvs,o ≠ .dK kvs)(h2:∀ob kvs,o ≠ .frz ob (.dK kvs)):p≠d:=fun z=>by
 obtain⟨kv,h3,_⟩:=h
 rcases h3 with h3|⟨ob,h3⟩
 ·rw[<-z,hp]at h3;exact h1 _ (jB_ h3)
 ·rw[<-z,hp]at h3;exact h2 _ _ (jB_ h3)
theorem _root_.L2.FzAt.tup {d a:Addr}{H H':Hp}{xs:List V}(s:FzAt d H H')(h:H a=some (.tup xs)):H' a=some (.tup xs):=by
 by_cases e:a=d
 ·subst e
  rcases s.2 _ h with g|⟨kvs,o,g,_⟩
  ·exact g
  ·cases g
 ·exact s.1 a _ e h
noncomputable def Ta (K:α3):Sp:=fun vs H Q _=>∃(h:Addr) (p:Int) (L d:Nat) (first last:α2) (tables:α0),vs=[.ref h]/\Pr p/\SumH K H h p L first tables last/\WfSum p L d first tables last/\L<=6/\d<=40/\d*L<=96/\∀q kvs F ws H',Same H H'->H' q=some (.dT kvs)->H q=none->RowD K H' kvs ws (Mine.rowS p d tables first)->BW p L d tables first F F.length ws->ws.length<=d->Q (.ref q) H'
theorem Tc   (F:Fun K "basis_rows" "basis_rows" CV f fd)(T:Txt mg)
  (W:Own K mg)
  (Z:Exs K mg C_j3 C_j0 C_j2 C_j1)
   (Bh:FnOk P w K mg base CX0 1 AO Bl ["row"] (YD K)) (A0:Fun K "place_of_first" "place_of_first" Bg AO Bl) (Bi:AI K Bl ["row"] []) (Bj:mg "place_of_first"=some (.ref AO))
   (Dj:FnOk P w K mg base CX0 2 B4 CK ["p","bases","row"] (O7 K)) (Ck:Fun K "left_of" "left_of" Ej B4 CK) (Dk:AI K CK ["p","bases","row"] []) (Dm:mg "left_of"=some (.ref B4))
   (Fy:FnOk P w K mg base CX0 3 Dd FV ["p","bases","left","place"] (FU_ K)) (DY:Fun K "with_base" "with_base" DL Dd FV) (Fz:AI K FV ["p","bases","left","place"] []) (FA:mg "with_base"=some (.ref Dd))
   (E8:FnOk P w K mg base CX0 3 Dn EB ["house","row","letter"] (J8 K)) (DZ:Fun K "stepped" "stepped" EX Dn EB) (E9:AI K EB ["house","row","letter"] []) (Fb:mg "stepped"=some (.ref Dn))
  : FnOk P w K mg base CX0 4 f fd ["house"] (Ta K):=by
 refine F.ok A9 (fun vs H Q E h=>?_) (fun cdv A outer s H vs Q E hr h=>?_)
 ·obtain⟨h,p,L,d,first,last,tables,rfl,_⟩:=h;rfl
 ·obtain⟨h,p,L,d,first,last,tables,rfl,hp,hh,wf,hL6,hd40,h96,k⟩:=h
  have hl:=Au
  have hp1:=hp.1
  have hp2:=hp.2.1
  obtain⟨tf,tt,tl,h1,h2,h3,h4⟩:=id hh
  refine⟨_,(Ae (Ah (i:=1) A9.nd (Aj (ixTD Am) (pvD 0) Ad))
   (Ae (OI (i:=2) A9.nd rfl (Or.inl rfl) CB_)
   (Ae (Ah (i:=3) A9.nd Sy)
   (Ae (Ah (i:=4) A9.nd (Ex (Aa (A4 (Aa (A4 Ab) (Aa (Aj (ixTD Am) (pvD 0) Ad) Ab))) Ab)))
   (Ae (Ah (i:=5) A9.nd Ad)
   (Ae (Sr jF_ (ptT (AK (opD0 VA) (pvD 5) (Az (lenD Ao) (by rfl) T.len jH_ (Aa (pvD 4) Ab)) (AQ _)))
   (Ae (Ah (i:=6) A9.nd (Aj (ixTD Am) (Aj (ixLD BM) (pvD 4) (pvD 5)) Ad))
   (Ae (Ah (i:=7) A9.nd (Aj (ixTD Am) (Aj (ixLD BM) (pvD 4) (pvD 5)) Ad))
   (Ae (Ah (i:=8) A9.nd (Ai Dj (hr.mono (by decide)) rfl Dm Ck.kp Dk .nil AL (Aa (pvD 1) (Aa (pvD 3) (Aa (pvD 7) Ab)))))
   (Ae (Ah (i:=9) A9.nd (Ai Bh (hr.mono (by decide)) rfl Bj A0.kp Bi .nil AL (Aa (pvD 8) Ab)))
   (G3 (CI (ptT (AK Ss (pvD 9) Gv (AQ _)))
   (Ae (Xi (Cv_ hr) (pvD 2) (pvD 6) (pvD 7) rfl)
   (Ae (Ah (i:=3) A9.nd (Ai Fy (hr.mono (by decide)) rfl FA DY.kp Fz .nil AL (Aa (pvD 1) (Aa (pvD 3) (Aa (pvD 8) (Aa (pvD 9) Ab))))))
   (Ag (Cg jF_ rfl (A3 rfl T.range (Aa (Aj (ixTD Am) (pvD 0) Ad) Ab)) (Aw (i:=10) A9.nd rfl (Or.inl rfl))
   (Ag (CH (Lc jQ_ jN_ jO_ Ci (pvD 4) (Aa (A4 (Aa (Al B6 (pvD 6) (A4 (Aa (pvD 10) Ab))) (Aa (Ai E8 (hr.mono (by decide)) rfl Fb DZ.kp E9 .nil AL (Aa (pvD 0) (Aa (pvD 7) (Aa (pvD 10) Ab)))) Ab))) Ab))))))))
   AZ)
   (Ag (Gu_ (i:=5) A9.nd rfl (Or.inl rfl) Ad Gv_))))))))
   (Ag (Ay (pvD 2))))))))),?_⟩
  walk_at "rd"
  refine⟨_,h1,V.int p,rfl,fun dr hdr db hdb=>?_⟩
  refine⟨by lia,fun t0 ht0=>⟨_,(((Same.new hdr (o:=.dT [])).newT hdb (o:=.dK [])).newT ht0 (o:=.tup [])).seqT h1,V.ref tf,rfl,by lia,fun t1 ht1=>⟨by lia,fun pf hpf=>?_⟩⟩⟩
  have s0:=(((Same.new hdr (o:=.dT [])).newT hdb (o:=.dK [])).newT ht0 (o:=.tup [])).newT ht1 (o:=.tup [V.ref t0,V.ref tf])
  have sP:=s0.newT hpf (o:=.lst [V.ref t1])
  have hdbN:H db=none:=(Same.new hdr (o:=.dT [])).gone' hdb
  have hpfN:H pf=none:=s0.gone' hpf
  have u_dr:upd (upd (upd (upd (upd H dr (HO.dT [])) db (HO.dK [])) t0 (HO.tup [])) t1 (HO.tup [V.ref t0,V.ref tf])) pf (HO.lst [V.ref t1]) dr=some (.dT []):=Same.new hpf _ _ (Same.new ht1 _ _ (Same.new ht0 _ _ (Same.new hdb _ _ Ac)))
  have u_db:upd (upd (upd (upd (upd H dr (HO.dT [])) db (HO.dK [])) t0 (HO.tup [])) t1 (HO.tup [V.ref t0,V.ref tf])) pf (HO.lst [V.ref t1]) db=some (.dK []):=Same.new hpf _ _ (Same.new ht1 _ _ (Same.new ht0 _ _ Ac))
  have u_pf:upd (upd (upd (upd (upd H dr (HO.dT [])) db (HO.dK [])) t0 (HO.tup [])) t1 (HO.tup [V.ref t0,V.ref tf])) pf (HO.lst [V.ref t1]) pf=some (.lst [V.ref t1]):=Ac
  have u_t1:upd (upd (upd (upd (upd H dr (HO.dT [])) db (HO.dK [])) t0 (HO.tup [])) t1 (HO.tup [V.ref t0,V.ref tf])) pf (HO.lst [V.ref t1]) t1=some (.tup [V.ref t0,V.ref tf]):=Same.new hpf _ _ Ac
  have u_t0:upd (upd (upd (upd (upd H dr (HO.dT [])) db (HO.dK [])) t0 (HO.tup [])) t1 (HO.tup [V.ref t0,V.ref tf])) pf (HO.lst [V.ref t1]) t0=some (.tup []):=Same.new hpf _ _ (Same.new ht1 _ _ Ac)
  generalize upd (upd (upd (upd (upd H dr (HO.dT [])) db (HO.dK [])) t0 (HO.tup [])) t1 (HO.tup [V.ref t0,V.ref tf])) pf (HO.lst [V.ref t1])=H0 at sP u_dr u_db u_pf u_t1 u_t0 ⊢
  clear s0 hpf ht1 ht0 hdb
  obtain⟨R,hRd⟩:∃R:α2->α2,R=Mine.rowS p d tables first:=⟨_,rfl⟩
  have hR0:R []=first:=by rw[hRd];rfl
  have hRl:∀v,isW L v=true->(R v).length=d/\∀y∈R v,0<=y/\y<p:=fun v hv=>by rw[hRd];exact wf.row v
  have hRs:∀v x,R (v++[x])=FW p d tables (R v) x:=fun v x=>by rw[hRd];unfold Mine.rowS;rw[qE_];rfl
  obtain⟨Pv,hPv⟩:∃Pv:Nat->St->Hp->Prop,∀m σ' H',Pv m σ' H'↔(∃(F ws:α1) (bs:List (Nat×α2)) (n:Nat) (b:Addr) (kvs:List (List Key×V)) (xs:List V) (o6 o7 o8 o9 o10:Option V),m=1+d*L-n/\Same H H'/\H' dr=some (.dT kvs)/\RowD K H' kvs ws R/\BasD K H' b bs/\H b=none/\H' pf=some (.lst xs)/\Prs K H' xs F R/\BW p L d tables first F n ws/\Seen p d d ((F.take n).map R) bs/\bs.length=ws.length/\σ'=[some (.ref h),some (.int p),some (.ref dr),some (.ref b),some (.ref pf),some (.int n),o6,o7,o8,o9,o10]):=⟨_,fun _ _ _=>qf_⟩
  refine Bf_ Pv ⟨_,(hPv _ _ _).mpr ⟨[[]],[],[],0,db,[],[V.ref t1],none,none,none,none,none,rfl,sP,u_dr,⟨rfl,rfl,fun i r hi=>by simp at hi⟩,PutD.bas (PutD.nil u_db),hdbN,u_pf,⟨rfl,fun i v hi=>?_⟩,BW.start,⟨⟨by simp,by simp,.nil⟩,by simp,by simp,by simp⟩,rfl,rfl⟩⟩ ?_
  ·match i,hi with
   |0,hi=>
    cases hi
    exact⟨t1,t0,tf,rfl,SqT.of u_t1,u_t0,by rw[hR0];exact sP.seqT h2⟩
   |j+1,hi=>simp at hi
  intro m σ' H' h'
  obtain⟨F,ws,bs,n,b,kvs,xs,o6,o7,o8,o9,o10,rfl,s1,c1,c2,c3,c4,c5,c6,bw,sn,hbl,rfl⟩:=(hPv _ _ _).mp h'
  have hbd:bs.length<=d:=by
   have:=YB d (bs.map (·.1)) sn.b.nodup fun x hx=>by
    obtain⟨y,hy,rfl⟩:=jv_.mp hx
    exact sn.lt y hy
   rwa [jb_]at this
  have hFl:=bw.flen
  have hFd:F.length<=1+d*L:=by
   have:(ws.length:Int)*L<=d*L:=j1_ s!"" s!""
   have e:((d*L:Nat):Int)=(d:Int)*L:=by push_cast;rfl
   lia
  have hdL:d*L<=96:=h96
  have c6l:=c6.1
  walk_at "rd"
  refine⟨_,.inl (SqL.of c5),ite2 (fun hlt=>?_) (fun hge=>?_)⟩
  ·have hnF:n<F.length:=by lia
   have hfn:F[n]?=some F[n]:=by simp
   obtain⟨t,a,rr,e1,e2,e3,e4⟩:=c6.2 n _ hfn
   have hfv:=bw.valid _ (jj_ hfn)
   generalize F[n]=f at hfn e3 e4 hfv
   have hrl:=hRl f hfv
   refine⟨Pv (1+d*L-(n+1)),fun σ2 H2 h2=>⟨_,by lia,h2⟩,?_⟩
   refine⟨_,SqL.of c5,V.ref t,AY e1,t,rfl,_,e2,V.ref a,rfl,_,SqL.of c5,V.ref t,AY e1,t,rfl,_,e2,V.ref rr,rfl,?_⟩
   have hdb:dr≠b:=c3.ne c1 (fun _ z=>by cases z) (fun _ _ z=>by cases z)
   have hpb:pf≠b:=c3.ne c5 (fun _ z=>by cases z) (fun _ _ z=>by cases z)
   have hdp:dr≠pf:=fun z=>by rw[z,c5]at c1;cases c1
   refine⟨p,b,rr,true,bs,R f,rfl,by lia,by lia,c3,e4,by lia,fun x hx=>by rw[hrl.1];exact⟨(sn.b.len x hx).1,(sn.b.len x hx).2.1⟩,fun q1 H3 hF3 hq1=>?_⟩
   have hiff:=sn.iff s!"" (jf_ d) hrl.1
   have hll:=(E2 (R f) hrl.1 bs sn.b).1
   have hlin:=Jl (p:=p) s!"" (R f) bs
   have hown:=S3 (p:=p) s!"" hrl.1 sn.b
   have hmore:=fun (inv:Int) (qq:Nat) (h1:qq<d) (h2:inv*(AU p bs (R f)).getD qq 0%p=1)=>sn.more (inv:=inv) hp1 (jf_ d) hrl.1 h1 h2
   have hsame:=sn.same hrl.1
   generalize AU p bs (R f)=left at hq1 hiff hll hlin hown hmore hsame
   have etk:F.take (n+1)=F.take n++[f]:=by rw[qb_,hfn];rfl
   obtain⟨Rr,hRr⟩:∃Rr:St->Hp->Prop,∀σ' H',Rr σ' H'↔(∃(F ws:α1) (bs:List (Nat×α2)) (b:Addr) (kvs:List (List Key×V)) (xs:List V) (o6 o7 o8 o9 o10:Option V),Same H H'/\H' dr=some (.dT kvs)/\RowD K H' kvs ws R/\BasD K H' b bs/\H b=none/\H' pf=some (.lst xs)/\Prs K H' xs F R/\BW p L d tables first F (n+1) ws/\Seen p d d ((F.take (n+1)).map R) bs/\bs.length=ws.length/\σ'=[some (.ref h),some (.int p),some (.ref dr),some (.ref b),some (.ref pf),some (.int n),o6,o7,o8,o9,o10]):=⟨_,fun _ _=>qf_⟩
   have finR:∀σ2 H2,Rr σ2 H2->tAug 5 (tC (V.int 1)) (ipI fun i j=>i+j) {nx:=Pv (1+d*L-(n+1)),rt:=Q,bk:=tRet (tVar 2) {nx:=fun x H'=>Q V.non H',rt:=Q},ct:=Pv (1+d*L-(n+1))} σ2 H2:=fun σ2 H2 h2=>by
    obtain⟨F,ws,bs,b,kvs,xs,o6,o7,o8,o9,o10,g1,g2,g3,g4,g5,g6,g7,g8,g9,g10,rfl⟩:=(hRr _ _).mp h2
    walk_at "rd"
    exact (hPv _ _ _).mpr ⟨F,ws,bs,n+1,b,kvs,xs,_,_,_,_,_,rfl,g1,g2,g3,g4,g5,g6,g7,g8,g9,g10,rfl⟩
   refine⟨q1,left,rfl,hq1,by lia,fun qn H4 s4 hqn hq0=>⟨Rr,?_,finR⟩,fun H4 s4 hall=>⟨Rr,?_,finR⟩⟩
   ·have s14:Same H H4:=(hF3.same s1 c4).trans s4
    have d4:=s4 _ _ (hF3.1 dr _ hdb c1)
    have p4:=s4 _ _ (hF3.lst c5)
    have sk:∀t ys,SqT K H' t ys->SqT K H4 t ys:=fun t ys z=>s4.seqT (hF3.seqT z)
    have tk:∀t ys,H' t=some (.tup ys)->H4 t=some (.tup ys):=fun t ys z=>s4 _ _ (hF3.tup z)
    have hsp:¬ Span p d (ws.map R) fun j=>(R f).getD j 0:=fun z=>hq0 (hiff.mpr (by rw[hRd]at z ⊢;exact bw.same.mpr z) qn s!"")
    have hfw:f∉ws:=fun z=>by have:=bw.lt hfn z;lia
    have hbw:=bw.add (Ln:=L) rfl hfn (by rw[<-hRd];exact hsp)
    have hkl:kvs.length=ws.length:=by have:=c2.2.1;rw[jb_,jb_]at this;exact this
    have hnone:valV kvs (wkey f)=none:=by
     have:=c2.1.some_iff f
     rw[qj_ hfw]at this
     cases e:valV kvs (wkey f) with
     |none=>rfl
     |some v=>rw[e]at this;cases this
    walk_at "rd"
    refine⟨_,DPut.t d4 (by rw[Xn];exact tk _ _ e3) s!"",?_⟩
    rw[Cw_ _ hnone]
    have s15:=s14.over hdr (o:=.dT (kvs++[(wkey f,V.ref rr)]))
    have d5:upd H4 dr (.dT (kvs++[(wkey f,V.ref rr)])) dr=some (.dT (kvs++[(wkey f,V.ref rr)])):=Ac
    have p5:upd H4 dr (.dT (kvs++[(wkey f,V.ref rr)])) pf=some (.lst xs):=by rw[AD (qT_ hdp)];exact p4
    have sk5:∀t ys,SqT K H' t ys->SqT K (upd H4 dr (.dT (kvs++[(wkey f,V.ref rr)]))) t ys:=fun t ys z=>Po d4 (sk t ys z)
    have tk5:∀t ys,H' t=some (.tup ys)->upd H4 dr (.dT (kvs++[(wkey f,V.ref rr)])) t=some (.tup ys):=fun t ys z=>by
     have:=tk t ys z
     rw[AD (fun e=>by rw[e,d4]at this;cases this)];exact this
    have hB5:=(((c3.fz hF3).mono s4).offT d4 (kvs':=kvs++[(wkey f,V.ref rr)]))
    have hq5:SqT K (upd H4 dr (.dT (kvs++[(wkey f,V.ref rr)]))) q1 (left.map V.int):=Po d4 (s4.seqT hq1)
    generalize upd H4 dr (.dT (kvs++[(wkey f,V.ref rr)]))=H5 at s15 d5 p5 sk5 tk5 hB5 hq5 ⊢
    have g:=getD_in (show 0<p by lia) hlin qn
    refine⟨p,b,q1,qn,bs,left,rfl,hp,hB5,hq5,by lia,by lia,by lia,g.2,by lia,fun x hx=>by rw[hll];exact⟨(sn.b.len x hx).1,(sn.b.len x hx).2.1⟩,sn.b.nodup,fun hm=>?_,fun b2 inv H7 hF7 i0 i1 hinv hB7 hb2=>?_⟩
    ·obtain⟨x,hx,e⟩:=jv_.mp hm
     exact hq0 (by rw[<-e];exact hown x hx)
    have s17:=hF7.same s15 c4
    have d7:=hF7.1 dr _ hdb d5
    have p7:=hF7.lst p5
    have sk7:∀t ys,SqT K H' t ys->SqT K H7 t ys:=fun t ys z=>hF7.seqT (sk5 t ys z)
    have tk7:∀t ys,H' t=some (.tup ys)->H7 t=some (.tup ys):=fun t ys z=>hF7.tup (tk5 t ys z)
    have hb2N:H b2=none:=s15.gone' hb2
    have rd7:RowD K H7 (kvs++[(wkey f,V.ref rr)]) (ws++[f]) R:=⟨by unfold Za;rw[ji_,ji_,c2.1];rfl,by rw[ji_,ji_];exact Ba.snoc (c2.2.mono2 sk7) (sk7 _ _ e4)⟩
    refine⟨_,s17.seqT h1,V.int L,rfl,(L:Int),rfl,by lia,by lia,?_⟩
    obtain⟨Pz,hPz⟩:∃Pz:Nat->St->Hp->Prop,∀i σ' H',Pz i σ' H'↔(∃(xs:List V) (o10:Option V),Same H H'/\H' dr=some (.dT (kvs++[(wkey f,V.ref rr)]))/\RowD K H' (kvs++[(wkey f,V.ref rr)]) (ws++[f]) R/\BasD K H' b2 (V1 p inv bs left qn)/\H' pf=some (.lst xs)/\Prs K H' xs (F++(List.range i).map fun (x:Nat)=>f++[(x:Int)]) R/\H' a=some (.tup (f.map V.int))/\SqT K H' rr ((R f).map V.int)/\σ'=[some (.ref h),some (.int p),some (.ref dr),some (.ref b2),some (.ref pf),some (.int n),some (.ref a),some (.ref rr),some (.ref q1),some (.int qn),o10]):=⟨_,fun _ _ _=>qf_⟩
    refine forR Pz ((hPz _ _ _).mpr ⟨xs,o10,s17,d7,rd7,hB7,p7,by simpa using c6.mono sk7 tk7,tk7 _ _ e3,sk7 _ _ e4,rfl⟩) (fun i σ2 H8 hi h8=>?_) (fun σ2 H8 h8=>?_)
    ·obtain⟨ys,o,k1,k2,k3,k4,k5,k6,k7,k8,rfl⟩:=(hPz _ _ _).mp h8
     rw[j3_]
     walk_at "rd"
     have hfs:=bw.short f (jj_ hfn)
     refine⟨.inl ⟨rfl,_,SqL.of k5⟩,by lia,fun u1 hu1=>CF.ofS (Same.new hu1 _ _ k7) Ac (by simp;lia) fun u2 H9 s9 hu2=>?_⟩
     have s89:=(Same.new hu1 (o:=.tup [V.int i])).trans s9
     have s19:=k1.trans s89
     refine⟨h,rr,p,L,i,d,first,last,R f,tables,rfl,hh.mono s19,wf,s89.seqT k8,hrl.1,hrl.2,by lia,by lia,fun u3 H10 s10 hu3=>⟨by lia,fun u4 hu4=>?_⟩⟩
     have s8a:=s89.trans s10
     have sN:=s8a.newT hu4 (o:=.tup [V.ref u2,V.ref u3])
     have hpz:=sN _ _ k5
     refine⟨ys,hpz,?_,(hPz _ _ _).mpr ⟨_,_,(k1.trans sN).over hpfN,?_,⟨k3.1,k3.2.mono2 fun t ys z=>AV hpz (sN.seqT z)⟩,(k4.mono sN).offl hpz,Ac,?_,?_,AV hpz (sN.seqT k8),rfl⟩⟩
     ·have:=k6.1
      rw[jk_,jb_,jU_]at this
      lia
     ·rw[AD hdp];exact sN _ _ k2
     ·rw[j2_,ji_,<-zA_]
      refine (k6.mono (fun t ys z=>AV hpz (sN.seqT z)) fun t ys z=>?_).snoc (t:=u4) (a:=u2) (b:=u3) (v:=f++[(i:Int)]) (AV hpz (SqT.of Ac)) ?_ ?_
      ·have:=sN _ _ z
       rw[AD (fun e=>by rw[e,hpz]at this;cases this)];exact this
      ·have:upd H10 u4 (.tup [V.ref u2,V.ref u3]) u2=some (.tup ((f++[(i:Int)]).map V.int)):=by
        have:=Same.new hu4 (o:=.tup [V.ref u2,V.ref u3]) _ _ (s10 _ _ hu2)
        rw[ji_];exact this
       exact (AD (fun e=>by have z:=this.symm.trans ((qY_ (upd H10 u4 (.tup [V.ref u2,V.ref u3])) e).trans hpz);cases z)).trans this
      ·rw[hRs]
       exact AV hpz (SqT.of (Same.new hu4 (o:=.tup [V.ref u2,V.ref u3]) _ _ hu3))
     ·have:=sN _ _ k7
      rw[AD (fun e=>by rw[e,hpz]at this;cases this)];exact this
    ·obtain⟨ys,o,k1,k2,k3,k4,k5,k6,k7,k8,rfl⟩:=(hPz _ _ _).mp h8
     rw[show ((L:Int)).toNat=L by lia]at k6
     refine (hRr _ _).mpr ⟨_,ws++[f],_,b2,_,ys,_,_,_,_,_,k1,k2,k3,k4,hb2N,k5,k6,hbw,?_,by rw[V5,jk_,hbl];rfl,rfl⟩
     rw[qi_ s!"",etk,ji_]
     exact hmore inv qn s!"" hinv
   ·walk_at "rd"
    have s14:Same H H4:=(hF3.same s1 c4).trans s4
    have d4:=s4 _ _ (hF3.1 dr _ hdb c1)
    have p4:=s4 _ _ (hF3.lst c5)
    have sk:∀t ys,SqT K H' t ys->SqT K H4 t ys:=fun t ys z=>s4.seqT (hF3.seqT z)
    have tk:∀t ys,H' t=some (.tup ys)->H4 t=some (.tup ys):=fun t ys z=>s4 _ _ (hF3.tup z)
    have hz0:∀i:Nat,i<d->left.getD i 0=0:=fun i hi=>hall i s!""
    have hbw:=bw.skip hfn (by
     have:=bw.same.mp (by rw[<-hRd];exact hiff.mp hz0)
     rwa [<-hRd]at this ⊢)
    refine (hRr _ _).mpr ⟨F,ws,bs,b,kvs,xs,_,_,_,_,_,s14,d4,⟨c2.1,c2.2.mono2 sk⟩,(c3.fz hF3).mono s4,c4,p4,c6.mono sk tk,hbw,?_,hbl,rfl⟩
    rw[etk,ji_]
    exact hsame hz0
  ·have hnF:n=F.length:=by have:=bw.nF;lia
   subst hnF
   walk_at "rd"
   exact k dr kvs F ws H' s1 c1 hdr (by rw[<-hRd];exact c2) bw s!""
noncomputable def Sa (p L:Int)(d:Nat)(R:α2->α2)(ws:α1)(f l:α2):Prop:=l.length=ws.length/\(∀x∈l,0<=x/\x<p)/\(∀i:Nat,i<d->(R f).getD i 0%p=dotW l (colW (ws.map R) i)%p)/\∀(k:Nat) (v:α2),ws[k]?=some v->l.getD k 0≠0->BE L v<=BE L f
theorem BW.indep       (hp:Pr p)(h:BW p L d tables first F n ws):O6 p d (ws.map (Mine.rowS p d tables first)):=by
 refine O6.of hp.1 (fun a a0 a1=>HS_ hp.1 a0 (hp.gcd a0 a1)) _ _ rfl fun i hi=>?_
 rw[jb_]at hi
 have:=h.free i hi
 rw[<-xl_]
 have e:(ws.map (Mine.rowS p d tables first)).getD i []=Mine.rowS p d tables first (ws.getD i []):=by
  rw[ja_,jh_,ja_,jc_ hi];rfl
 rw[e]
 exact this
theorem HU_      (hp:Pr p)(wf:WfSum p L d first tables last)(h:BW p L d tables first F F.length ws)  (S:Seen p (d+(ws.map (Mine.rowS p d tables first)).length) d (BO (ws.map (Mine.rowS p d tables first))) bs)  (hf:f∈F):
  Span p d (ws.map (Mine.rowS p d tables first)) (fun i=>(Mine.rowS p d tables first f).getD i 0)/\Sa p L d (Mine.rowS p d tables first) ws f (((AU p bs (Mine.rowS p d tables first f++List.replicate (ws.map (Mine.rowS p d tables first)).length 0)).drop d).map fun y => -y%p):=by
 have hp1:=hp.1
 obtain⟨j,hj,⟨cs,hc,he⟩,hpl⟩:=h.span f (by rw[jM_];exact hf)
 rw[jb_,jR_,xU_ hj]at hc
 have hsplit:ws.map (Mine.rowS p d tables first)=(ws.take j).map (Mine.rowS p d tables first)++(ws.drop j).map (Mine.rowS p d tables first):=by rw[<-ji_,List.take_append_drop]
 obtain⟨am,ham⟩:∃am:α2,am=cs.map (· % p)++List.replicate (ws.length-j) 0:=⟨_,rfl⟩
 have hal:am.length=ws.length:=by rw[ham,jk_,jb_,qa_,hc];lia
 have hin:∀x∈am,0<=x/\x<p:=fun x hx=>by
  rw[ham]at hx
  rcases jx_.mp hx with hx|hx
  ·obtain⟨y,_,rfl⟩:=jv_.mp hx
   exact⟨jJ_ _ s!"",jE_ _ s!""⟩
  ·rw[(qV_.mp hx).2];lia
 have he2:∀i:Nat,i<d->(Mine.rowS p d tables first f).getD i 0%p=dotW am (colW (ws.map (Mine.rowS p d tables first)) i)%p:=fun i hi=>by
  rw[he i hi,ham,hsplit,YA,Jk _ _ _ _ (by rw[Ib,jb_,jb_,jR_];lia),Bt (List.replicate _ _),E1,zd_]
  refine cg.dot ?_ (cg.refl p _)
  unfold cg
  rw[jK_]
  exact (jS_ fun y _=>by show y%p=(y%p)%p;rw[jT_ _ (qx_ p)])
 have hlen:∀r∈ws.map (Mine.rowS p d tables first),r.length=d:=fun r hr=>by
  obtain⟨v,_,rfl⟩:=jv_.mp hr
  exact (wf.row v).1
 refine⟨⟨am,by rw[jb_];exact hal,he2⟩,?_⟩
 rw[HR_ (show 0<p by lia) hlen (h.indep hp) S (wf.row f).1 (by rw[jb_];exact hal) hin he2]
 refine⟨hal,hin,he2,fun k v hk hne=>?_⟩
 by_cases hkj:k<j
 ·exact hpl v (qp_.mpr ⟨k,by rw[xr_,if_pos hkj];exact hk⟩)
 ·refine absurd ?_ hne
  rw[ham,ja_,jq_ (by rw[jb_];lia),j8_]
  split<;>rfl
noncomputable def AmD (H:Hp)(pm:Addr)(xs:List V)(am:α0):Prop:=xs.length=am.length/\∀(i:Nat) (a:α1),am[i]?=some a->∃c ys,c≠pm/\xs[i]?=some (.ref c)/\H c=some (.lst ys)/\ys.length=a.length/\∀(j:Nat) (l:α2),a[j]?=some l->∃e,e≠pm/\ys[j]?=some (.ref e)/\H e=some (.lst (l.map V.int))
noncomputable def AmF (p:Int)(L d:Nat)(R:α2->α2)(ws:α1)(am:α0):Prop:=am.length=ws.length/\∀(i:Nat) (a:α1) (v:α2),am[i]?=some a->ws[i]?=some v->a.length=L/\∀(x:Nat) (l:α2),a[x]?=some l->Sa p L d R ws (v++[(x:Int)]) l
theorem AmD.mono     (h:AmD H pm xs am)(s:∀(a:Addr) ys,a≠pm->H a=some (.lst ys)->H' a=some (.lst ys)):AmD H' pm xs am:=⟨h.1,fun i a hi=>by
 obtain⟨c,ys,n1,e1,e2,e3,e4⟩:=h.2 i a hi
 refine⟨c,ys,n1,e1,s _ _ n1 e2,e3,fun j l hj=>?_⟩
 obtain⟨e,n2,f1,f2⟩:=e4 j l hj
 exact⟨e,n2,f1,s _ _ n2 f2⟩⟩
theorem AmD.snoc     (h:AmD H pm xs am)    (n1:c≠pm)(e2:H c=some (.lst ys))(e3:ys.length=a.length)(e4:∀(j:Nat) (l:α2),a[j]?=some l->∃e,e≠pm/\ys[j]?=some (.ref e)/\H e=some (.lst (l.map V.int))):AmD H pm (xs++[.ref c]) (am++[a]):=by
 refine⟨by rw[jk_,jk_,h.1];rfl,fun i r hi=>?_⟩
 by_cases hil:i<am.length
 ·rw[jn_ hil]at hi
  rw[jn_ (by rw[h.1];exact hil)]
  exact h.2 i r hi
 ·have:=(jd_.mp hi).1
  rw[jk_,jZ_]at this
  have ei:i=am.length:=by lia
  subst ei
  rw[jq_ (jf_ _),qr_]at hi
  simp at hi
  subst hi
  exact⟨c,ys,n1,by rw[<-h.1];simp,e2,e3,e4⟩
noncomputable def Wb (K:α3):Sp:=fun vs H Q _=>∃(h:Addr) (p:Int) (L d:Nat) (first last:α2) (tables:α0),vs=[.ref h]/\Pr p/\SumH K H h p L first tables last/\WfSum p L d first tables last/\L<=6/\d<=16/\∀q lw lm zs xs F ws am H',Same H H'->SqT K H' q [.ref lw,.ref lm]->H' lw=some (.lst zs)->Yr K H' zs ws->H' lm=some (.lst xs)->AmD H' lm xs am->AmF p L d (Mine.rowS p d tables first) ws am->BW p L d tables first F F.length ws->ws.length<=d->Q (.ref q) H'
theorem Td   (F:Fun K "sums_basis" "sums_basis" DT f fd)(T:Txt mg)
  (W:Own K mg)
  (Z:Exs K mg C_j3 C_j0 C_j2 C_j1)
   (FC:FnOk P w K mg base CX0 5 BZ GZ ["p","rows","some","size"] (HT_ K)) (CO:Fun K "factors_of_each" "factors_of_each" Bv BZ GZ) (FD:AI K GZ ["p","rows","some","size"] []) (FE:mg "factors_of_each"=some (.ref BZ))
   (E8:FnOk P w K mg base CX0 3 Dn EB ["house","row","letter"] (J8 K)) (DZ:Fun K "stepped" "stepped" EX Dn EB) (E9:AI K EB ["house","row","letter"] []) (Fb:mg "stepped"=some (.ref Dn))
   (EG:FnOk P w K mg base CX0 4 Co Fd ["house"] (Ta K)) (C0:Fun K "basis_rows" "basis_rows" CV Co Fd) (EH:AI K Fd ["house"] []) (EI:mg "basis_rows"=some (.ref Co))
  : FnOk P w K mg base CX0 6 f fd ["house"] (Wb K):=by
 refine F.ok Eb (fun vs H Q E h=>?_) (fun cdv A outer s H vs Q E hr h=>?_)
 ·obtain⟨h,p,L,d,first,last,tables,rfl,_⟩:=h;rfl
 ·obtain⟨h,p,L,d,first,last,tables,rfl,hp,hh,wf,hL6,hd16,k⟩:=h
  have hl:=Au
  have hp1:=hp.1
  obtain⟨tf,tt,tl,h1,h2,h3,h4⟩:=id hh
  refine⟨_,(Ae (Ah (i:=1) Eb.nd (Ai EG (hr.mono (by decide)) rfl EI C0.kp EH .nil AL (Aa (pvD 0) Ab)))
   (Ae (Ah (i:=2) Eb.nd (AR (NW rfl) rfl T.list xo_ (Aa (BE_ (pvD 1)) Ab)))
   (Ae (Ah (i:=3) Eb.nd (Ex Ab))
   (Ae (Cg jF_ rfl (Mo (pvD 2)) (Aw (i:=4) Eb.nd rfl (Or.inr rfl))
   (Ae (SA (i:=5) Eb.nd rfl rfl rfl (DK rfl) (cp:=Kn) ⟨⟨rfl,rfl⟩,⟨⟨rfl,rfl⟩,True.intro⟩⟩ (A3 rfl T.range (Aa (Aj (ixTD Am) (pvD 0) Ad) Ab)) (fun _ _ _ _=>(Aw (i:=0) Mv rfl (Or.inl rfl))) (fun _ _ _ _=>DI) (fun _ _ _ _=>(Ai E8 (hr.mono (by decide)) rfl Fb DZ.kp E9 .nil AL (Aa (pvD 1) (Aa (pvD 2) (Aa (pvD 0) Ab))))))
   (Ag (CH (Lc jQ_ jN_ jO_ Ci (pvD 3) (Aa (Ai FC (hr.mono (by decide)) rfl FE CO.kp FD .nil AL (Aa (Aj (ixTD Am) (pvD 0) Ad) (Aa (pvD 2) (Aa (pvD 5) (Aa (Az (lenD Ao) (by rfl) T.len jH_ (Aa (Aj (ixTD Am) (pvD 0) Ad) Ab)) Ab))))) Ab))))))
   (Ag (Ay (A4 (Aa (AR (OV rfl) rfl T.list xo_ (Aa (pvD 1) Ab)) (Aa (pvD 3) Ab))))))))),?_⟩
  walk_at "rd"
  refine⟨h,p,L,d,first,last,tables,rfl,hp,hh,wf,hL6,by lia,by have:=qz_ hd16 hL6;lia,fun q kvs F ws H1 s1 hq hqN rd bw hwd=>?_⟩
  show (fun x H1=>_) (V.ref q) H1
  walk_at "rd"
  refine⟨kvs,.inl hq,fun v hv=>⟨q,Ac,kvs,.inl (Same.new hv _ _ hq),fun l hlN=>⟨by lia,fun pm hpm=>?_⟩⟩⟩
  obtain⟨R,hRd⟩:∃R:α2->α2,R=Mine.rowS p d tables first:=⟨_,rfl⟩
  rw[<-hRd]at rd
  have hRl:∀v,(R v).length=d/\∀y∈R v,0<=y/\y<p:=fun v=>by rw[hRd];exact wf.row v
  have hRs:∀v x,R (v++[x])=FW p d tables (R v) x:=fun v x=>by rw[hRd];unfold Mine.rowS;rw[qE_];rfl
  have sV:=Same.new hv (o:=QH v q)
  have s2:=(s1.trans sV).newT hlN (o:=.lst (kvs.map (·.2)))
  have s3:=s2.newT hpm (o:=.lst [])
  have s13:=(sV.newT hlN (o:=.lst (kvs.map (·.2)))).newT hpm (o:=.lst [])
  have hpmN:H pm=none:=s2.gone' hpm
  have u_l:upd (upd (upd H1 v (QH v q)) l (.lst (kvs.map (·.2)))) pm (.lst []) l=some (.lst (kvs.map (·.2))):=Same.new hpm _ _ Ac
  have u_m:upd (upd (upd H1 v (QH v q)) l (.lst (kvs.map (·.2)))) pm (.lst []) pm=some (.lst []):=Ac
  generalize upd (upd (upd H1 v (QH v q)) l (.lst (kvs.map (·.2)))) pm (.lst [])=H3 at s3 s13 u_l u_m ⊢
  have hlm:l≠pm:=fun z=>by rw[z]at hlN hpm;rw[Ac]at hpm;cases hpm
  have hrl:(kvs.map (·.2)).length=ws.length:=by have:=rd.2.1;rw[jb_ (f:=R)]at this;exact this
  obtain⟨Pv,hPv⟩:∃Pv:Nat->St->Hp->Prop,∀i σ' H',Pv i σ' H'↔(∃(xs:List V) (am:α0) (o4 o5:Option V),Same H H'/\H' q=some (.dT kvs)/\Ba K H' (kvs.map (·.2)) (ws.map R)/\H' l=some (.lst (kvs.map (·.2)))/\H' pm=some (.lst xs)/\AmD H' pm xs am/\am.length=i/\(∀(j:Nat) (a:α1) (v:α2),am[j]?=some a->ws[j]?=some v->a.length=L/\∀(x:Nat) (g:α2),a[x]?=some g->Sa p L d R ws (v++[(x:Int)]) g)/\σ'=[some (.ref h),some (.ref q),some (.ref l),some (.ref pm),o4,o5]):=⟨_,fun _ _ _=>qf_⟩
  refine⟨⟨_,SqL.of u_l⟩,?_⟩
  refine forL (xs:=kvs.map (·.2)) Pv ((hPv _ _ _).mpr ⟨[],[],none,none,s3,s13 _ _ hq,rd.2.mono2 fun t ys z=>s13.seqT z,u_l,u_m,⟨rfl,fun i a hi=>by simp at hi⟩,rfl,fun j a v hj=>by simp at hj,rfl⟩) (fun i σ' H' _ h'=>by obtain⟨_,_,_,_,_,_,_,z,_⟩:=(hPv _ _ _).mp h';exact SqL.of z) (fun i x σ' H' hx h'=>?_) (fun σ' H' h'=>?_)
  ·obtain⟨xs,am,o4,o5,g1,g2,g3,g4,g5,g6,g7,g8,rfl⟩:=(hPv _ _ _).mp h'
   have hiw:i<ws.length:=by rw[<-hrl];exact (jd_.mp hx).1
   have hwi:ws[i]?=some ws[i]:=by simp
   obtain⟨tr,et,hrow⟩:=g3.2 i (R ws[i]) (by rw[jh_,hwi];rfl)
   rw[hx]at et
   cases et
   generalize ws[i]=w0 at hwi hrow
   have hw0:w0∈ws:=jj_ hwi
   walk_at "rd"
   refine⟨_,g1.seqT h1,V.int L,rfl,(L:Int),rfl,by lia,by lia,OR (fun j ys σ2 H2=>Same H' H2/\Ba K H2 ys ((List.range j).map fun (x:Nat)=>R (w0++[(x:Int)]))/\∃o,σ2=[o,some (.ref h),some (.ref tr)]) ⟨Same.refl _,⟨rfl,fun i r hi=>by simp at hi⟩,none,rfl⟩ s!"" (fun j ys σ2 H2 hj h2=>by have:=h2.2.1.1;rw[jb_,jU_]at this;lia) (fun j ys σ2 H2 hj h2=>?_) (fun ys σ2 H2 h2 D hD=>?_)⟩
   ·obtain⟨s2',hy,o,rfl⟩:=h2
    rw[j3_]
    walk_at "rd"
    refine⟨h,tr,p,L,j,d,first,last,R w0,tables,rfl,(hh.mono g1).mono s2',wf,s2'.seqT hrow,(hRl w0).1,(hRl w0).2,by lia,by lia,fun u H5 s5 hu=>⟨s2'.trans s5,?_,_,rfl⟩⟩
    rw[j2_,ji_]
    refine Ba.snoc (hy.mono2 fun t ys z=>s5.seqT z) ?_
    show SqT K H5 u ((R (w0++[(j:Int)])).map V.int)
    rw[hRs];exact SqT.of hu
   ·obtain⟨s2',hy,o,rfl⟩:=h2
    rw[show ((L:Int)).toNat=L by lia]at hy
    have sD:=s2'.newT hD (o:=.lst ys)
    have uD:upd H2 D (.lst ys) D=some (.lst ys):=Ac
    have hyD:=hy.mono2 fun t zs z=>(Same.new hD (o:=.lst ys)).seqT z
    generalize upd H2 D (.lst ys)=H4 at sD uD hyD ⊢
    have q4:=sD _ _ g5
    have s14:=g1.trans sD
    refine⟨.inl ⟨rfl,_,SqL.of q4⟩,_,s14.seqT h1,V.int p,rfl,_,s14.seqT h1,V.ref tf,rfl,tf,rfl,_,.inr (s14.seqT h2),?_⟩
    rw[jb_,wf.f.1]
    refine⟨p,false,l,D,d,kvs.map (·.2),ys,ws.map R,(List.range L).map fun (x:Nat)=>R (w0++[(x:Int)]),rfl,hp,SqL.of (sD _ _ g4),g3.mono2 fun t zs z=>sD.seqT z,fun r hr=>by obtain⟨v,_,rfl⟩:=jv_.mp hr;exact (hRl v).1,SqL.of uD,hyD,fun r hr=>by obtain⟨v,_,rfl⟩:=jv_.mp hr;exact (hRl _).1,by lia,by rw[jb_];lia,by rw[jb_,jU_];lia,fun c zs bs H5 s5 hcN hc sn tf'=>?_⟩
    have q5:=s5 _ _ q4
    have hcp:c≠pm:=fun z=>by rw[z,q4]at hcN;cases hcN
    have s05:=sD.trans s5
    have hgood:∀x:Nat,x<L->∃g,Sa p L d R ws (w0++[(x:Int)]) g/\∃e,e≠pm/\zs[x]?=some (.ref e)/\H5 e=some (.lst (g.map V.int)):=fun x hx'=>by
     have hf:w0++[(x:Int)]∈F:=bw.kids w0 hw0 x s!"" s!""
     rw[hRd]at sn
     obtain⟨gs,gg⟩:=HU_ hp wf bw sn hf
     rw[<-hRd]at gs gg
     rcases tf'.2 x (R (w0++[(x:Int)])) (by rw[jh_,j7_ hx'];rfl) with ⟨_,e,e1,e2⟩|⟨z,_⟩
     ·refine⟨_,gg,e,fun z=>?_,e1,e2⟩
      rw[z,q5]at e2
      have e3:=HO.lst.inj (jB_ e2)
      have hgl:=gg.1
      have hxl:xs.length=ws.length:=by rw[e3,jb_,hgl]
      have hal:=g6.1
      lia
     ·exact absurd gs z
    obtain⟨ga,hga⟩:∃ga:α1,ga.length=L/\∀(x:Nat) (g:α2),ga[x]?=some g->Sa p L d R ws (w0++[(x:Int)]) g/\∃e,e≠pm/\zs[x]?=some (.ref e)/\H5 e=some (.lst (g.map V.int)):=by
     have key:∀n:Nat,n<=L->∃ga:α1,ga.length=n/\∀(x:Nat) (g:α2),ga[x]?=some g->Sa p L d R ws (w0++[(x:Int)]) g/\∃e,e≠pm/\zs[x]?=some (.ref e)/\H5 e=some (.lst (g.map V.int)):=fun n=>by
      induction n with
      |zero=>exact fun _=>⟨[],rfl,fun x g hg=>by simp at hg⟩
      |succ n ih=>
       intro hn
       obtain⟨ga,e1,e2⟩:=ih s!""
       obtain⟨g,hg⟩:=hgood n s!""
       refine⟨ga++[g],by rw[jk_,e1];rfl,fun x g' hx'=>?_⟩
       by_cases hxn:x<n
       ·rw[jn_ s!""]at hx'
        exact e2 x g' hx'
       ·have:=(jd_.mp hx').1
        rw[jk_,jZ_]at this
        have ex:x=n:=by lia
        subst ex
        rw[jq_ s!"",e1,qr_]at hx'
        simp at hx'
        subst hx'
        exact hg
     exact key L (jf_ _)
    have zl:zs.length=ga.length:=by rw[tf'.1,jb_,jU_,hga.1]
    have hal:=g6.1
    refine⟨xs,q5,by lia,(hPv _ _ _).mpr ⟨_,am++[ga],_,_,(s14.trans s5).over hpmN,?_,(g3.mono2 fun t zs z=>s05.seqT z).mono2 fun t zs z=>AV q5 z,?_,Ac,?_,by rw[jk_,g7];rfl,fun j a v hj hv'=>?_,rfl⟩⟩
    ·rw[AD (fun z=>by have:=s05 _ _ g2;rw[z,q5]at this;cases this)];exact s05 _ _ g2
    ·rw[AD hlm];exact s05 _ _ g4
    ·refine (g6.mono fun a ys ha z=>?_).snoc (c:=c) hcp ?_ zl fun j g hj=>?_
     ·rw[AD ha];exact s05 _ _ z
     ·rw[AD hcp];exact hc
     ·obtain⟨_,e,n2,e1,e2⟩:=hga.2 j g hj
      exact⟨e,n2,e1,by rw[AD n2];exact e2⟩
    ·by_cases hji:j<am.length
     ·rw[jn_ hji]at hj
      exact g8 j a v hj hv'
     ·have:=(jd_.mp hj).1
      rw[jk_,jZ_]at this
      have ej:j=i:=by lia
      subst ej
      rw[jq_ s!"",g7,qr_]at hj
      simp at hj
      subst hj
      rw[hwi]at hv'
      cases hv'
      exact⟨hga.1,fun x g hg=>(hga.2 x g hg).1⟩
  ·obtain⟨xs,am,o4,o5,g1,g2,g3,g4,g5,g6,g7,g8,rfl⟩:=(hPv _ _ _).mp h'
   rw[hrl]at g7
   walk_at "rd"
   refine⟨kvs,.inl g2,fun lw rs hlw hrs hat=>⟨by lia,fun z hz=>?_⟩⟩
   have sZ:=(Same.new hlw (o:=.lst rs)).newT hz (o:=.tup [V.ref lw,V.ref pm])
   rw[hRd]at g8
   refine k z lw pm rs xs F ws am _ (g1.trans sZ) (SqT.of Ac) (Same.new hz _ _ Ac) ⟨?_,fun i v hi=>?_⟩ (sZ _ _ g5) (g6.mono fun a ys _ z=>sZ _ _ z) ⟨g7,g8⟩ bw hwd
   ·rw[hrs];rw[jb_]at hrl;exact hrl
   ·have hk:(kvs.map (·.1))[i]?=some (wkey v):=by rw[rd.1,jh_,hi];rfl
    rw[jh_]at hk
    cases e:kvs[i]? with
    |none=>rw[e]at hk;cases hk
    |some kv=>
     rw[e]at hk
     obtain⟨t,e1,e2⟩:=hat i kv.1 kv.2 e
     refine⟨t,e1,sZ _ _ ?_⟩
     rw[e2,show kv.1=wkey v from jB_ hk,Xn]
noncomputable def cell (ns:α2)(k:Nat):Int:=ns.getD k 0
noncomputable def KS (K:α3):Sp:=fun vs H Q _=>∃(a:Addr) (ns:α2) (k:Nat),vs=[.ref a,.int k]/\SqL K H a (ns.map V.int)/\Q (.int (cell ns k)) H
theorem Wc   (F:Fun K "_law_cell" "_law_cell" BF f fd)(T:Txt mg)
  (W:Own K mg)
  (Z:Exs K mg C_j3 C_j0 C_j2 C_j1)
  : FnOk P w K mg base CX0 1 f fd ["script","k"] (KS K):=by
 refine F.ok VZ (fun vs H Q E h=>?_) (fun cdv A outer s H vs Q E hr h=>?_)
 ·obtain⟨a,ns,k,rfl,_⟩:=h;rfl
 ·obtain⟨a,ns,k,rfl,hs,q⟩:=h
  refine⟨_,(Ae (CI (ptT (AK (opD0 VA) (pvD 1) (Az (lenD Ao) (by rfl) T.len jH_ (Aa (pvD 0) Ab)) (AQ _)))
   (Ag (Ay (Aj (ixLD BM) (pvD 0) (pvD 1))))
   AZ)
   (Ag (Ay Ad))),?_⟩
  walk_at "rd"
  refine⟨_,.inl hs,?_⟩
  rw[jb_]
  refine ite2 (fun hk=>?_) (fun hk=>?_)
  ·have hk':k<ns.length:=by simpa using hk
   refine⟨_,hs,V.int (cell ns k),?_,q⟩
   refine AY ?_
   rw[jh_]
   unfold cell
   rw[ja_]
   simp[hk']
  ·have hk':¬ k<ns.length:=by simpa using hk
   have:cell ns k=0:=by
    unfold cell
    rw[ja_,ju_ s!""];rfl
   rw[<-this]
   exact q
noncomputable def Pp:Sp:=fun vs H Q _=>∃n:Int,vs=[.int n]/\2<=n/\n<=1000/\∀b,(b=true↔HX n.toNat)->Q (.bl b) H
theorem N2   (F:Fun K "_law_is_prime" "_law_is_prime" B1 f fd)(T:Txt mg)
  (W:Own K mg)
  (Z:Exs K mg C_j3 C_j0 C_j2 C_j1)
  : FnOk P w K mg base CX0 1 f fd ["number"] (Pp):=by
 refine F.ok IG (fun vs H Q E h=>?_) (fun cdv A outer s H vs Q E hr h=>?_)
 ·obtain⟨n,rfl,_⟩:=h;rfl
 ·obtain⟨n,rfl,hn,hn1,k⟩:=h
  refine⟨_,(Ae (Cg jF_ rfl (Aw_ rfl T.range (Aa Ad (Aa (pvD 0) Ab))) (Aw (i:=1) IG.nd rfl (Or.inl rfl))
   (Ae (CI (ptT (AK (opD0 Fg_) (Al (opD DH) (pvD 1) (pvD 1)) (pvD 0) (AQ _)))
   (Ag (Ay Gu))
   AZ)
   (Ag (CI (ptT (AK (opE I0) (Al (opD Bb) (pvD 0) (pvD 1)) Ad (AQ _)))
   (Ag (Ay Gu))
   AZ))))
   (Ag (Ay Gu))),?_⟩
  walk_at "rd"
  refine⟨by lia,by lia,by lia,by lia,?_⟩
  refine forR (fun i σ2 H2=>H2=H/\(∀d,2<=d->d<2+i->n.toNat%d≠0)/\∃o,σ2=[some (.int n),o]) ⟨rfl,fun d h1 h2=>by lia,none,rfl⟩ (fun i σ2 H2 hi h2=>?_) (fun σ2 H2 h2=>?_)
  ·obtain⟨rfl,hall,o,rfl⟩:=h2
   walk_at "rd"
   refine⟨.inl ⟨by lia,by lia⟩,ite2 (fun hp=>k true ⟨fun _=>?_,fun _=>rfl⟩) (fun hp=>⟨by lia,ite2 (fun hm=>k false ⟨(fun z=>by cases z),fun z=>?_⟩) (fun hm=>⟨fun d h1 h2=>?_,_,rfl⟩)⟩)⟩
   ·refine HX.small (k:=2+i) s!"" ?_ fun d h1 h2 _=>hall d h1 h2
    have hp':n<((2+i:Nat):Int)*((2+i:Nat):Int):=by push_cast;lia
    rw[<-xw_]at hp'
    lia
   ·refine absurd ?_ (z (2+i) s!"" s!"")
    have:(n.toNat:Int)%((2+i:Nat):Int)=0:=by rw[show (n.toNat:Int)=n from by lia];push_cast;exact hm
    lia
   ·by_cases hd:d<2+i
    ·exact hall d h1 hd
    ·have:d=2+i:=by lia
     subst this
     intro z
     have z2:(n.toNat:Int)%((2+i:Nat):Int)=0:=by lia
     rw[show (n.toNat:Int)=n from by lia]at z2
     push_cast at z2
     exact hm z2
  ·obtain⟨rfl,hall,o,rfl⟩:=h2
   walk_at "rd"
   exact k true ⟨fun _ d h1 h2=>hall d h1 s!"",fun _=>rfl⟩
noncomputable def Te:α2:=[2,3,5,7,65537,998244353,2147483647,180143985094819841]
noncomputable def YN (K:α3):Sp:=fun vs H Q _=>∃c:Int,vs=[.int c]/\∀p H',Same H H'->Pr p->Q (.int p) H'
theorem Tf   (F:Fun K "_law_prime" "_law_prime" DU f fd)(T:Txt mg)
  (W:Own K mg)
  (Z:Exs K mg C_j3 C_j0 C_j2 C_j1)
   (GK:FnOk P w K mg base CX0 1 CP IH ["number"] (Pp)) (D0:Fun K "_law_is_prime" "_law_is_prime" B1 CP IH) (GL:AI K IH ["number"] []) (GN:mg "_law_is_prime"=some (.ref CP))
  : FnOk P w K mg base CX0 2 f fd ["cell"] (YN K):=by
 refine F.ok Gj (fun vs H Q E h=>?_) (fun cdv A outer s H vs Q E hr h=>?_)
 ·obtain⟨c,rfl,_⟩:=h;rfl
 ·obtain⟨c,rfl,k⟩:=h
  have hl:=Au
  refine⟨_,(Ae (Ah (i:=1) Gj.nd (Ex (Aa Ad (Aa Ad (Aa Ad (Aa Ad (Aa Ad (Aa Ad (Aa Ad (Aa Ad Ab))))))))))
   (Ae (CI (ptT (AK (opD0 VA) (Al (opD Bb) (pvD 0) Ad) Ad (AQ _)))
   (Ag (Ay (Aj (ixLD BM) (pvD 1) (Al (opD Bb) (Al (opD Gb) (pvD 0) Ad) Ad))))
   AZ)
   (Ae (Ah (i:=2) Gj.nd (Al (opD0 Bw) Ad (Al (opD Bb) (Al (opD Gb) (pvD 0) Ad) Ad)))
   (Ae (Sr jF_ (Hh (ptB (Gg (Ai GK (hr.mono (by decide)) rfl GN D0.kp GL .nil AL (Aa (pvD 2) Ab)))))
   (Ag (Ah (i:=2) Gj.nd (Al (opD0 Bw) (pvD 2) Ad))))
   (Ag (Ay (pvD 2))))))),?_⟩
  walk_at "rd"
  refine⟨by lia,fun q hq=>⟨by decide,ite2 (fun _=>?_) (fun _=>⟨⟨by decide,by decide⟩,by decide,?_⟩)⟩⟩
  ·have e0:=jJ_ (c / 4) (show (8:Int)≠0 by decide)
   have e1:=jE_ (c / 4) (show (0:Int)<8 by decide)
   refine⟨⟨by decide,by decide⟩,by decide,_,SqL.of Ac,?_⟩
   generalize c / 4%8=j at e0 e1
   have hj:j.toNat<Te.length:=by show j.toNat<8;lia
   have hx:Te[j.toNat]?=some Te[j.toNat]:=by simp[hj]
   exact⟨_,(Gy e0 hx:atI (Te.map V.int) j=_),k _ _ (Same.new hq) (FB_ _ (jD_ hj))⟩
  ·have e0:=jJ_ (c / 4) (show (200:Int)≠0 by decide)
   have e1:=jE_ (c / 4) (show (0:Int)<200 by decide)
   generalize c / 4%200=j at e0 e1
   have s0:=Same.new (o:=.lst [V.int 2,V.int 3,V.int 5,V.int 7,V.int 65537,V.int 998244353,V.int 2147483647,V.int 180143985094819841]) hq
   generalize upd H q (.lst [V.int 2,V.int 3,V.int 5,V.int 7,V.int 65537,V.int 998244353,V.int 2147483647,V.int 180143985094819841])=H0 at s0 ⊢
   have h211:HX 211:=Hj (n:=4) (by decide) (by decide +kernel) (by decide +kernel)
   obtain⟨Pv,hPv⟩:∃Pv:Nat->St->Hp->Prop,∀m σ2 H2,Pv m σ2 H2↔(H2=H0/\∃nb:Int,m=(211-nb).toNat/\2<=nb/\nb<=211/\σ2=[some (.int c),some (.ref q),some (.int nb)]):=⟨_,fun _ _ _=>qf_⟩
   refine Bf_ Pv ⟨_,(hPv _ _ _).mpr ⟨rfl,2+j,rfl,by lia,by lia,rfl⟩⟩ ?_
   intro m σ2 H2 hpv
   obtain⟨rfl,nb,rfl,n0,n1,rfl⟩:=(hPv _ _ _).mp hpv
   walk_at "rd"
   refine⟨nb,rfl,n0,by lia,fun b hb=>⟨b,rfl,?_⟩⟩
   cases b with
   |true=>
    rw[if_neg (by decide)]
    exact k nb _ s0 ⟨n0,by lia,hb.mp rfl⟩
   |false=>
    rw[if_pos (by decide)]
    have hne:nb≠211:=fun z=>by
     have:=hb.mpr (by rw[z];exact h211)
     cases this
    refine⟨fun σ' H'=>∃m',m'<(211-nb).toNat/\Pv m' σ' H',fun _ _ h=>h,_,?_,(hPv _ _ _).mpr ⟨rfl,nb+1,rfl,by lia,by lia,rfl⟩⟩
    lia
noncomputable def Tg:Sp:=fun vs H Q _=>∃n:Int,vs=[.int n]/\Q (.bl true) H
theorem Th   (F:Fun K "_law_whole" "_law_whole" CW f fd)(T:Txt mg)
  (W:Own K mg)
  (Z:Exs K mg C_j3 C_j0 C_j2 C_j1)
  : FnOk P w K mg base CX0 1 f fd ["found"] (Tg):=by
 refine F.ok SU (fun vs H Q E h=>?_) (fun cdv A outer s H vs Q E hr h=>?_)
 ·obtain⟨n,rfl,_⟩:=h;rfl
 ·obtain⟨n,rfl,q⟩:=h
  refine⟨_,(Ag (Ay (Vy (Az Ez rfl T.isinstance ql_ (Aa (pvD 0) (Aa (Mn (v:=.ty "int") rfl T.int PyProof.Rows.boot_int rfl) Ab))) (Ya (DH_ (Az Ez rfl T.isinstance ql_ (Aa (pvD 0) (Aa (Mn (v:=.ty "bool") rfl T.bool PyProof.Rows.boot_bool rfl) Ab)))))))),?_⟩
  walk_at "rd"
  refine⟨_,_,.int _,OS,_,Lg,?_⟩
  rw[if_pos rfl]
  refine⟨_,_,.int _,OS,_,VN,?_⟩
  exact q
noncomputable def Sm (p:Int)(tables:α0):Prop:=∀tb∈tables,∀r∈tb,∀x∈r,0<=x/\x<p
noncomputable def Ie (K:α3):Sp:=fun vs H Q _=>∃(a:Addr) (ns:α2) (k p:Int),vs=[.ref a,.int k,.int p]/\SqL K H a (ns.map V.int)/\0<=k/\k<=100000/\0<p/\∀x,0<=x->x<p->Q (.int x) H
theorem QN   (F:Fun K "_law_number" "_law_number" BN f fd)(T:Txt mg)
  (W:Own K mg)
  (Z:Exs K mg C_j3 C_j0 C_j2 C_j1)
   (AE:FnOk P w K mg base CX0 1 AN AX ["script","k"] (KS K)) (AA:Fun K "_law_cell" "_law_cell" BF AN AX) (AF:AI K AX ["script","k"] []) (AG:mg "_law_cell"=some (.ref AN))
  : FnOk P w K mg base CX0 2 f fd ["script","k","p"] (Ie K):=by
 refine F.ok Kh (fun vs H Q E h=>?_) (fun cdv A outer s H vs Q E hr h=>?_)
 ·obtain⟨a,ns,k,p,rfl,_⟩:=h;rfl
 ·obtain⟨a,ns,k,p,rfl,hs,k0,k1,hp,q⟩:=h
  refine⟨_,(Ae (CI (ptT (AK (opD0 VA) (pvD 1) (Az (lenD Ao) (by rfl) T.len jH_ (Aa (pvD 0) Ab)) (AQ _)))
   (Ag (Ay (Al (opD Bb) (Aj (ixLD BM) (pvD 0) (pvD 1)) (pvD 2))))
   AZ)
   (Ae (Ah (i:=3) Kh.nd (Az (OK rfl) rfl T.max zg_ (Aa Ad (Aa (Az (lenD Ao) (by rfl) T.len jH_ (Aa (pvD 0) Ab)) Ab))))
   (Ag (Ay (Al (opD Bb) (Al (opD Bb) (Al (opD0 Bw) (Al (opD0 Bw) (Al (opD DH) (Al (opD Bb) (Ai AE (hr.mono (by decide)) rfl AG AA.kp AF .nil AL (Aa (pvD 0) (Aa (Al (opD Bb) (pvD 1) (pvD 3)) Ab))) Ad) Ad) (Al (opD DH) (Al (opD DH) (pvD 1) (pvD 1)) Ad)) (Al (opD DH) Ad (pvD 1))) Ad) (pvD 2)))))),?_⟩
  walk_at "rd"
  refine⟨_,.inl hs,?_⟩
  rw[jb_]
  refine ite2 (fun hk=>?_) (fun hk=>?_)
  ·have hk':k.toNat<ns.length:=by lia
   refine⟨_,hs,_,Gy k0 (v:=ns[k.toNat]) (by simp[hk']),?_⟩
   walk_at "rd"
   exact⟨hp,q _ (jJ_ _ s!"") (jE_ _ hp)⟩
  ·have hm:(0:Int)<if ((ns.map V.int).length:Int) > 1 then ((ns.map V.int).length:Int) else 1:=by split<;>lia
   have r0:=jJ_ k (show (if ((ns.map V.int).length:Int) > 1 then ((ns.map V.int).length:Int) else 1)≠0 by lia)
   exact⟨_,.inl hs,hm,a,ns,(k%if ((ns.map V.int).length:Int) > 1 then ((ns.map V.int).length:Int) else 1).toNat,by rw[q6_ r0],hs,_,rfl,by decide,.inr ⟨by decide,by decide⟩,.inl ⟨by lia,by lia⟩,.inr ⟨by decide,by decide⟩,.inl ⟨by decide,by decide⟩,by decide,hp,q _ (jJ_ _ s!"") (jE_ _ hp)⟩
noncomputable def OE (K:α3):Sp:=fun vs H Q _=>∃(a:Addr) (ns:α2) (c p:Int) (n:Nat),vs=[.ref a,.int c,.int n,.int p]/\SqL K H a (ns.map V.int)/\0<=c/\c<=10000/\n<=16/\0<p/\∀(t:Addr) (row:α2) (H':Hp),Same H H'->SqT K H' t (row.map V.int)->row.length=n->(∀x∈row,0<=x/\x<p)->Q (.ref t) H'
theorem XD   (F:Fun K "_law_row" "_law_row" Ec f fd)(T:Txt mg)
  (W:Own K mg)
  (Z:Exs K mg C_j3 C_j0 C_j2 C_j1)
   (BP:FnOk P w K mg base CX0 2 Bk BX ["script","k","p"] (Ie K)) (Br:Fun K "_law_number" "_law_number" BN Bk BX) (BQ:AI K BX ["script","k","p"] []) (BR:mg "_law_number"=some (.ref Bk))
  : FnOk P w K mg base CX0 3 f fd ["script","at","many","p"] (OE K):=by
 refine F.ok Xs (fun vs H Q E h=>?_) (fun cdv A outer s H vs Q E hr h=>?_)
 ·obtain⟨a,ns,c,p,n,rfl,_⟩:=h;rfl
 ·obtain⟨a,ns,c,p,n,rfl,hs,c0,c1,hn,hp,k⟩:=h
  have hl:=Au
  refine⟨_,(Ag (Ay (AR AJ rfl T.tuple jz_ (Aa (C4 rfl (DK rfl) (cp:=NF) ⟨⟨rfl,rfl⟩,⟨⟨rfl,rfl⟩,⟨⟨rfl,rfl⟩,True.intro⟩⟩⟩ (A3 rfl T.range (Aa (pvD 2) Ab)) (fun _ _ _ _=>(Aw (i:=0) O4 rfl (Or.inl rfl))) (fun _ _ _ _=>DI) (fun _ _ _ _=>(Ai BP (hr.mono (by decide)) rfl BR Br.kp BQ .nil AL (Aa (pvD 1) (Aa (Al (opD0 Bw) (pvD 3) (pvD 0)) (Aa (pvD 2) Ab)))))) Ab)))),?_⟩
  walk_at "rd"
  refine⟨by lia,by lia,?_⟩
  rw[jA_]
  obtain⟨Pc,hPc⟩:∃Pc:Nat->List V->St->Hp->Prop,∀j ys σ4 H4,Pc j ys σ4 H4↔(H4=H/\∃(row:α2) (o:Option V),ys=row.map V.int/\row.length=j/\(∀x∈row,0<=x/\x<p)/\σ4=[o,some (.ref a),some (.int p),some (.int c)]):=⟨_,fun _ _ _ _=>qf_⟩
  refine OR Pc ((hPc _ _ _ _).mpr ⟨rfl,[],none,rfl,rfl,by simp,rfl⟩) s!"" (fun j ys σ4 H4 _ h4=>?_) (fun j ys σ4 H4 hj h4=>?_) (fun ys σ4 H4 h4 D hD=>?_)
  ·obtain⟨_,row,o,rfl,hrl,_⟩:=(hPc _ _ _ _).mp h4
   rw[jb_];lia
  ·obtain⟨rfl,row,o,rfl,hrl,hrr,rfl⟩:=(hPc _ _ _ _).mp h4
   rw[j3_]
   walk_at "rd"
   refine⟨a,ns,c+j,p,rfl,hs,by lia,by lia,hp,fun x x0 x1=>(hPc _ _ _ _).mpr ⟨rfl,row++[x],_,by simp,by simp[hrl],fun z hz'=>?_,rfl⟩⟩
   rcases jx_.mp hz' with h' | h'
   ·exact hrr z h'
   ·rw[jg_.mp h'];exact⟨x0,x1⟩
  ·obtain⟨rfl,row,o,rfl,hrl,hrr,rfl⟩:=(hPc _ _ _ _).mp h4
   exact⟨D,rfl,_,.inl ⟨SqL.of Ac,fun t ht=>k t row _ ((Same.new hD).newT ht) (SqT.of Ac) hrl hrr⟩⟩
noncomputable def LC (K:α3):Sp:=fun vs H Q _=>∃(p:Int) (a b:Addr) (xs:List V) (rows:α1) (am:α2) (n:Nat),vs=[.int p,.ref b,.ref a]/\0<p/\p<1000000000000000000/\SqT K H a xs/\Ba K H xs rows/\rows.length=n/\(∀r∈rows,r.length=n)/\SqT K H b (am.map V.int)/\am.length=n/\n<=40/\(∀x∈am,0<=x/\x<p)/\∀q H',Same H H'->SqT K H' q ((DF p rows am n).map V.int)->Q (.ref q) H'
theorem We   (F:Fun K "_law_step" "_law_step" C5 f fd)(T:Txt mg)
  (W:Own K mg)
  (Z:Exs K mg C_j3 C_j0 C_j2 C_j1)
  : FnOk P w K mg base CX0 1 f fd ["p","row","table"] (LC K):=by
 refine F.ok Jg (fun vs H Q E h=>?_) (fun cdv A outer s H vs Q E hr h=>?_)
 ·obtain⟨p,a,b,xs,rows,am,n,rfl,_⟩:=h;rfl
 ·obtain⟨p,a,b,xs,rows,am,n,rfl,hp,hp18,ha,hrw,hrl,hrn,hb,hlen,hn,h64,k⟩:=h
  have hl:=Au
  refine⟨_,(Ae (Ah (i:=3) Jg.nd (Ex Ab))
   (Ae (Cg jF_ rfl (A3 rfl T.range (Aa (Az (lenD Ao) (by rfl) T.len jH_ (Aa (pvD 1) Ab)) Ab)) (Aw (i:=4) Jg.nd rfl (Or.inr rfl))
   (Ag (CH (Lc jQ_ jN_ jO_ Ci (pvD 3) (Aa (Al (opD Bb) (Az (OD rfl) rfl T.sum xx_ (Aa (C4 rfl (DK rfl) (cp:=Lj) ⟨⟨rfl,rfl⟩,⟨⟨rfl,rfl⟩,⟨⟨rfl,rfl⟩,True.intro⟩⟩⟩ (A3 rfl T.range (Aa (Az (lenD Ao) (by rfl) T.len jH_ (Aa (pvD 1) Ab)) Ab)) (fun _ _ _ _=>(Aw (i:=0) NZ rfl (Or.inl rfl))) (fun _ _ _ _=>DI) (fun _ _ _ _=>(Al (opD DH) (Aj (ixTD (Fv (K:=K) rfl)) (pvD 1) (pvD 0)) (Aj (ixTD (Fv (K:=K) rfl)) (Aj (ixTD (Fv (K:=K) rfl)) (pvD 3) (pvD 0)) (pvD 2))))) Ab)) (pvD 0)) Ab)))))
   (Ag (Ay (AR AJ rfl T.tuple jz_ (Aa (pvD 3) Ab)))))),?_⟩
  walk_at "rd"
  refine⟨by lia,fun q hq=>⟨_,.inr ((Same.new hq).seqT hb),by rw[jb_];lia,by rw[jb_];lia,?_⟩⟩
  rw[jA_,jb_,hlen]
  obtain⟨Pv,hPv⟩:∃Pv:Nat->St->Hp->Prop,∀c σ' H',Pv c σ' H'↔(Same H H'/\H' q=some (.lst ((DF p rows am c).map V.int))/\∃o,σ'=[some (.int p),some (.ref b),some (.ref a),some (.ref q),o]):=⟨_,fun _ _ _=>qf_⟩
  refine forR Pv ((hPv _ _ _).mpr ⟨Same.new hq,Ac,none,rfl⟩) (fun c σ2 H2 hc h2=>?_) (fun σ2 H2 h2=>?_)
  ·obtain⟨s2,hq2,o,rfl⟩:=(hPv _ _ _).mp h2
   rw[j3_]
   walk_at "rd"
   refine⟨.inl ⟨rfl,_,SqL.of hq2⟩,_,.inr (s2.seqT hb),by rw[jb_];lia,by rw[jb_];lia,?_⟩
   rw[jA_,jb_,hlen]
   obtain⟨Pc,hPc⟩:∃Pc:Nat->List V->St->Hp->Prop,∀j ys σ4 H4,Pc j ys σ4 H4↔(H4=H2/\ys=((List.range j).map fun k=>am.getD k 0*(rows.getD k []).getD c 0).map V.int/\∃o,σ4=[o,some (.ref b),some (.int c),some (.ref a)]):=⟨_,fun _ _ _ _=>qf_⟩
   refine OR Pc ((hPc _ _ _ _).mpr ⟨rfl,rfl,none,rfl⟩) s!"" (fun j ys σ4 H4 _ h4=>?_) (fun j ys σ4 H4 hj h4=>?_) (fun ys σ4 H4 h4 D hD=>?_)
   ·obtain⟨_,rfl,_⟩:=(hPc _ _ _ _).mp h4
    rw[jb_,jb_,jU_];exact jf_ _
   ·obtain⟨rfl,rfl,o',rfl⟩:=(hPc _ _ _ _).mp h4
    rw[j3_]
    have hja:j<am.length:=by lia
    have hjr:j<rows.length:=by lia
    obtain⟨t,e1,e2⟩:=hrw.2 j rows[j] (by simp[hjr])
    have hcl:c<(rows[j]).length:=by rw[hrn _ (jD_ hjr)];exact hc
    have er:rows.getD j []=rows[j]:=by rw[ja_,jc_ hjr];rfl
    have ea:am.getD j 0=am[j]:=by rw[ja_,jc_ hja];rfl
    have ec:(rows.getD j []).getD c 0=(rows[j])[c]:=by rw[er,ja_,jc_ hcl];rfl
    have hx:=h64 _ (jD_ hja)
    walk_at "rd"
    refine⟨_,s2.seqT hb,_,Gy s!"" (v:=am[j]) (by simp[hja]),_,s2.seqT ha,_,AY e1,t,rfl,_,s2.seqT e2,_,Gy s!"" (v:=(rows[j])[c]) (by simp[hcl]),?_⟩
    refine⟨_,rfl,_,rfl,.inl ⟨by lia,by lia⟩,(hPc _ _ _ _).mpr ⟨rfl,?_,_,rfl⟩⟩
    rw[j2_,ji_,ji_,j6_,j6_,ea,ec]
   ·obtain⟨rfl,rfl,o',rfl⟩:=(hPc _ _ _ _).mp h4
    refine⟨D,rfl,_,SqL.of Ac,hp,_,(Same.new hD) _ _ hq2,by unfold DF;rw[jb_,jb_,jU_];lia,(hPv _ _ _).mpr ⟨(s2.newT hD).over hq,?_,_,rfl⟩⟩
    have:=EP_ am rows c s!""
    rw[hrl]at this
    rw[Ac,this]
    unfold DF
    rw[j2_,ji_,ji_];rfl
  ·obtain⟨s2,hq2,o,rfl⟩:=(hPv _ _ _).mp h2
   walk_at "rd"
   exact⟨_,.inl ⟨SqL.of hq2,fun t ht=>k t _ (s2.newT ht) (SqT.of Ac)⟩⟩
noncomputable def ML (K:α3):Sp:=fun vs H Q _=>∃(p:Int) (a b:Addr) (xs ys:α2),vs=[.int p,.ref a,.ref b]/\0<p/\p<1000000000000000000/\SqT K H a (xs.map V.int)/\SqT K H b (ys.map V.int)/\xs.length=ys.length/\xs.length<=40/\(∀x∈xs,0<=x/\x<p)/\∀H',Same H H'->Q (.int (dotW xs ys%p)) H'
theorem Ti   (F:Fun K "_law_times" "_law_times" CZ f fd)(T:Txt mg)
  (W:Own K mg)
  (Z:Exs K mg C_j3 C_j0 C_j2 C_j1)
  : FnOk P w K mg base CX0 1 f fd ["p","one","two"] (ML K):=by
 refine F.ok SV (fun vs H Q E h=>?_) (fun cdv A outer s H vs Q E hr h=>?_)
 ·obtain⟨p,a,b,xs,ys,rfl,_⟩:=h;rfl
 ·obtain⟨p,a,b,xs,ys,rfl,hp,hp18,ha,hb,hlen,hn,h64,k⟩:=h
  have hl:=Au
  refine⟨_,(Ag (Ay (Al (opD Bb) (Az (OD rfl) rfl T.sum xx_ (Aa (C4 rfl (DK rfl) (cp:=Kp) ⟨⟨rfl,rfl⟩,⟨⟨rfl,rfl⟩,True.intro⟩⟩ (A3 rfl T.range (Aa (Az (lenD Ao) (by rfl) T.len jH_ (Aa (pvD 1) Ab)) Ab)) (fun _ _ _ _=>(Aw (i:=0) My rfl (Or.inl rfl))) (fun _ _ _ _=>DI) (fun _ _ _ _=>(Al (opD DH) (Aj (ixTD (Fv (K:=K) rfl)) (pvD 1) (pvD 0)) (Aj (ixTD (Fv (K:=K) rfl)) (pvD 2) (pvD 0))))) Ab)) (pvD 0)))),?_⟩
  walk_at "rd"
  refine⟨_,.inr ha,by rw[jb_];lia,by rw[jb_];lia,?_⟩
  rw[jA_,jb_]
  obtain⟨Pe,hPe⟩:∃Pe:Nat->List V->St->Hp->Prop,∀j zs σ4 H',Pe j zs σ4 H'↔(H'=H/\zs=((List.range j).map fun k=>xs.getD k 0*ys.getD k 0).map V.int/\∃o,σ4=[o,some (.ref a),some (.ref b)]):=⟨_,fun _ _ _ _=>qf_⟩
  refine OR Pe ((hPe _ _ _ _).mpr ⟨rfl,rfl,none,rfl⟩) s!"" (fun j zs σ4 H' _ h4=>?_) (fun j zs σ4 H' hj h4=>?_) (fun zs σ4 H' h4 D6 hD6=>?_)
  ·obtain⟨_,rfl,_⟩:=(hPe _ _ _ _).mp h4
   rw[jb_,jb_,jU_];exact jf_ _
  ·obtain⟨rfl,rfl,o',rfl⟩:=(hPe _ _ _ _).mp h4
   rw[j3_]
   have hj2:j<ys.length:=by lia
   have ex:xs.getD j 0=xs[j]:=by rw[ja_,jc_ hj];rfl
   have ey:ys.getD j 0=ys[j]:=by rw[ja_,jc_ hj2];rfl
   have hx:=h64 _ (jD_ hj)
   walk_at "rd"
   refine⟨_,ha,_,Gy s!"" (v:=xs[j]) (by simp[hj]),_,hb,_,Gy s!"" (v:=ys[j]) (by simp[hj2]),_,rfl,_,rfl,.inl ⟨by lia,by lia⟩,(hPe _ _ _ _).mpr ⟨rfl,?_,_,rfl⟩⟩
   rw[j2_,ji_,ji_,j6_,j6_,ex,ey]
  ·obtain⟨rfl,rfl,o',rfl⟩:=(hPe _ _ _ _).mp h4
   have hsum:((List.range xs.length).map fun k=>xs.getD k 0*ys.getD k 0).sum=dotW xs ys:=by
    unfold dotW
    congr 1
    refine qJ_ (by simp[hlen]) fun i h1 h2=>?_
    have hi:i<xs.length:=by simpa using h1
    have hi':i<ys.length:=by lia
    simp[ja_,hi,hi']
   refine⟨D6,rfl,_,SqL.of Ac,hp,?_⟩
   rw[hsum]
   exact k _ (Same.new hD6)
noncomputable def Pq (K:α3):Sp:=fun vs H Q _=>∃(h a:Addr) (p L:Int) (d:Nat) (first last ws:α2) (tables:α0),vs=[.ref h,.ref a]/\SumH K H h p L first tables last/\WfSum p L d first tables last/\SqT K H a (ws.map V.int)/\isW L ws=true/\∀(t:Addr) (H':Hp),Same H H'->SqT K H' t ((rowS p d tables first ws).map V.int)->Q (.ref t) H'
theorem QO   (F:Fun K "_law_behind" "_law_behind" C6 f fd)(T:Txt mg)
  (W:Own K mg)
  (Z:Exs K mg C_j3 C_j0 C_j2 C_j1)
   (De:FnOk P w K mg base CX0 1 BK C1 ["p","row","table"] (LC K)) (B5:Fun K "_law_step" "_law_step" C5 BK C1) (Dh:AI K C1 ["p","row","table"] []) (Di:mg "_law_step"=some (.ref BK))
  : FnOk P w K mg base CX0 2 f fd ["house","word"] (Pq K):=by
 refine F.ok FJ (fun vs H Q E h=>?_) (fun cdv A outer s H vs Q E hr h=>?_)
 ·obtain⟨h,a,p,L,d,first,last,ws,tables,rfl,_⟩:=h;rfl
 ·obtain⟨h,a,p,L,d,first,last,ws,tables,rfl,hh,wf,hw,hv,k⟩:=h
  have h2:=wf.p2
  have h18:=wf.p18
  have hd:=wf.dl
  refine⟨_,(Ae (Ah (i:=2) FJ.nd (Aj (ixTD Am) (pvD 0) Ad))
   (Ae (Cg jF_ rfl (Kf (pvD 1)) (Aw (i:=3) FJ.nd rfl (Or.inl rfl))
   (Ag (Ah (i:=2) FJ.nd (Ai De (hr.mono (by decide)) rfl Di B5.kp Dh .nil AL (Aa (Aj (ixTD Am) (pvD 0) Ad) (Aa (pvD 2) (Aa (Aj (ixTD Am) (Aj (ixTD Am) (pvD 0) Ad) (pvD 3)) Ab)))))))
   (Ag (Ay (pvD 2))))),?_⟩
  obtain⟨tf,tt,tl,e1,e2,e3,e4⟩:=id hh
  walk_at "rd"
  refine⟨_,e1,_,rfl,⟨_,hw⟩,?_⟩
  obtain⟨Pv,hPv⟩:∃Pv:Nat->St->Hp->Prop,∀i σ' H',Pv i σ' H'↔(∃(t:Addr) (o:Option V),Same H H'/\SqT K H' t ((rowS p d tables first (ws.take i)).map V.int)/\σ'=[some (.ref h),some (.ref a),some (.ref t),o]):=⟨_,fun _ _ _=>qf_⟩
  refine forT (xs:=ws.map V.int) Pv ((hPv _ _ _).mpr ⟨tf,none,Same.refl _,e2,rfl⟩) (fun i σ' H' _ h'=>by obtain⟨_,_,s',_⟩:=(hPv _ _ _).mp h';exact s'.seqT hw) (fun i x σ' H' hx h'=>?_) (fun σ' H' h'=>?_)
  ·obtain⟨t,o,s2,ht,rfl⟩:=(hPv _ _ _).mp h'
   obtain⟨n,hn,rfl⟩:=J5 hx
   have hnr:=Bo.mp hv n (jj_ hn)
   obtain⟨r1,r2⟩:=wf.row (ws.take i)
   obtain⟨t1,t2,t3⟩:=wf.table hnr.1 hnr.2
   obtain⟨zs,u,xs,z1,z2,z3,z4⟩:=(e4.mono s2).at t1
   rw[q6_ hnr.1]at z2
   walk_at "rd"
   refine⟨_,s2.seqT e1,_,rfl,_,s2.seqT e1,_,rfl,?_⟩
   walk_at "rd"
   exact⟨_,z1,_,z2,p,u,t,xs,_,_,d,rfl,by lia,by lia,z3,z4,t2,t3,ht,r1,by lia,r2,fun q H3 s3 hq=>(hPv _ _ _).mpr ⟨q,_,s2.trans s3,by rw[V8 hn];exact hq,rfl⟩⟩
  ·obtain⟨t,o,s2,ht,rfl⟩:=(hPv _ _ _).mp h'
   rw[jb_,jM_]at ht
   walk_at "rd"
   exact k t _ s2 ht
noncomputable def TabL (K:α3)(H:Hp)(us:List Addr)(tables:α0):Prop:=us.length=tables.length/\∀(i:Nat) (u:Addr) (tb:α1),us[i]?=some u->tables[i]?=some tb->∃xs,SqT K H u xs/\Ba K H xs tb
theorem TabL.mono {K:α3}    (h:TabL K H us tables)(s:∀t ys,SqT K H t ys->SqT K H' t ys):TabL K H' us tables:=by
 refine⟨h.1,fun i u tb h1 h2=>?_⟩
 obtain⟨xs,d,e⟩:=h.2 i u tb h1 h2
 refine⟨xs,s _ _ d,e.1,fun j r hj=>?_⟩
 obtain⟨t,a,b⟩:=e.2 j r hj
 exact⟨t,a,s _ _ b⟩
theorem TabL.snoc {K:α3}       (h:TabL K H us tables)(h1:SqT K H u xs)(h2:Ba K H xs tb):TabL K H (us++[u]) (tables++[tb]):=by
 refine⟨by simp[h.1],fun i v tb' hi ht=>?_⟩
 by_cases hl:i<us.length
 ·rw[jn_ hl]at hi
  rw[jn_ (by rw[<-h.1];exact hl)]at ht
  exact h.2 i v tb' hi ht
 ·have:=(jd_.mp hi).1
  rw[jk_,jZ_]at this
  have e:i=us.length:=by lia
  subst e
  rw[jq_ (jf_ _),qr_]at hi
  rw[h.1,jq_ (jf_ _),qr_]at ht
  simp at hi ht
  subst hi ht
  exact⟨xs,h1,h2⟩
noncomputable def MM (K:α3):Sp:=fun vs H Q _=>∃(a:Addr) (ns:α2) (c p:Int) (L n:Nat),vs=[.ref a,.int c,.int p,.int L,.int n]/\SqL K H a (ns.map V.int)/\0<=c/\c<=100/\2<=p/\p<1000000000000000000/\1<=L/\L<=6/\n<=4/\∀(h:Addr) (first last:α2) (tables:α0) (H':Hp),Same H H'->SumH K H' h p L first tables last->WfSum p L n first tables last->Sm p tables->Q (.ref h) H'
theorem Tj   (F:Fun K "_law_house" "_law_house" CY f fd)(T:Txt mg)
  (W:Own K mg)
  (Z:Exs K mg C_j3 C_j0 C_j2 C_j1)
   (CQ:FnOk P w K mg base CX0 3 Cb D1 ["script","at","many","p"] (OE K)) (B0:Fun K "_law_row" "_law_row" Ec Cb D1) (CS:AI K D1 ["script","at","many","p"] []) (CT:mg "_law_row"=some (.ref Cb))
  : FnOk P w K mg base CX0 4 f fd ["script","at","p","letters","many"] (MM K):=by
 refine F.ok EZ (fun vs H Q E h=>?_) (fun cdv A outer s H vs Q E hr h=>?_)
 ·obtain⟨a,ns,c,p,L,n,rfl,_⟩:=h;rfl
 ·obtain⟨a,ns,c,p,L,n,rfl,hs,c0,c1,p2,p18,hL1,hL6,hn,k⟩:=h
  have hl:=Au
  refine⟨_,(Ae (Ah (i:=5) EZ.nd (Ex Ab))
   (Ae (Cg jF_ rfl (A3 rfl T.range (Aa (pvD 3) Ab)) (Aw (i:=6) EZ.nd rfl (Or.inl rfl))
   (Ae (OI (i:=7) EZ.nd rfl (Or.inr rfl) (Al (opD0 Bw) (Al (opD0 Bw) (pvD 1) (Al (opD DH) Ad (pvD 4))) (Al (opD DH) (Al (opD DH) (pvD 6) (pvD 4)) (pvD 4))))
   (Ag (CH (Lc jQ_ jN_ jO_ Ci (pvD 5) (Aa (AR AJ rfl T.tuple jz_ (Aa (C4 rfl (DK rfl) (cp:=Ko) ⟨⟨rfl,rfl⟩,⟨⟨rfl,rfl⟩,⟨⟨rfl,rfl⟩,⟨⟨rfl,rfl⟩,True.intro⟩⟩⟩⟩ (A3 rfl T.range (Aa (pvD 4) Ab)) (fun _ _ _ _=>(Aw (i:=0) Mw rfl (Or.inl rfl))) (fun _ _ _ _=>DI) (fun _ _ _ _=>(Ai CQ (hr.mono (by decide)) rfl CT B0.kp CS .nil AL (Aa (pvD 1) (Aa (Al (opD0 Bw) (pvD 4) (Al (opD DH) (pvD 2) (pvD 0))) (Aa (pvD 2) (Aa (pvD 3) Ab))))))) Ab)) Ab))))))
   (Ae (Ah (i:=8) EZ.nd (Ai CQ (hr.mono (by decide)) rfl CT B0.kp CS .nil AL (Aa (pvD 0) (Aa (pvD 1) (Aa (pvD 4) (Aa (pvD 2) Ab))))))
   (Ag (Ay (A4 (Aa (pvD 2) (Aa (pvD 3) (Aa (pvD 8) (Aa (AR AJ rfl T.tuple jz_ (Aa (pvD 5) Ab)) (Aa (Ai CQ (hr.mono (by decide)) rfl CT B0.kp CS .nil AL (Aa (pvD 0) (Aa (Al (opD0 Bw) (pvD 1) (pvD 4)) (Aa (pvD 4) (Aa (pvD 2) Ab))))) Ab))))))))))),?_⟩
  walk_at "rd"
  refine⟨by lia,fun q hq=>⟨by lia,by lia,?_⟩⟩
  rw[jA_]
  obtain⟨Pv,hPv⟩:∃Pv:Nat->St->Hp->Prop,∀i σ' H',Pv i σ' H'↔(∃(us:List Addr) (tables:α0) (o1 o2:Option V),Same H H'/\H' q=some (.lst (us.map V.ref))/\TabL K H' us tables/\tables.length=i/\(∀tb∈tables,(tb.length=n/\∀r∈tb,r.length=n)/\∀r∈tb,∀x∈r,0<=x/\x<p)/\σ'=[some (.ref a),some (.int c),some (.int p),some (.int L),some (.int n),some (.ref q),o1,o2,none]):=⟨_,fun _ _ _=>qf_⟩
  refine forR Pv ((hPv _ _ _).mpr ⟨[],[],none,none,Same.new hq,Ac,⟨rfl,fun i u tb h=>by simp at h⟩,rfl,by simp,rfl⟩) (fun i σ2 H2 hi h2=>?_) (fun σ2 H2 h2=>?_)
  ·obtain⟨us,tables,o1,o2,s2,hq2,hT,htl,htt,rfl⟩:=(hPv _ _ _).mp h2
   rw[j3_]
   walk_at "rd"
   have b1:0<=(i:Int)*(n:Int)/\(i:Int)*(n:Int)<=24:=by
    have h1:i*n<=6*4:=qz_ s!"" s!""
    have h2:(i:Int)*(n:Int)=((i*n:Nat):Int):=by rw[xw_]
    lia
   have b2:0<=(i:Int)*(n:Int)*(n:Int)/\(i:Int)*(n:Int)*(n:Int)<=96:=by
    have h1:i*n*n<=24*4:=qz_ (qz_ (show i<=6 by lia) (show n<=4 by lia)) s!""
    have h2:(i:Int)*(n:Int)*(n:Int)=((i*n*n:Nat):Int):=by rw[xw_,xw_]
    lia
   refine⟨.inl ⟨by decide,by decide⟩,.inr ⟨by lia,by lia⟩,.inr ⟨by lia,by lia⟩,.inl ⟨rfl,_,SqL.of hq2⟩,by lia,by lia,?_⟩
   have hbs:0<=c+2*(n:Int)+(i:Int)*(n:Int)*(n:Int)/\c+2*(n:Int)+(i:Int)*(n:Int)*(n:Int)<=300:=by lia
   generalize c+2*(n:Int)+(i:Int)*(n:Int)*(n:Int)=bs at hbs ⊢
   rw[jA_]
   obtain⟨Pc,hPc⟩:∃Pc:Nat->List V->St->Hp->Prop,∀j ys σ4 H4,Pc j ys σ4 H4↔(Same H2 H4/\∃(rows:α1) (o:Option V),Ba K H4 ys rows/\rows.length=j/\(∀r∈rows,r.length=n/\∀x∈r,0<=x/\x<p)/\σ4=[o,some (.ref a),some (.int n),some (.int p),some (.int bs)]):=⟨_,fun _ _ _ _=>qf_⟩
   refine OR Pc ((hPc _ _ _ _).mpr ⟨Same.refl _,[],none,Ba.nil,rfl,by simp,rfl⟩) s!"" (fun j ys σ4 H4 _ h4=>?_) (fun j ys σ4 H4 hj h4=>?_) (fun ys σ4 H4 h4 D hD=>?_)
   ·obtain⟨_,rows,o,hR,hrl,_⟩:=(hPc _ _ _ _).mp h4
    rw[hR.1];lia
   ·obtain⟨s4,rows,o,hR,hrl,hrn,rfl⟩:=(hPc _ _ _ _).mp h4
    rw[j3_]
    have b3:0<=(n:Int)*(j:Int)/\(n:Int)*(j:Int)<=16:=by
     have h1:n*j<=4*4:=qz_ s!"" s!""
     have h2:(n:Int)*(j:Int)=((n*j:Nat):Int):=by rw[xw_]
     lia
    walk_at "rd"
    refine⟨.inl ⟨by lia,by lia⟩,a,ns,bs+n*j,p,n,rfl,(s2.trans s4).seq hs,by lia,by lia,by lia,by lia,fun t row H5 s5 ht hrl' hrr=>(hPc _ _ _ _).mpr ⟨s4.trans s5,rows++[row],_,(hR.mono s5).snoc ht,by simp[hrl],fun r hr'=>?_,rfl⟩⟩
    rcases jx_.mp hr' with h' | h'
    ·exact hrn r h'
    ·rw[jg_.mp h'];exact⟨hrl',hrr⟩
   ·obtain⟨s4,rows,o,hR,hrl,hrn,rfl⟩:=(hPc _ _ _ _).mp h4
    refine⟨D,rfl,_,.inl ⟨SqL.of Ac,fun t ht=>?_⟩⟩
    have sDt:=(Same.new hD (o:=.lst ys)).newT ht (o:=.tup ys)
    have hq4:=(s4.trans sDt) _ _ hq2
    have hxl:=hT.1
    refine⟨_,hq4,by rw[jb_];lia,(hPv _ _ _).mpr ⟨us++[t],tables++[rows],_,_,((s2.trans s4).trans sDt).over hq,by rw[Ac];simp,?_,by simp[htl],fun tb htb=>?_,rfl⟩⟩
    ·exact ((hT.mono fun t' ys' e'=>(s4.trans sDt).seqT e').snoc (SqT.of Ac) (hR.mono sDt)).mono fun t' ys' e'=>AV hq4 e'
    ·rcases jx_.mp htb with h' | h'
     ·exact htt tb h'
     ·rw[jg_.mp h'];exact⟨⟨hrl,fun r z=>(hrn r z).1⟩,fun r z=>(hrn r z).2⟩
  ·obtain⟨us,tables,o1,o2,s2,hq2,hT,htl,htt,rfl⟩:=(hPv _ _ _).mp h2
   walk_at "rd"
   refine⟨a,ns,c,p,n,rfl,s2.seq hs,c0,by lia,by lia,by lia,fun tf first H3 s3 htf hfl hfr=>⟨_,.inl ⟨SqL.of (s3 _ _ hq2),fun tt htt'=>?_⟩⟩⟩
   have stt:=Same.new htt' (o:=.tup (us.map V.ref))
   refine⟨a,ns,c+n,p,n,rfl,((s2.trans s3).trans stt).seq hs,by lia,by lia,by lia,by lia,fun tl last H4 s4 htl' hll hlr=>⟨by lia,fun hh hhh=>?_⟩⟩
   have sh:=Same.new hhh (o:=.tup [V.int p,V.int L,V.ref tf,V.ref tt,V.ref tl])
   have s24:=(s3.trans stt).trans s4
   refine k hh first last tables _ ((s2.trans s24).trans sh) ⟨tf,tt,tl,SqT.of Ac,((stt.trans s4).trans sh).seqT htf,sh.seqT htl',us,(s4.trans sh).seqT (SqT.of Ac),hT.1,?_⟩ ⟨p2,p18,by lia,⟨hfl,hfr⟩,⟨hll,hlr⟩,by lia,fun tb z=>(htt tb z).1⟩ (fun tb z=>(htt tb z).2)
   exact (hT.mono fun t' ys' e'=>(s24.trans sh).seqT e').2
theorem KU     (hi:i<n):(DF p rows am n).getD i 0=dotW am (colW rows i)%p:=by
 unfold DF
 rw[ja_,jh_,j7_ hi];rfl
theorem FX_    (hl:r.length=d)  (h:∀i:Nat,i<d->r.getD i 0%p=f i%p):cg p r ((List.range d).map f):=by
 have e:r=(List.range d).map fun i=>r.getD i 0:=by
  refine qC_ fun i=>?_
  by_cases hi:i<d
  ·rw[jh_,j7_ hi,jc_ (show i<r.length by lia)]
   show some _=some (r.getD i 0)
   rw[ja_,jc_ (show i<r.length by lia)];rfl
  ·rw[ju_ s!"",ju_ (by simp;lia)]
 rw[e]
 exact cg.map fun i hi=>h i (j9_.mp hi)
structure Hs where
 d:Nat
 f:α2
 t:α0
 l:α2
noncomputable def Hs.R (h:Hs)(p:Int)(v:α2):α2:=Mine.rowS p h.d h.t h.f v
noncomputable def Hs.W (h:Hs)(p:Int)(v:α2):Int:=dotW h.l (h.R p v)%p
noncomputable def Hs.ok (h:Hs)(p:Int)(L:Nat):Prop:=WfSum p L h.d h.f h.t h.l
theorem Hs.ok.dim {h:Hs}{p:Int}{L:Nat}(k:h.ok p L){i:Nat}(hi:i<L):Dim h.d (h.t.getD i []):=by
 have hit:i<h.t.length:=by have:=k.t;lia
 rw[ja_,jc_ hit]
 have:=k.tt _ (jD_ hit)
 exact⟨this.1,this.2⟩
theorem Hs.row_app (h:Hs)(p:Int)(a e:α2):h.R p (a++e)=Mine.rowS p h.d h.t (h.R p a) e:=by
 unfold Hs.R Mine.rowS
 rw[qE_]
section
variable {h:Hs} {p:Int} {L:Nat} {F ws:α1} {am:α0}
theorem Wg   (h:cs.length=n):dotW (EW n k) cs=cs.getD k 0:=by
 rw[Bt];exact Yz cs h
end
section
variable {h B:Hs} {p:Int} {L:Nat} {F1 F2 F3 ws1 ws2 ws3:α1} {am1 am2:α0}
theorem Bp_ {L:Int}{a b:α2}(ha:isW L a=true)(hb:isW L b=true):isW L (a++b)=true:=Bo.mpr fun x hx=>by
 rcases jx_.mp hx with h|h
 ·exact Bo.mp ha x h
 ·exact Bo.mp hb x h
end
theorem Ba.off66 {K:α3}     (hq:H q=some (.lst zs))(h:Ba K H xs rows):Ba K (upd H q (.lst ys)) xs rows:=⟨h.1,fun i r hi=>by
 obtain⟨t,a,b⟩:=h.2 i r hi
 exact⟨t,a,AV hq b⟩⟩
noncomputable def Ig (K:α3)(H:Hp)(h:Addr)(p:Int)(L:Nat)(hs:Hs):Prop:=SumH K H h p L hs.f hs.t hs.l
theorem BW.shorter      (hL:0<L)(b:BW p L d tb f F F.length ws)  (hv:v∈ws):v.length<ws.length:=by
 have:=b.short _ (b.kids v hv 0 s!"" hL)
 rw[jk_]at this
 simp at this;lia
theorem BW.wsW      (b:BW p L d tb f F F.length ws)  (hv:v∈ws):isW L v=true:=b.valid v (by have:=b.kF v hv;rwa [jM_]at this)
theorem FY_ {p:Int}{L:Nat}{a b:Hs}(R:α2->α2->Prop)(h0:R a.f b.f)(hs:∀(r r':α2) (x:Nat),x<L->R r r'->R (FW p a.d a.t r x) (FW p b.d b.t r' x))(hl:∀r r',R r r'->dotW b.l r'%p=dotW a.l r%p){v:α2}(hv:isW L v=true):b.W p v=a.W p v:=by
 have key:∀(v r r':α2),isW L v=true->R r r'->R (Mine.rowS p a.d a.t r v) (Mine.rowS p b.d b.t r' v):=fun v=>by
  induction v with
  |nil=>intro r r' _ h;exact h
  |cons x v ih=>
   intro r r' hv h
   have hx:=Bo.mp hv x (by simp)
   obtain⟨x,rfl⟩:=xW_ hx.1
   exact ih _ _ (Bo.mpr fun y hy=>Bo.mp hv y (jt_ _ hy)) (hs r r' x s!"" h)
 exact hl _ _ (key v _ _ hv h0)
theorem Wi  (hl:r.length=v.length):∀{j:Nat} (y:Int),j<r.length->dotW (r.set j y) v=dotW r v+(y-r.getD j 0)*v.getD j 0:=by
 induction r generalizing v with
 |nil=>intro j y hj;simp at hj
 |cons x r ih=>
  intro j y hj
  cases v with
  |nil=>simp at hl
  |cons u v=>
   cases j with
   |zero=>
    rw[zx_,A1,A1]
    show y*u+_=x*u+_+(y-x)*u
    rw[zF_];lia
   |succ j=>
    rw[zy_,A1,A1,ih (by simpa using hl) y (by simpa using hj)]
    show _=_+(y-r.getD j 0)*v.getD j 0
    lia
theorem KW {r:α2}{i j:Nat}(h:i≠j)(y:Int):(r.set i y).getD j 0=r.getD j 0:=by
 rw[ja_,xA_ h,<-ja_]
theorem Pt {r:α2}{i:Nat}(h:i<r.length)(y:Int):(r.set i y).getD i 0=y:=by
 rw[ja_,xn_ h];rfl
theorem YO   (hij:i≠j)(hl:r.length=q.length)(hi:i<r.length)(hj:j<r.length)(tm:Int):dotW (r.set j (r.getD j 0+tm*r.getD i 0)) (q.set i (q.getD i 0-tm*q.getD j 0))=dotW r q:=by
 rw[Wi (by simp[hl]) _ hj,Bt r,Wi hl.symm _ s!"",KW hij,Bt q]
 have e1:(r.getD j 0+tm*r.getD i 0-r.getD j 0)*q.getD j 0=tm*r.getD i 0*q.getD j 0:=by congr 1;lia
 have e2:(q.getD i 0-tm*q.getD j 0-q.getD i 0)*r.getD i 0 = -(tm*r.getD i 0*q.getD j 0):=by
  rw[show q.getD i 0-tm*q.getD j 0-q.getD i 0 = -(tm*q.getD j 0) by lia,zH_]
  congr 1
  rw[qZ_,xj_ (q.getD j 0),qZ_]
 rw[e1,e2];lia
noncomputable def conR (p:Int)(i j:Nat)(tm:Int)(row:α2):α2:=row.set j ((row.getD j 0+tm*row.getD i 0)%p)
noncomputable def Ih (p tm:Int)(row other:α2)(n:Nat):α2:=(List.range n).map fun c=>(row.getD c 0-tm*other.getD c 0)%p
noncomputable def N3 (p:Int)(n i j:Nat)(tm:Int)(tb:α1):α1:=(tb.map (conR p i j tm)).set i (Ih p tm ((tb.map (conR p i j tm)).getD i []) ((tb.map (conR p i j tm)).getD j []) n)
noncomputable def Dk_ (p:Int)(i j:Nat)(tm:Int)(h:Hs):Hs:=⟨h.d,conR p i j tm h.f,h.t.map (N3 p h.d i j tm),conR p j i (-tm) h.l⟩
theorem cg.set   (h:cg p r s)(j:Nat)  (e:y%p=z%p):cg p (r.set j y) (s.set j z):=by
 unfold cg at h ⊢
 rw[List.map_set,List.map_set,h,e]
theorem XE (p x:Int):x%p%p=x%p:=jT_ _ (qx_ p)
theorem BX_ (p:Int)(i j:Nat)(tm:Int)(row:α2):cg p (conR p i j tm row) (row.set j (row.getD j 0+tm*row.getD i 0)):=cg.set (cg.refl p row) j (XE p _)
theorem FZ_     (c:Nat)(hj:j<row.length):(conR p i j tm row).getD c 0%p=(if c=j then row.getD j 0+tm*row.getD i 0 else row.getD c 0)%p:=by
 unfold conR
 by_cases h:c=j
 ·subst h
  rw[Pt hj,if_pos rfl,XE]
 ·rw[KW (qT_ h),if_neg h]
theorem G4 {f:Nat->Int}{n c:Nat}(hc:c<n):((List.range n).map f).getD c 0=f c:=by
 rw[ja_,jh_,j7_ hc];rfl
theorem HV_    (ha:a.length=n)(hb:b.length=n)(h:∀c:Nat,c<n->a.getD c 0%p=b.getD c 0%p):cg p a b:=by
 unfold cg
 refine qJ_ (by simp[ha,hb]) fun c h1 h2=>?_
 rw[jb_]at h1 h2
 have:=h c s!""
 rw[ja_,ja_,jc_ h1,jc_ h2]at this
 rw[qA_,qA_];exact this
theorem BY_ {α:Type}{f g:α->Int}(tm:Int):∀(r:α2) (tb:List α),dotW r (tb.map fun a=>f a+tm*g a)=dotW r (tb.map f)+tm*dotW r (tb.map g)
 |[],tb=>by rw[B8,B8,B8];lia
 |x::r,[]=>by rw[q1_,q1_,q1_,FK];lia
 |x::r,a::tb=>by
  rw[j4_,j4_,j4_,A1,A1,A1,BY_ tm r tb,x6_,x6_]
  rw[show x*(tm*g a)=tm*(x*g a) by rw[<-qZ_,xj_ x tm,qZ_]]
  lia
theorem BZ_ (U:α1)(c i:Nat):(colW U c).getD i 0=(U.getD i []).getD c 0:=by
 unfold colW
 rw[ja_,jh_,ja_ (l:=U)]
 cases U[i]?<;>rfl
theorem Zq {h:Hs}{p:Int}{L:Nat}(ok:h.ok p L){i j:Nat}(hij:i≠j)(hi:i<h.d)(hj:j<h.d)(tm:Int){v:α2}(hv:isW L v=true):(Dk_ p i j tm h).W p v=h.W p v:=by
 refine FY_ (L:=L) (fun r r'=>r.length=h.d/\cg p r' (r.set j (r.getD j 0+tm*r.getD i 0))) ⟨ok.f.1,BX_ ..⟩ (fun r r' x hx hr=>?_) (fun r r' hr=>?_) hv
 ·obtain⟨hl,hc⟩:=hr
  have hit:x<h.t.length:=by have:=ok.t;lia
  have eT:(h.t.map (N3 p h.d i j tm)).getD x []=N3 p h.d i j tm (h.t.getD x []):=by
   rw[ja_,jh_,jc_ hit,ja_,jc_ hit];rfl
  have hd:=ok.dim hx
  obtain⟨tb,eTb⟩:∃tb,h.t.getD x []=tb:=⟨_,rfl⟩
  rw[eTb]at eT hd
  have hsl:(FW p h.d h.t r x).length=h.d:=by unfold FW DF;simp
  refine⟨hsl,?_⟩
  have hUl:(colW (tb.map (conR p i j tm)) 0).length=h.d:=by rw[Ib,jb_,hd.n]
  refine HV_ (n:=h.d) (by unfold FW DF;simp[Dk_]) (by rw[q5_];exact hsl) fun c hcd=>?_
  have e1:(FW p (Dk_ p i j tm h).d (Dk_ p i j tm h).t r' x).getD c 0=dotW r' (colW (N3 p h.d i j tm tb) c)%p:=by
   show (DF p ((h.t.map (N3 p h.d i j tm)).getD ((x:Int)).toNat []) r' h.d).getD c 0=_
   rw[show ((x:Int)).toNat=x by lia,eT]
   exact G4 hcd
  have e0:∀c:Nat,c<h.d->(FW p h.d h.t r x).getD c 0=dotW r (colW (h.t.getD x []) c)%p:=fun c hc=>by
   show (DF p (h.t.getD ((x:Int)).toNat []) r h.d).getD c 0=_
   rw[show ((x:Int)).toNat=x by lia]
   exact G4 hc
  have e2:colW (N3 p h.d i j tm tb) c=(colW (tb.map (conR p i j tm)) c).set i (((colW (tb.map (conR p i j tm)) c).getD i 0-tm*(colW (tb.map (conR p i j tm)) c).getD j 0)%p):=by
   rw[BZ_,BZ_]
   unfold N3 colW
   rw[List.map_set]
   congr 1
   exact G4 hcd
  have c2:cg p (colW (N3 p h.d i j tm tb) c) ((colW (tb.map (conR p i j tm)) c).set i ((colW (tb.map (conR p i j tm)) c).getD i 0-tm*(colW (tb.map (conR p i j tm)) c).getD j 0)):=by
   rw[e2];exact cg.set (cg.refl p _) i (XE p _)
  have hql:(colW (tb.map (conR p i j tm)) c).length=h.d:=by rw[Ib,jb_,hd.n]
  rw[e1,XE,cg.dot hc c2,YO hij (by rw[hl,hql]) s!"" s!""]
  have c3:cg p (colW (tb.map (conR p i j tm)) c) (tb.map fun row=>if c=j then row.getD j 0+tm*row.getD i 0 else row.getD c 0):=by
   unfold colW
   rw[jK_]
   exact cg.map fun row hr=>FZ_ c (by rw[hd.r row hr];exact hj)
  rw[cg.dot (cg.refl p r) c3]
  by_cases hcj:c=j
  ·subst hcj
   rw[Pt (by rw[hsl];exact hcd),e0 c hcd,e0 i hi,eTb]
   simp only[zE_]
   rw[BY_,qO_,qs_]
   conv=>rhs;rw[qO_,XE,qs_,XE]
   rfl
  ·rw[KW (qT_ hcj),e0 c hcd,XE,eTb]
   simp only[if_neg hcj]
   rfl
 ·obtain⟨hl,hc⟩:=hr
  show dotW (conR p j i (-tm) h.l) r'%p=_
  rw[Bt,cg.dot hc (BX_ ..),Bt h.l]
  have e:h.l.getD i 0 + -tm*h.l.getD j 0=h.l.getD i 0-tm*h.l.getD j 0:=by rw[zH_];lia
  rw[e,YO hij (by rw[hl,ok.l.1]) s!"" s!""]
noncomputable def Dl_ (tb:α1)(bs:α2):α1:=tb.map (· ++ [0])++[bs]
noncomputable def Ca_ (n:Nat)(tb:α1)(bs:Nat->Int)(b:Int):α1:=((List.range n).map fun k=>tb.getD k []++[bs k])++[List.replicate n 0++[b]]
theorem MN {r:α2}{x:Int}{c:Nat}(h:c<r.length):(r++[x]).getD c 0=r.getD c 0:=by
 rw[ja_,jn_ h,<-ja_]
theorem Zr {r:α2}{x:Int}{n:Nat}(h:r.length=n):(r++[x]).getD n 0=x:=by
 subst h
 rw[ja_,jq_ (jf_ _),qr_];rfl
theorem XF {h:Hs}{p:Int}{L:Nat}(ok:h.ok p L){t':α0}(ht:∀x:Nat,x<L->∃bs,t'.getD x []=Dl_ (h.t.getD x []) bs)(l0:Int){v:α2}(hv:isW L v=true):(⟨h.d+1,h.f++[0],t',h.l++[l0]⟩:Hs).W p v=h.W p v:=by
 refine FY_ (L:=L) (fun r r'=>r.length=h.d/\r'=r++[0]) ⟨ok.f.1,rfl⟩ (fun r r' x hx hr=>?_) (fun r r' hr=>?_) hv
 ·obtain⟨hl,rfl⟩:=hr
  obtain⟨bs,eb⟩:=ht x hx
  have hd:=ok.dim hx
  refine⟨by unfold FW DF;simp,?_⟩
  show DF p (t'.getD ((x:Int)).toNat []) (r++[0]) (h.d+1)=DF p (h.t.getD ((x:Int)).toNat []) r h.d++[0]
  rw[show ((x:Int)).toNat=x by lia,eb]
  unfold DF
  rw[j2_,ji_]
  have hdot:∀c:Nat,dotW (r++[0]) (colW (Dl_ (h.t.getD x []) bs) c)=dotW r ((h.t.getD x []).map fun w=>(w++[0]).getD c 0):=fun c=>by
   unfold Dl_ colW
   rw[ji_,jK_,j6_,J7 _ _ (by rw[jb_,hd.n,hl])]
   rw[Int.zero_mul,zd_];rfl
  congr 1
  ·refine jS_ fun c hc=>?_
   rw[hdot]
   congr 2
   unfold colW
   exact jS_ fun w hw=>MN (by rw[hd.r w hw];exact j9_.mp hc)
  ·rw[j6_,hdot]
   have:((h.t.getD x []).map fun w=>(w++[0]).getD h.d 0)=List.replicate (h.t.getD x []).length 0:=by
    refine q9_.mpr ⟨by rw[jb_],fun z hz=>?_⟩
    obtain⟨w,hw,rfl⟩:=jv_.mp hz
    exact Zr (hd.r w hw)
   rw[this,E1];simp
 ·obtain⟨hl,rfl⟩:=hr
  show dotW (h.l++[l0]) (r++[0])%p=_
  rw[J7 _ _ (by rw[ok.l.1,hl]),Int.mul_zero,zd_]
theorem XG {h:Hs}{p:Int}{L:Nat}(ok:h.ok p L){t':α0}(ht:∀x:Nat,x<L->∃bs b,t'.getD x []=Ca_ h.d (h.t.getD x []) bs b)(f0:Int){v:α2}(hv:isW L v=true):(⟨h.d+1,h.f++[f0],t',h.l++[0]⟩:Hs).W p v=h.W p v:=by
 refine FY_ (L:=L) (fun r r'=>r.length=h.d/\∃y,r'=r++[y]) ⟨ok.f.1,f0,rfl⟩ (fun r r' x hx hr=>?_) (fun r r' hr=>?_) hv
 ·obtain⟨hl,y,rfl⟩:=hr
  obtain⟨bs,b,eb⟩:=ht x hx
  have hd:=ok.dim hx
  refine⟨by unfold FW DF;simp,dotW (r++[y]) (colW (Ca_ h.d (h.t.getD x []) bs b) h.d)%p,?_⟩
  show DF p (t'.getD ((x:Int)).toNat []) (r++[y]) (h.d+1)=DF p (h.t.getD ((x:Int)).toNat []) r h.d++[_]
  rw[show ((x:Int)).toNat=x by lia,eb]
  unfold DF
  rw[j2_,ji_]
  congr 1
  refine jS_ fun c hc=>?_
  have hc:=j9_.mp hc
  congr 1
  have e:colW (Ca_ h.d (h.t.getD x []) bs b) c=colW (h.t.getD x []) c++[0]:=by
   unfold Ca_ colW
   rw[ji_,jK_,j6_]
   congr 1
   ·refine qJ_ (by rw[jb_,jU_,jb_,hd.n]) fun k h1 h2=>?_
    have hk:k<(h.t.getD x []).length:=by simpa using h2
    rw[qA_,xV_,qA_]
    show ((h.t.getD x []).getD k []++[bs k]).getD c 0=_
    have ek:(h.t.getD x []).getD k []=(h.t.getD x [])[k]:=by rw[ja_ (l:=h.t.getD x []),jc_ hk];rfl
    rw[ek]
    exact MN (by rw[hd.r _ (jD_ hk)];exact hc)
   ·congr 1
    rw[MN (by rw[qa_];exact hc),ja_,j8_]
    split<;>rfl
  rw[e,J7 _ _ (by rw[Ib,hd.n,hl]),Int.mul_zero,zd_]
 ·obtain⟨hl,y,rfl⟩:=hr
  show dotW (h.l++[0]) (r++[y])%p=_
  rw[J7 _ _ (by rw[ok.l.1,hl]),Int.zero_mul,zd_]
theorem XH (xs:List V)(m:Nat):cutV xs (some (m:Int)) none=xs.drop m:=by
 unfold cutV
 rw[HT.sIx_nat,HT.sIx_none]
 by_cases h:m<=xs.length
 ·rw[xU_ h,qm_ (by rw[xD_];lia)]
 ·rw[Nat.min_eq_right s!"",x1_ s!"",x1_ s!""];simp
theorem MO (xs:List V)(n:Nat):cutV xs none (some (n:Int))=xs.take n:=by
 unfold cutV
 rw[HT.sIx_nat,HT.sIx_none]
 by_cases h:n<=xs.length
 ·rw[xU_ h];simp
 ·rw[Nat.min_eq_right s!"",qm_ (show xs.length<=n by lia)];simp
noncomputable def YQ (K:α3):Sp:=fun vs H Q _=>∃(p tm:Int) (r:Addr) (i j n:Nat) (row:α2),vs=[.int p,.ref r,.int i,.int j,.int tm]/\2<=p/\p<1000000000000000000 /\ -p<tm/\tm<p/\SqT K H r (row.map V.int)/\row.length=n/\n<=16/\(∀x∈row,0<=x/\x<p)/\i<n/\j<n/\∀(q:Addr) (row':α2) (H':Hp),Same H H'->SqT K H' q (row'.map V.int)->row'.length=n->(∀x∈row',0<=x/\x<p)->row'=conR p i j tm row->Q (.ref q) H'
theorem MQ   (F:Fun K "_law_column_on" "_law_column_on" BG f fd)(T:Txt mg)
  (W:Own K mg)
  (Z:Exs K mg C_j3 C_j0 C_j2 C_j1)
  : FnOk P w K mg base CX0 1 f fd ["p","row","i","j","times"] (YQ K):=by
 refine F.ok Hl (fun vs H Q E h=>?_) (fun cdv A outer s H vs Q E hr h=>?_)
 ·obtain⟨p,tm,r,i,j,n,row,rfl,_⟩:=h;rfl
 ·obtain⟨p,tm,r,i,j,n,row,rfl,p2,p18,tm0,tm1,hr,hn,hn16,hin,hi,hj,k⟩:=h
  have hl:=Au
  refine⟨_,(Ae (Ah (i:=5) Hl.nd (Al (opD Bb) (Al (opD0 Bw) (Aj (ixTD Am) (pvD 1) (pvD 3)) (Al (opD DH) (pvD 4) (Aj (ixTD Am) (pvD 1) (pvD 2)))) (pvD 0)))
   (Ag (Ay (Al B6 (Al B6 (Ea GA (pvD 1) Ft (Fu (pvD 3))) (A4 (Aa (pvD 5) Ab))) (Ea GA (pvD 1) (Fu (Al (opD0 Bw) (pvD 3) Ad)) Ft))))),?_⟩
  walk_at "rd"
  have hgj:row[j]?=some row[j]:=by simp
  have hgi:row[i]?=some row[i]:=by simp
  generalize row[j]=xj at hgj
  generalize row[i]=xi at hgi
  refine⟨_,hr,V.int xj,AY (by rw[jh_,hgj];rfl),_,hr,V.int xi,AY (by rw[jh_,hgi];rfl),xi,rfl,.inl ⟨by lia,by lia⟩,xj,rfl,by lia,_,hr,fun t1 H1 s1 ht1=>⟨by lia,fun t2 ht2=>?_⟩⟩
  have e1:cutV (row.map V.int) none (some (j:Int))=(row.take j).map V.int:=by
   rw[xl_]
   exact MO (row.map V.int) j
  have e2:cutV (row.map V.int) (some ((j:Int)+1)) none=(row.drop (j+1)).map V.int:=by
   rw[List.map_drop];exact XH (row.map V.int) (j+1)
  rw[e1]at ht1
  have m0:=jJ_ (xj+tm*xi) (show p≠0 by lia)
  have m1:=jE_ (xj+tm*xi) (show 0<p by lia)
  refine CF.of ((Same.new ht2).seqT ht1) (SqT.of Ac) (by simp;lia) fun t3 H3 s3 ht3=>⟨_,((s1.newT ht2).trans s3).seqT hr,fun t4 H4 s4 ht4=>?_⟩
  rw[e2]at ht4
  refine CF.of (s4.seqT ht3) ht4 (by simp;lia) fun t5 H5 s5 ht5=>k t5 (row.take j++[(xj+tm*xi)%p]++row.drop (j+1)) H5 ((((s1.newT ht2).trans s3).trans s4).trans s5) ?_ (by simp;lia) (fun x hx=>?_) ?_
  ·rw[ji_,ji_];exact ht5
  ·rcases jx_.mp hx with hx|hx
   ·rcases jx_.mp hx with hx|hx
    ·exact hin x (xb_ hx)
    ·rw[jg_.mp hx];exact⟨m0,m1⟩
   ·exact hin x (List.mem_of_mem_drop hx)
  ·unfold conR
   rw[xX_,if_pos (show j<row.length by lia),ja_,hgj,ja_,hgi]
   simp
noncomputable def Sb (K:α3):Sp:=fun vs H Q _=>∃(p tm:Int) (r o:Addr) (n:Nat) (row other:α2),vs=[.int p,.ref r,.int tm,.ref o]/\2<=p/\p<1000000000000000000 /\ -p<tm/\tm<p/\SqT K H r (row.map V.int)/\row.length=n/\SqT K H o (other.map V.int)/\other.length=n/\n<=16/\(∀x∈other,0<=x/\x<p)/\∀(q:Addr) (row':α2) (H':Hp),Same H H'->SqT K H' q (row'.map V.int)->row'.length=n->(∀x∈row',0<=x/\x<p)->row'=Ih p tm row other n->Q (.ref q) H'
theorem N4   (F:Fun K "_law_row_less" "_law_row_less" B2 f fd)(T:Txt mg)
  (W:Own K mg)
  (Z:Exs K mg C_j3 C_j0 C_j2 C_j1)
  : FnOk P w K mg base CX0 1 f fd ["p","row","times","other"] (Sb K):=by
 refine F.ok NY (fun vs H Q E h=>?_) (fun cdv A outer s H vs Q E hr h=>?_)
 ·obtain⟨p,tm,r,o,n,row,other,rfl,_⟩:=h;rfl
 ·obtain⟨p,tm,r,o,n,row,other,rfl,p2,p18,tm0,tm1,hr,hn,ho,hno,hn16,hin,k⟩:=h
  have hl:=Au
  refine⟨_,(Ag (Ay (AR AJ rfl T.tuple jz_ (Aa (C4 rfl (DK rfl) (cp:=Hm) ⟨⟨rfl,rfl⟩,⟨⟨rfl,rfl⟩,⟨⟨rfl,rfl⟩,⟨⟨rfl,rfl⟩,True.intro⟩⟩⟩⟩ (A3 rfl T.range (Aa (Az (lenD Ao) (by rfl) T.len jH_ (Aa (pvD 1) Ab)) Ab)) (fun _ _ _ _=>(Aw (i:=0) Ke rfl (Or.inl rfl))) (fun _ _ _ _=>DI) (fun _ _ _ _=>(Al (opD Bb) (Al (opD0 Kg) (Aj (ixTD (Fv (K:=K) rfl)) (pvD 2) (pvD 0)) (Al (opD DH) (pvD 3) (Aj (ixTD (Fv (K:=K) rfl)) (pvD 4) (pvD 0)))) (pvD 1)))) Ab)))),?_⟩
  walk_at "rd"
  refine⟨_,.inr hr,by rw[jb_];lia,by rw[jb_];lia,?_⟩
  rw[jA_,jb_,hn]
  have hlr:∀j,(Ih p tm row other j).length=j:=fun j=>by unfold Ih;simp
  refine OR (fun j ys σ2 H2=>H2=H/\ys=(Ih p tm row other j).map V.int/\∃u,σ2=[u,some (.int p),some (.ref r),some (.int tm),some (.ref o)]) ⟨rfl,rfl,none,rfl⟩ s!"" (fun j ys σ2 H2 hj h2=>by obtain⟨_,rfl,_⟩:=h2;rw[jb_,hlr];lia) (fun j ys σ2 H2 hj h2=>?_) (fun ys σ2 H2 h2 D hD=>?_)
  ·obtain⟨rfl,rfl,u,rfl⟩:=h2
   rw[j3_]
   have hgj:row[j]?=some row[j]:=by simp
   have hoj:other[j]?=some other[j]:=by simp
   generalize row[j]=xj at hgj
   generalize other[j]=xo at hoj
   walk_at "rd"
   refine⟨_,hr,V.int xj,AY (by rw[jh_,hgj];rfl),_,ho,V.int xo,AY (by rw[jh_,hoj];rfl),xo,rfl,.inl ⟨by have:=hin xo (jj_ hoj);lia,by lia⟩,xj,rfl,by lia,?_⟩
   have fin:(Ih p tm row other j).map V.int++[V.int ((xj-tm*xo)%p)]=(Ih p tm row other (j+1)).map V.int:=by
    unfold Ih
    rw[j2_,ji_,ji_,j6_,j6_,ja_ (l:=row),hgj,ja_ (l:=other),hoj];rfl
   first
    | exact⟨rfl,fin,_,rfl⟩
    | exact⟨fin,_,rfl⟩
  ·obtain⟨rfl,rfl,u,rfl⟩:=h2
   exact⟨D,rfl,_,.inl ⟨SqL.of Ac,fun t ht=>k t (Ih p tm row other n) _ ((Same.new hD).newT ht) (SqT.of Ac) (hlr n) (fun x hx=>by
    obtain⟨c,_,rfl⟩:=jv_.mp hx
    exact⟨jJ_ _ s!"",jE_ _ s!""⟩) rfl⟩⟩
theorem Wj  (h:j<n):ixN n (j:Int)=some j:=by
 rw[Hh_ s!"" s!""];simp
noncomputable def Shp (p:Int)(n:Nat)(tb:α1):Prop:=tb.length=n/\∀r∈tb,r.length=n/\∀x∈r,0<=x/\x<p
noncomputable def Pu (K:α3):Sp:=fun vs H Q _=>∃(h:Addr) (p tm:Int) (L n i j:Nat) (first last:α2) (tables:α0),vs=[.ref h,.int i,.int j,.int tm]/\SumH K H h p L first tables last/\WfSum p L n first tables last/\Sm p tables /\ -p<tm/\tm<p/\L<=6/\n<=16/\i<n/\j<n/\∀(g:Addr) (first' last':α2) (tables':α0) (H':Hp),Same H H'->SumH K H' g p L first' tables' last'->WfSum p L n first' tables' last'->Sm p tables'->(∀v,isW L v=true->(⟨n,first',tables',last'⟩:Hs).W p v=(⟨n,first,tables,last⟩:Hs).W p v)->Q (.ref g) H'
theorem QP   (F:Fun K "_law_turned" "_law_turned" C7 f fd)(T:Txt mg)
  (W:Own K mg)
  (Z:Exs K mg C_j3 C_j0 C_j2 C_j1)
   (Dq:FnOk P w K mg base CX0 1 Cc HE ["p","row","i","j","times"] (YQ K)) (BL:Fun K "_law_column_on" "_law_column_on" BG Cc HE) (Dr:AI K HE ["p","row","i","j","times"] []) (Ds:mg "_law_column_on"=some (.ref Cc))
   (GO:FnOk P w K mg base CX0 1 CU II ["p","row","times","other"] (Sb K)) (D3:Fun K "_law_row_less" "_law_row_less" B2 CU II) (GP:AI K II ["p","row","times","other"] []) (GQ:mg "_law_row_less"=some (.ref CU))
  : FnOk P w K mg base CX0 2 f fd ["house","i","j","times"] (Pu K):=by
 refine F.ok BU (fun vs H Q E h=>?_) (fun cdv A outer s H vs Q E hr h=>?_)
 ·obtain⟨h,p,tm,L,n,i,j,first,last,tables,rfl,_⟩:=h;rfl
 ·obtain⟨h,p,tm,L,n,i,j,first,last,tables,rfl,hh,wf,sm,tm0,tm1,hL6,hn16,hi,hj,k⟩:=h
  have hl:=Au
  have p2:=wf.p2
  have p18:=wf.p18
  obtain⟨tf,tt,tl,h1,h2,h3,us,h4,h5,h6⟩:=id hh
  refine⟨_,(Ae (Ah (i:=4) BU.nd (Aj (ixTD Am) (pvD 0) Ad))
   (Ae (CI (ptT (AK (opE I0) (pvD 1) (pvD 2) (AQ _)))
   (Ag (Ay (pvD 0)))
   AZ)
   (Ae (Ah (i:=5) BU.nd (Ex Ab))
   (Ae (Cg jF_ rfl (Kf (Aj (ixTD Am) (pvD 0) Ad)) (Aw (i:=6) BU.nd rfl (Or.inl rfl))
   (Ae (Ah (i:=7) BU.nd (Ex Ab))
   (Ae (Cg jF_ rfl (Kf (pvD 6)) (Aw (i:=8) BU.nd rfl (Or.inl rfl))
   (Ag (CH (Lc jQ_ jN_ jO_ Ci (pvD 7) (Aa (Ai Dq (hr.mono (by decide)) rfl Ds BL.kp Dr .nil AL (Aa (pvD 4) (Aa (pvD 8) (Aa (pvD 1) (Aa (pvD 2) (Aa (pvD 3) Ab)))))) Ab)))))
   (Ae (DJ_ (Ai GO (hr.mono (by decide)) rfl GQ D3.kp GP .nil AL (Aa (pvD 4) (Aa (Aj (ixLD BM) (pvD 7) (pvD 1)) (Aa (pvD 3) (Aa (Aj (ixLD BM) (pvD 7) (pvD 2)) Ab))))) (DI_ (pvD 7) (pvD 1) set_list))
   (Ag (CH (Lc jQ_ jN_ jO_ Ci (pvD 5) (Aa (AR AJ rfl T.tuple jz_ (Aa (pvD 7) Ab)) Ab))))))))
   (Ae (Ah (i:=9) BU.nd (Ai Dq (hr.mono (by decide)) rfl Ds BL.kp Dr .nil AL (Aa (pvD 4) (Aa (Aj (ixTD Am) (pvD 0) Ad) (Aa (pvD 2) (Aa (pvD 1) (Aa (Y0 RO (pvD 3)) Ab)))))))
   (Ae (Ah (i:=10) BU.nd (Ai Dq (hr.mono (by decide)) rfl Ds BL.kp Dr .nil AL (Aa (pvD 4) (Aa (Aj (ixTD Am) (pvD 0) Ad) (Aa (pvD 1) (Aa (pvD 2) (Aa (pvD 3) Ab)))))))
   (Ag (Ay (A4 (Aa (pvD 4) (Aa (Aj (ixTD Am) (pvD 0) Ad) (Aa (pvD 10) (Aa (AR AJ rfl T.tuple jz_ (Aa (pvD 5) Ab)) (Aa (pvD 9) Ab)))))))))))))),?_⟩
  walk_at "rd"
  refine⟨_,h1,V.int p,rfl,?_⟩
  refine ite2 (fun _=>k h first last tables H (Same.refl _) hh wf sm (fun v _=>rfl)) (fun hij=>⟨by lia,fun pt hpt=>?_⟩)
  have s0:=Same.new hpt (o:=.lst [])
  have u0:upd H pt (.lst []) pt=some (.lst []):=Ac
  generalize upd H pt (.lst [])=H0 at s0 u0 ⊢
  refine⟨_,s0.seqT h1,V.ref tt,rfl,tt,rfl,⟨_,s0.seqT h4⟩,?_⟩
  obtain⟨Pv,hPv⟩:∃Pv:Nat->St->Hp->Prop,∀m σ' H',Pv m σ' H'↔(∃(vs:List Addr) (done:α0) (o6 o7 o8:Option V),Same H H'/\H' pt=some (.lst (vs.map V.ref))/\TabL K H' vs done/\done.length=m/\(∀tb∈done,Shp p n tb)/\done=(tables.take m).map (N3 p n i j tm)/\σ'=[some (.ref h),some (.int i),some (.int j),some (.int tm),some (.int p),some (.ref pt),o6,o7,o8,none,none]):=⟨_,fun _ _ _=>qf_⟩
  refine forT (xs:=us.map V.ref) Pv ((hPv _ _ _).mpr ⟨[],[],none,none,none,s0,u0,⟨rfl,fun i u tb hi=>by simp at hi⟩,rfl,by simp,rfl,rfl⟩) (fun m σ' H' _ h'=>by obtain⟨_,_,_,_,_,s',_⟩:=(hPv _ _ _).mp h';exact s'.seqT h4) (fun m x σ' H' hx h'=>?_) (fun σ' H' h'=>?_)
  ·obtain⟨vs,done,o6,o7,o8,s1,c1,c2,c3,c4,c5,rfl⟩:=(hPv _ _ _).mp h'
   rw[jh_]at hx
   cases hu:us[m]? with
   |none=>rw[hu]at hx;cases hx
   |some u=>
    rw[hu]at hx
    cases hx
    have hm:m<tables.length:=by rw[<-h5];exact (jd_.mp hu).1
    have htm:tables[m]?=some tables[m]:=by simp
    obtain⟨xs,t1,t2⟩:=h6 m u _ hu htm
    have htt:=wf.tt _ (jD_ hm)
    have htr:=sm _ (jD_ hm)
    generalize tables[m]=tb at htm t2 htt htr
    walk_at "rd"
    refine⟨by lia,fun pr hpr=>?_⟩
    have sr:=Same.new hpr (o:=.lst [])
    have ur:upd H' pr (.lst []) pr=some (.lst []):=Ac
    have hprN:H pr=none:=s1.gone' hpr
    have hpp:pr≠pt:=fun z=>by rw[z,c1]at hpr;cases hpr
    generalize upd H' pr (.lst [])=H1 at sr ur ⊢
    have s11:=s1.trans sr
    refine⟨⟨_,s11.seqT t1⟩,?_⟩
    obtain⟨Pw,hPw⟩:∃Pw:Nat->St->Hp->Prop,∀r σ' H2,Pw r σ' H2↔(∃(ys:List V) (rows:α1) (o8:Option V),Same H H2/\H2 pt=some (.lst (vs.map V.ref))/\TabL K H2 vs done/\H2 pr=some (.lst ys)/\Ba K H2 ys rows/\rows.length=r/\(∀q∈rows,q.length=n/\∀x∈q,0<=x/\x<p)/\rows=(tb.take r).map (conR p i j tm)/\σ'=[some (.ref h),some (.int i),some (.int j),some (.int tm),some (.int p),some (.ref pt),some (.ref u),some (.ref pr),o8,none,none]):=⟨_,fun _ _ _=>qf_⟩
    refine forT (xs:=xs) Pw ((hPw _ _ _).mpr ⟨[],[],_,s11,sr _ _ c1,c2.mono fun t ys z=>sr.seqT z,ur,⟨rfl,fun i r hi=>by simp at hi⟩,rfl,by simp,rfl,rfl⟩) (fun r σ' H2 _ h2'=>by obtain⟨_,_,_,s',_⟩:=(hPw _ _ _).mp h2';exact s'.seqT t1) (fun r x σ' H2 hx h2'=>?_) (fun σ' H2 h2'=>?_)
    ·obtain⟨ys,rows,o,d1,d2,d3,d4,d5,d6,d7,d8,rfl⟩:=(hPw _ _ _).mp h2'
     have hr:r<tb.length:=by rw[<-t2.1];exact (jd_.mp hx).1
     obtain⟨tr,e1,e2⟩:=t2.2 r tb[r] (by simp)
     rw[hx]at e1
     cases e1
     have hrl:=htt.2 _ (jD_ hr)
     have hrr:=htr _ (jD_ hr)
     have htk:tb.take (r+1)=tb.take r++[tb[r]]:=by rw[qb_,jc_ hr];rfl
     generalize tb[r]=row at e2 hrl hrr htk
     walk_at "rd"
     refine⟨.inl ⟨rfl,_,SqL.of d4⟩,p,tm,tr,i,j,n,row,rfl,p2,p18,tm0,tm1,d1.seqT e2,hrl,hn16,hrr,hi,hj,fun q row' H3 s3 q1 q2 q3 q4=>?_⟩
     have p3:=s3 _ _ d4
     have hyl:=d5.1
     refine⟨ys,p3,by lia,(hPw _ _ _).mpr ⟨_,rows++[row'],_,(d1.trans s3).over hprN,?_,(d3.mono fun t ys z=>s3.seqT z).mono fun t ys z=>AV p3 z,Ac,Ba.snoc ((d5.mono2 fun t ys z=>s3.seqT z).mono2 fun t ys z=>AV p3 z) (AV p3 q1),by simp[d6],fun v hv=>?_,by rw[d8,q4,htk,ji_];rfl,rfl⟩⟩
     ·rw[AD (qT_ hpp)];exact s3 _ _ d2
     ·rcases jx_.mp hv with hv|hv
      ·exact d7 v hv
      ·rw[jg_.mp hv];exact⟨q2,q3⟩
    ·obtain⟨ys,rows,o,d1,d2,d3,d4,d5,d6,d7,d8,rfl⟩:=(hPw _ _ _).mp h2'
     rw[t2.1,htt.1]at d6
     have hyl:=d5.1
     obtain⟨rwi,hwi⟩:∃r,rows[i]?=some r:=⟨rows[i],by simp⟩
     obtain⟨rwj,hwj⟩:∃r,rows[j]?=some r:=⟨rows[j],by simp⟩
     obtain⟨ti,e1,e2⟩:=d5.2 i rwi hwi
     obtain⟨tj,f1,f2⟩:=d5.2 j rwj hwj
     have hri:=d7 _ (jj_ hwi)
     have hrj:=d7 _ (jj_ hwj)
     walk_at "rd"
     refine⟨_,SqL.of d4,V.ref ti,AY e1,_,SqL.of d4,V.ref tj,AY f1,p,tm,ti,tj,n,rwi,rwj,rfl,p2,p18,tm0,tm1,e2,hri.1,f2,hrj.1,hn16,hrj.2,fun q row' H3 s3 q1 q2 q3 q4=>?_⟩
     have p3:=s3 _ _ d4
     refine⟨ys,p3,i,Wj s!"",?_⟩
     have rowsN:Ba K (upd H3 pr (.lst (ys.set i (.ref q)))) (ys.set i (.ref q)) (rows.set i row'):=by
      refine⟨by rw[q5_,q5_,hyl],fun b r hb=>?_⟩
      rw[List.getElem?_set]at hb ⊢
      by_cases hbi:i=b
      ·subst hbi
       rw[if_pos rfl,if_pos s!""]at hb ⊢
       cases hb
       exact⟨q,rfl,AV p3 q1⟩
      ·rw[if_neg hbi]at hb ⊢
       obtain⟨t,a1,a2⟩:=d5.2 b r hb
       exact⟨t,a1,AV p3 (s3.seqT a2)⟩
     have sw:=(d1.trans s3).over hprN (o:=.lst (ys.set i (.ref q)))
     have w1:upd H3 pr (.lst (ys.set i (.ref q))) pt=some (.lst (vs.map V.ref)):=by rw[AD (qT_ hpp)];exact s3 _ _ d2
     have w2:TabL K (upd H3 pr (.lst (ys.set i (.ref q)))) vs done:=(d3.mono fun t ys z=>s3.seqT z).mono fun t ys z=>AV p3 z
     have w3:upd H3 pr (.lst (ys.set i (.ref q))) pr=some (.lst (ys.set i (.ref q))):=Ac
     generalize upd H3 pr (.lst (ys.set i (.ref q)))=H4 at rowsN sw w1 w2 w3 ⊢
     have hvl:=c2.1
     refine⟨.inl ⟨rfl,_,SqL.of w1⟩,_,.inl ⟨SqL.of w3,fun t ht=>?_⟩⟩
     have st:=Same.new ht (o:=.tup (ys.set i (.ref q)))
     refine⟨_,st _ _ w1,by rw[jb_];have:=h5;have:=wf.t;lia,(hPv _ _ _).mpr ⟨vs++[t],done++[rows.set i row'],_,_,_,(sw.trans st).over hpt,by rw[Ac];simp,?_,by simp[c3],fun v hv=>?_,?_,rfl⟩⟩
     ·exact TabL.snoc ((w2.mono fun t ys z=>st.seqT z).mono fun t ys z=>AV (st _ _ w1) z) (AV (st _ _ w1) (SqT.of Ac)) ((rowsN.mono2 fun t ys z=>st.seqT z).mono2 fun t ys z=>AV (st _ _ w1) z)
     ·rcases jx_.mp hv with hv|hv
      ·exact c4 v hv
      ·rw[jg_.mp hv]
       refine⟨by rw[q5_,d6],fun r hr=>?_⟩
       rcases xa_ hr with hr|hr
       ·exact d7 r hr
       ·rw[hr];exact⟨q2,q3⟩
     ·rw[c5,qb_,htm,ji_]
      congr 1
      show [rows.set i row']=[N3 p n i j tm tb]
      congr 1
      rw[t2.1,jM_]at d8
      unfold N3
      rw[<-d8,q4]
      congr 2
      ·rw[ja_,hwi];rfl
      ·rw[ja_,hwj];rfl
  ·obtain⟨vs,done,o6,o7,o8,s1,c1,c2,c3,c4,c5,rfl⟩:=(hPv _ _ _).mp h'
   rw[jb_,h5]at c3
   walk_at "rd"
   refine⟨_,s1.seqT h1,V.ref tl,rfl,p,-tm,tl,j,i,n,last,rfl,p2,p18,by lia,by lia,s1.seqT h3,wf.l.1,hn16,wf.l.2,hj,hi,fun ql last' H2 s2 q1 q2 q3 q4=>?_⟩
   have s12:=s1.trans s2
   refine⟨_,s12.seqT h1,V.ref tf,rfl,p,tm,tf,i,j,n,first,rfl,p2,p18,tm0,tm1,s12.seqT h2,wf.f.1,hn16,wf.f.2,hi,hj,fun qf first' H3 s3 g1 g2 g3 g4=>?_⟩
   have s13:=s12.trans s3
   have s23:=s2.trans s3
   refine⟨_,s13.seqT h1,V.int L,rfl,_,.inl ⟨SqL.of (s23 _ _ c1),fun t ht=>⟨by lia,fun z hz=>?_⟩⟩⟩
   have sZ:=(Same.new ht (o:=.tup (vs.map V.ref))).newT hz (o:=.tup [V.int p,V.int L,V.ref qf,V.ref t,V.ref ql])
   refine k z first' last' done _ (s13.trans sZ) ⟨qf,t,ql,SqT.of Ac,sZ.seqT g1,sZ.seqT (s3.seqT q1),vs,SqT.of (Same.new hz _ _ Ac),c2.1,fun b u tb hb hv=>?_⟩ ⟨p2,p18,by lia,⟨g2,g3⟩,⟨q2,q3⟩,by rw[c3];exact wf.t,fun tb htb=>⟨(c4 tb htb).1,fun r hr=>((c4 tb htb).2 r hr).1⟩⟩ (fun tb htb r hr=>((c4 tb htb).2 r hr).2) ?_
   ·obtain⟨xs,a1,a2⟩:=c2.2 b u tb hb hv
    exact⟨xs,sZ.seqT (s23.seqT a1),(a2.mono2 fun t ys z=>s23.seqT z).mono2 fun t ys z=>sZ.seqT z⟩
   ·have hne:i≠j:=fun e=>hij (by rw[e])
    intro v hv
    have:=Zq (h:=⟨n,first,tables,last⟩) wf hne hi hj tm hv
    rw[<-this]
    have eD:done=tables.map (N3 p n i j tm):=by rw[c5,jb_,h5,jM_]
    rw[g4,q4,eD];rfl
noncomputable def GrT (e:Prop)(n:Nat)(tb tb':α1):Prop:=(e/\∃bs,tb'=Dl_ tb bs)\/(¬ e/\∃bs b,tb'=Ca_ n tb bs b)
theorem HW_:∀n:Nat,(List.replicate n [V.int 0]).flatten=(List.replicate n (0:Int)).map V.int
 |0=>rfl
 |n+1=>by rw[qe_,q3_,HW_ n,qe_];rfl
noncomputable def Sd (K:α3):Sp:=fun vs H Q _=>∃(h a:Addr) (p:Int) (at_ L n:Nat) (ns first last:α2) (tables:α0),vs=[.ref h,.ref a,.int at_]/\SqL K H a (ns.map V.int)/\SumH K H h p L first tables last/\WfSum p L n first tables last/\Sm p tables/\1<=L/\L<=6/\n<=4/\at_<=1000/\∀(g:Addr) (first' last':α2) (tables':α0) (H':Hp),Same H H'->SumH K H' g p L first' tables' last'->WfSum p L (n+1) first' tables' last'->Sm p tables'->(∀v,isW L v=true->(⟨n+1,first',tables',last'⟩:Hs).W p v=(⟨n,first,tables,last⟩:Hs).W p v)->Q (.ref g) H'
theorem Tn   (F:Fun K "_law_grown" "_law_grown" DV f fd)(T:Txt mg)
  (W:Own K mg)
  (Z:Exs K mg C_j3 C_j0 C_j2 C_j1)
   (AE:FnOk P w K mg base CX0 1 AN AX ["script","k"] (KS K)) (AA:Fun K "_law_cell" "_law_cell" BF AN AX) (AF:AI K AX ["script","k"] []) (AG:mg "_law_cell"=some (.ref AN))
   (BP:FnOk P w K mg base CX0 2 Bk BX ["script","k","p"] (Ie K)) (Br:Fun K "_law_number" "_law_number" BN Bk BX) (BQ:AI K BX ["script","k","p"] []) (BR:mg "_law_number"=some (.ref Bk))
   (CQ:FnOk P w K mg base CX0 3 Cb D1 ["script","at","many","p"] (OE K)) (B0:Fun K "_law_row" "_law_row" Ec Cb D1) (CS:AI K D1 ["script","at","many","p"] []) (CT:mg "_law_row"=some (.ref Cb))
  : FnOk P w K mg base CX0 4 f fd ["house","script","at"] (Sd K):=by
 refine F.ok Bx (fun vs H Q E h=>?_) (fun cdv A outer s H vs Q E hr h=>?_)
 ·obtain⟨h,a,p,at_,L,n,ns,first,last,tables,rfl,_⟩:=h;rfl
 ·obtain⟨h,a,p,at_,L,n,ns,first,last,tables,rfl,hs,hh,wf,sm,hL1,hL6,hn4,hat,k⟩:=h
  have hl:=Au
  have p2:=wf.p2
  have p18:=wf.p18
  obtain⟨tf,tt,tl,h1,h2,h3,us,h4,h5,h6⟩:=id hh
  refine⟨_,(Ae (Ah (i:=3) Bx.nd (Aj (ixTD Am) (pvD 0) Ad))
   (Ae (Ah (i:=4) Bx.nd (Az (lenD Ao) (by rfl) T.len jH_ (Aa (Aj (ixTD Am) (pvD 0) Ad) Ab)))
   (Ae (Ah (i:=5) Bx.nd (HS (opE I0) (Al (opD Bb) (Ai AE (hr.mono (by decide)) rfl AG AA.kp AF .nil AL (Aa (pvD 1) (Aa (pvD 2) Ab))) Ad) Ad (AQ _)))
   (Ae (Ah (i:=6) Bx.nd (Ex Ab))
   (Ae (Cg jF_ rfl (A3 rfl T.range (Aa (Aj (ixTD Am) (pvD 0) Ad) Ab)) (Aw (i:=7) Bx.nd rfl (Or.inr rfl))
   (Ae (OI (i:=8) Bx.nd rfl (Or.inr rfl) (Ai CQ (hr.mono (by decide)) rfl CT B0.kp CS .nil AL (Aa (pvD 1) (Aa (Al (opD0 Bw) (Al (opD0 Bw) (pvD 2) Ad) (Al (opD DH) (pvD 7) (Al (opD0 Bw) (pvD 4) Ad))) (Aa (Al (opD0 Bw) (pvD 4) Ad) (Aa (pvD 3) Ab))))))
   (G3 (CI (ptB (Gg (pvD 5)))
   (Ag (Ah (i:=9) Bx.nd (Al VI (C4 rfl (DK rfl) (cp:=Kq) True.intro (Kf (Aj (ixTD Am) (Aj (ixTD Am) (pvD 0) Ad) (pvD 7))) (fun _ _ _ _=>(Aw (i:=0) Mz rfl (Or.inl rfl))) (fun _ _ _ _=>DI) (fun _ _ _ _=>(Al (Jf (K:=K) rfl) (pvD 0) (A4 (Aa Ad Ab))))) (Ex (Aa (pvD 8) Ab)))))
   (Ae (SA (i:=9) Bx.nd rfl rfl rfl (DK rfl) (cp:=Kr) ⟨⟨rfl,rfl⟩,⟨⟨rfl,rfl⟩,⟨⟨rfl,rfl⟩,True.intro⟩⟩⟩ (A3 rfl T.range (Aa (pvD 4) Ab)) (fun _ _ _ _=>(Aw (i:=0) MA rfl (Or.inl rfl))) (fun _ _ _ _=>DI) (fun _ _ _ _=>(Al (Jf (K:=K) rfl) (Aj (ixTD (Fv (K:=K) rfl)) (Aj (ixTD (Fv (K:=K) rfl)) (Aj (ixTD (Fv (K:=K) rfl)) (pvD 3) Ad) (pvD 1)) (pvD 0)) (A4 (Aa (Aj (ixTD (Fv (K:=K) rfl)) (pvD 2) (pvD 0)) Ab)))))
   (Ag (CH (Lc jQ_ jN_ jO_ Ci (pvD 9) (Aa (Al B6 (Al Jc (A4 (Aa Ad Ab)) (pvD 4)) (A4 (Aa (Aj (ixTD Am) (pvD 8) (pvD 4)) Ab))) Ab))))))
   (Ag (CH (Lc jQ_ jN_ jO_ Ci (pvD 6) (Aa (AR AJ rfl T.tuple jz_ (Aa (pvD 9) Ab)) Ab)))))))
   (Ae (Ah (i:=10) Bx.nd (Ai BP (hr.mono (by decide)) rfl BR Br.kp BQ .nil AL (Aa (pvD 1) (Aa (Al (opD0 Bw) (pvD 2) Ad) (Aa (pvD 3) Ab)))))
   (Ae (CI (ptB (Gg (pvD 5)))
   (Ag (Ay (A4 (Aa (pvD 3) (Aa (Aj (ixTD Am) (pvD 0) Ad) (Aa (Al B6 (Aj (ixTD Am) (pvD 0) Ad) (A4 (Aa Ad Ab))) (Aa (AR AJ rfl T.tuple jz_ (Aa (pvD 6) Ab)) (Aa (Al B6 (Aj (ixTD Am) (pvD 0) Ad) (A4 (Aa (pvD 10) Ab))) Ab))))))))
   AZ)
   (Ag (Ay (A4 (Aa (pvD 3) (Aa (Aj (ixTD Am) (pvD 0) Ad) (Aa (Al B6 (Aj (ixTD Am) (pvD 0) Ad) (A4 (Aa (pvD 10) Ab))) (Aa (AR AJ rfl T.tuple jz_ (Aa (pvD 6) Ab)) (Aa (Al B6 (Aj (ixTD Am) (pvD 0) Ad) (A4 (Aa Ad Ab))) Ab))))))))))))))),?_⟩
  walk_at "rd"
  refine⟨_,h1,V.int p,rfl,_,h1,V.ref tf,rfl,tf,rfl,_,.inr h2,a,ns,at_,rfl,hs,_,rfl,by decide,by lia,fun pt hpt=>?_⟩
  rw[jb_,wf.f.1]
  obtain⟨aw,haw⟩:∃b:Bool,b=decide (cell ns at_%2=0):=⟨_,rfl⟩
  have s0:=Same.new hpt (o:=.lst [])
  have u0:upd H pt (.lst []) pt=some (.lst []):=Ac
  generalize upd H pt (.lst [])=H0 at s0 u0 ⊢
  refine⟨_,s0.seqT h1,V.int L,rfl,(L:Int),rfl,by lia,by lia,?_⟩
  obtain⟨bv,hbv⟩:∃v:V,v=V.bl (decide (cell ns at_%2=0)):=⟨_,rfl⟩
  obtain⟨Pv,hPv⟩:∃Pv:Nat->St->Hp->Prop,∀m σ' H',Pv m σ' H'↔(∃(vs:List Addr) (done:α0) (o7 o8 o9:Option V),Same H H'/\H' pt=some (.lst (vs.map V.ref))/\TabL K H' vs done/\done.length=m/\(∀tb∈done,Shp p (n+1) tb)/\(∀k:Nat,k<m->GrT (cell ns at_%2=0) n (tables.getD k []) (done.getD k []))/\σ'=[some (.ref h),some (.ref a),some (.int at_),some (.int p),some (.int n),some (.bl (decide (cell ns at_%2=0))),some (.ref pt),o7,o8,o9,none]):=⟨_,fun _ _ _=>qf_⟩
  refine forR Pv ((hPv _ _ _).mpr ⟨[],[],none,none,none,s0,u0,⟨rfl,fun i u tb hi=>by simp at hi⟩,rfl,by simp,fun k hk=>by lia,rfl⟩) (fun m σ' H' hm h'=>?_) (fun σ' H' h'=>?_)
  ·obtain⟨vs,done,o7,o8,o9,s1,c1,c2,c3,c4,c5,rfl⟩:=(hPv _ _ _).mp h'
   have hm':m<tables.length:=by have:=wf.t;lia
   obtain⟨u,hu⟩:∃u,us[m]?=some u:=⟨us[m]'s!"",by simp⟩
   obtain⟨tb,htb⟩:∃tb,tables[m]?=some tb:=⟨tables[m],by simp⟩
   obtain⟨xs,t1,t2⟩:=h6 m u tb hu htb
   have htt:=wf.tt _ (jj_ htb)
   have htr:=sm _ (jj_ htb)
   rw[j3_]
   walk_at "rd"
   have hm5:(m:Int)*((n:Int)+1)<=30:=by
    have:m*(n+1)<=6*5:=qz_ s!"" s!""
    have e:((m*(n+1):Nat):Int)=(m:Int)*((n:Int)+1):=by push_cast;rfl
    lia
   have hm0:0<=(m:Int)*((n:Int)+1):=x8_ s!"" s!""
   refine⟨.inl ⟨by lia,by lia⟩,a,ns,_,p,n+1,by rw[show ((n+1:Nat):Int)=(n:Int)+1 by lia],s1.seq hs,by lia,by lia,by lia,by lia,fun bt beside H1 sb hb1 hb2 hb3=>?_⟩
   have s11:=s1.trans sb
   obtain⟨Rr,hRr⟩:∃Rr:St->Hp->Prop,∀σ' H',Rr σ' H'↔(∃(ptab:Addr) (ys:List V) (tb:α1) (o7 o8:Option V),Same H H'/\H' pt=some (.lst (vs.map V.ref))/\TabL K H' vs done/\H' ptab=some (.lst ys)/\Ba K H' ys tb/\Shp p (n+1) tb/\ptab≠pt/\GrT (cell ns at_%2=0) n (tables.getD m []) tb/\σ'=[some (.ref h),some (.ref a),some (.int at_),some (.int p),some (.int n),some (.bl (decide (cell ns at_%2=0))),some (.ref pt),o7,o8,some (.ref ptab),none]):=⟨_,fun _ _=>qf_⟩
   refine⟨Rr,?_,fun σ2 H2 h2'=>?_⟩
   ·walk_at "rd"
    have hTm:tables.getD m []=tb:=by rw[ja_,htb];rfl
    refine ite2 (fun hev=>?_) (fun hev=>?_)
    ·refine⟨_,s11.seqT h1,V.ref tt,rfl,tt,rfl,_,s11.seqT h4,V.ref u,AY (by rw[jh_,hu];rfl),u,rfl,⟨_,s11.seqT t1⟩,?_⟩
     refine CG_ (xs:=xs) (fun j ys σ4 H4=>Same H1 H4/\Ba K H4 ys ((tb.take j).map (· ++ [0]))/\∃o,σ4=[o]) ⟨Same.refl _,⟨rfl,fun i r hi=>by simp at hi⟩,none,rfl⟩ (by rw[t2.1];lia) (fun j ys σ4 H4 hj h4'=>⟨h4'.1.seqT (s11.seqT t1),by have:=h4'.2.1.1;rw[jb_,jR_]at this;lia⟩) (fun j x ys σ4 H4 hx h4'=>?_) (fun ys σ4 H4 h4' D hD=>?_)
     ·obtain⟨s4,hy,o,rfl⟩:=h4'
      have hj:j<tb.length:=by rw[<-t2.1];exact (jd_.mp hx).1
      have hgj:tb[j]?=some tb[j]:=by simp
      obtain⟨tr,e1,e2⟩:=t2.2 j _ hgj
      rw[hx]at e1
      cases e1
      have hrl:=htt.2 _ (jj_ hgj)
      have etk:tb.take (j+1)=tb.take j++[tb[j]]:=by rw[qb_,hgj];rfl
      generalize tb[j]=row at e2 hrl etk
      walk_at "rd"
      refine⟨by lia,fun z hz=>CF.of ((Same.new hz).seqT (s4.seqT (s11.seqT e2))) (SqT.of Ac) (by simp;lia) fun q H5 s5 hq=>⟨(s4.newT hz).trans s5,?_,_,rfl⟩⟩
      rw[etk,ji_]
      refine Ba.snoc (hy.mono2 fun t ys z=>s5.seqT ((Same.new hz).seqT z)) ?_
      show SqT K H5 q ((row++[0]).map V.int)
      rw[ji_];exact hq
     ·obtain⟨s4,hy,o,rfl⟩:=h4'
      rw[t2.1,jM_]at hy
      have sD:=Same.new hD (o:=.lst ys)
      have hyl:=hy.1
      rw[jb_]at hyl
      refine⟨by lia,fun z hz=>⟨D,rfl,ys,Same.new hz _ _ Ac,_,Ac,by simp;lia,fun w hw=>?_⟩⟩
      have sW:=((sD.newT hz (o:=.lst [V.ref bt])).newT hw (o:=.lst (ys++[V.ref bt])))
      have s1w:=s11.trans (s4.trans sW)
      have sbw:=s4.trans sW
      refine (hRr _ _).mpr ⟨w,_,tb.map (· ++ [0])++[beside],_,_,s1w,sbw _ _ (sb _ _ c1),(c2.mono fun t ys z=>sb.seqT z).mono fun t ys z=>sbw.seqT z,Ac,Ba.snoc (hy.mono2 fun t ys z=>sW.seqT z) (sbw.seqT hb1),⟨by simp[htt.1],fun r hr=>?_⟩,fun e=>?_,.inl ⟨hev,beside,by rw[hTm];rfl⟩,rfl⟩
      ·rcases jx_.mp hr with hr|hr
       ·obtain⟨v,hv,rfl⟩:=jv_.mp hr
        refine⟨by rw[jk_,htt.2 v hv];rfl,fun x hx=>?_⟩
        rcases jx_.mp hx with hx|hx
        ·exact htr v hv x hx
        ·rw[jg_.mp hx];lia
       ·rw[jg_.mp hr];exact⟨hb2,hb3⟩
      ·have:=(s4.trans (sD.newT hz (o:=.lst [V.ref bt]))) _ _ (sb _ _ c1)
       rw[<-e,hw]at this;cases this
    ·refine⟨by lia,by lia,?_⟩
     rw[show ((n:Int)).toNat=n by lia]
     refine OR (fun j ys σ4 H4=>Same H1 H4/\(∃rows:α1,Ba K H4 ys rows/\rows.length=j/\(∀r∈rows,r.length=n+1/\∀x∈r,0<=x/\x<p)/\rows=(List.range j).map fun k=>tb.getD k []++[beside.getD k 0])/\∃o,σ4=[o,some (.int m),some (.ref bt),some (.ref h)]) ⟨Same.refl _,⟨[],⟨rfl,fun i r hi=>by simp at hi⟩,rfl,by simp,rfl⟩,none,rfl⟩ s!"" (fun j ys σ4 H4 hj h4'=>by obtain⟨_,⟨rows,a1,a2,_⟩,_⟩:=h4';have:=a1.1;lia) (fun j ys σ4 H4 hj h4'=>?_) (fun ys σ4 H4 h4' D hD=>?_)
     ·obtain⟨s4,⟨rows,r1,r2,r3,r4⟩,o,rfl⟩:=h4'
      rw[j3_]
      obtain⟨row,hgj⟩:∃row,tb[j]?=some row:=⟨tb[j]'s!"",by simp⟩
      obtain⟨tr,e1,e2⟩:=t2.2 j _ hgj
      have hrl:=htt.2 _ (jj_ hgj)
      have hrr:=htr _ (jj_ hgj)
      have hgD:tb.getD j []=row:=by rw[ja_,hgj];rfl
      obtain⟨bj,hbj⟩:∃b,beside[j]?=some b:=⟨beside[j]'s!"",by simp⟩
      have hbr:=hb3 _ (jj_ hbj)
      have s14:=s11.trans s4
      walk_at "rd"
      refine⟨_,s14.seqT h1,V.ref tt,rfl,tt,rfl,_,s14.seqT h4,V.ref u,AY (by rw[jh_,hu];rfl),u,rfl,_,s14.seqT t1,V.ref tr,AY e1,_,s4.seqT hb1,V.int bj,AY (by rw[jh_,hbj];rfl),by lia,fun z hz=>CF.of ((Same.new hz).seqT (s14.seqT e2)) (SqT.of Ac) (by simp;lia) fun q H5 s5 hq=>⟨(s4.newT hz).trans s5,⟨rows++[row++[bj]],Ba.snoc (r1.mono2 fun t ys z=>s5.seqT ((Same.new hz).seqT z)) (by rw[ji_];exact hq),by simp[r2],fun r hr=>?_,by rw[r4,j2_,ji_,j6_,hgD,ja_ (l:=beside),hbj];rfl⟩,_,rfl⟩⟩
      rcases jx_.mp hr with hr|hr
      ·exact r3 r hr
      ·rw[jg_.mp hr]
       refine⟨by simp[hrl],fun x hx=>?_⟩
       rcases jx_.mp hx with hx|hx
       ·exact hrr x hx
       ·rw[jg_.mp hx];exact hbr
     ·obtain⟨s4,⟨rows,r1,r2,r3,r4⟩,o,rfl⟩:=h4'
      have sD:=Same.new hD (o:=.lst ys)
      have uD:upd H4 D (.lst ys) D=some (.lst ys):=Ac
      have rD:=r1.mono2 fun t ys z=>sD.seqT z
      have s4D:=s4.trans sD
      have hDp:D≠pt:=fun e=>by have:=s4 _ _ (sb _ _ c1);rw[<-e,hD]at this;cases this
      have hDN:H D=none:=(s11.trans s4).gone' hD
      generalize upd H4 D (.lst ys)=H5 at sD uD rD s4D ⊢
      obtain⟨bn,hbn⟩:∃b,beside[n]?=some b:=⟨beside[n]'s!"",by simp⟩
      have hbr:=hb3 _ (jj_ hbn)
      have hyl:=rD.1
      refine⟨.inl ⟨rfl,_,SqL.of uD⟩,by lia,fun z hz=>OT.of (SqT.of Ac) (by simp) s!"" s!"" (by simp;lia) fun q H6 s6 hq=>?_⟩
      have s56:=(Same.new hz (o:=.tup [V.int 0])).trans s6
      refine⟨_,(s4D.trans s56).seqT hb1,V.int bn,AY (by rw[jh_,hbn];rfl),by lia,fun w hw=>CF.of ((Same.new hw).seqT hq) (SqT.of Ac) (by simp;lia) fun q2 H7 s7 hq2=>?_⟩
      have s57:=s56.trans ((Same.new hw (o:=.tup [V.int bn])).trans s7)
      have uD7:=s57 _ _ uD
      have s17:=s4D.trans s57
      have erep:(List.replicate ((n:Int)).toNat [V.int 0]).flatten=(List.replicate n (0:Int)).map V.int:=by
       rw[show ((n:Int)).toNat=n by lia];exact HW_ n
      rw[erep]at hq2
      refine⟨D,rfl,ys,uD7,by lia,(hRr _ _).mpr ⟨D,_,rows++[List.replicate n 0++[bn]],_,_,(s11.trans s17).over hDN,?_,((c2.mono fun t ys z=>sb.seqT z).mono fun t ys z=>s17.seqT z).mono fun t ys z=>AV uD7 z,Ac,Ba.snoc ((rD.mono2 fun t ys z=>s57.seqT z).mono2 fun t ys z=>AV uD7 z) (AV uD7 (by rw[ji_];exact hq2)),⟨by simp[r2],fun r hr=>?_⟩,hDp,.inr ⟨hev,fun k=>beside.getD k 0,bn,by rw[hTm,r4];rfl⟩,rfl⟩⟩
      ·rw[AD (qT_ hDp)];exact s17 _ _ (sb _ _ c1)
      ·rcases jx_.mp hr with hr|hr
       ·exact r3 r hr
       ·rw[jg_.mp hr]
        refine⟨by simp,fun x hx=>?_⟩
        rcases jx_.mp hx with hx|hx
        ·rw[(qV_.mp hx).2];lia
        ·rw[jg_.mp hx];exact hbr
   ·obtain⟨ptab,ys,tb',o7,o8,d1,d2,d3,d4,d5,d6,d7,d8,rfl⟩:=(hRr _ _).mp h2'
    walk_at "rd"
    refine⟨.inl ⟨rfl,_,SqL.of d2⟩,_,.inl ⟨SqL.of d4,fun t ht=>?_⟩⟩
    have st:=Same.new ht (o:=.tup ys)
    have hvl:=c2.1
    refine⟨_,st _ _ d2,by rw[jb_];lia,(hPv _ _ _).mpr ⟨vs++[t],done++[tb'],_,_,_,(d1.trans st).over hpt,by rw[Ac];simp,?_,by simp[c3],fun v hv=>?_,fun k hk=>?_,rfl⟩⟩
    ·exact TabL.snoc ((d3.mono fun t ys z=>st.seqT z).mono fun t ys z=>AV (st _ _ d2) z) (AV (st _ _ d2) (SqT.of Ac)) ((d5.mono2 fun t ys z=>st.seqT z).mono2 fun t ys z=>AV (st _ _ d2) z)
    ·rcases jx_.mp hv with hv|hv
     ·exact c4 v hv
     ·rw[jg_.mp hv];exact d6
    ·by_cases hkm:k=m
     ·subst hkm
      rw[ja_ (l:=done++[tb']),jq_ s!"",c3,qr_]
      exact d8
     ·have:=c5 k s!""
      rw[ja_ (l:=done++[tb']),jn_ s!"",<-ja_]
      exact this
  ·obtain⟨vs,done,o7,o8,o9,s1,c1,c2,c3,c4,c5,rfl⟩:=(hPv _ _ _).mp h'
   walk_at "rd"
   rw[show ((L:Int)).toNat=L by lia]at c3 c5
   refine⟨a,ns,(at_:Int)+7,p,rfl,s1.seq hs,by lia,by lia,by lia,fun x x0 x1=>?_⟩
   have fin:∀(f0 l0:Int),0<=f0->f0<p->0<=l0->l0<p->(∀v,isW L v=true->(⟨n+1,first++[f0],done,last++[l0]⟩:Hs).W p v=(⟨n,first,tables,last⟩:Hs).W p v)->∃x_1,SqT K H' h x_1/\∃x_2,atI x_1 1=some x_2/\∃x_3,SqT K H' h x_3/\∃x_4,atI x_3 2=some x_4/\1<=sizeLine/\∀(p_1:Addr),H' p_1=none->CF K x_4 (V.ref p_1) (upd H' p_1 (HO.tup [V.int f0])) fun x_5 H1=>∃x_6,(SqL K H1 pt x_6/\∀(l:Addr),H1 l=none->∃x_7,SqT K (upd H1 l (HO.tup x_6)) h x_7/\∃x_8,atI x_7 4=some x_8/\1<=sizeLine/\∀(p_2:Addr),upd H1 l (HO.tup x_6) p_2=none->CF K x_8 (V.ref p_2) (upd (upd H1 l (HO.tup x_6)) p_2 (HO.tup [V.int l0])) fun x H1=>5<=sizeLine/\∀(p_3:Addr),H1 p_3=none->Q (V.ref p_3) (upd H1 p_3 (HO.tup [V.int p,x_2,x_5,V.ref l,x])))\/False:=fun f0 l0 f1 f2 l1 l2 hWW=>by
    have hfl:=wf.f.1
    have hll:=wf.l.1
    refine⟨_,s1.seqT h1,V.int L,rfl,_,s1.seqT h1,V.ref tf,rfl,by lia,fun z hz=>CF.of ((Same.new hz).seqT (s1.seqT h2)) (SqT.of Ac) (by simp;lia) fun qf H2 s2 hqf=>?_⟩
    have s12:=s1.trans ((Same.new hz (o:=.tup [V.int f0])).trans s2)
    have s02:=(Same.new hz (o:=.tup [V.int f0])).trans s2
    refine⟨_,.inl ⟨SqL.of (s02 _ _ c1),fun t ht=>⟨_,(s12.newT ht).seqT h1,V.ref tl,rfl,by lia,fun z2 hz2=>CF.of ((Same.new hz2).seqT ((s12.newT ht).seqT h3)) (SqT.of Ac) (by simp;lia) fun ql H3 s3 hql=>⟨by lia,fun g hg=>?_⟩⟩⟩⟩
    have s23:=((Same.new ht (o:=.tup (vs.map V.ref))).newT hz2 (o:=.tup [V.int l0])).trans s3
    have sg:=Same.new hg (o:=.tup [V.int p,V.int L,V.ref qf,V.ref t,V.ref ql])
    have s2g:=s23.trans sg
    have ht3:=sg _ _ (s3 _ _ (Same.new hz2 (o:=.tup [V.int l0]) _ _ (Ac (H:=H2) (a:=t) (o:=.tup (vs.map V.ref)))))
    refine k g (first++[f0]) (last++[l0]) done _ ((s12.trans s23).trans sg) ⟨qf,t,ql,SqT.of Ac,by rw[ji_];exact s2g.seqT hqf,by rw[ji_];exact sg.seqT hql,vs,SqT.of ht3,c2.1,fun b u tb hb hv=>?_⟩ ⟨p2,p18,by lia,⟨by rw[jk_,hfl];rfl,fun x hx=>?_⟩,⟨by rw[jk_,hll];rfl,fun x hx=>?_⟩,by rw[c3],fun tb htb=>⟨(c4 tb htb).1,fun r hr=>((c4 tb htb).2 r hr).1⟩⟩ (fun tb htb r hr=>((c4 tb htb).2 r hr).2) hWW
    ·obtain⟨xs,a1,a2⟩:=c2.2 b u tb hb hv
     exact⟨xs,s2g.seqT (s02.seqT a1),(a2.mono2 fun t ys z=>s02.seqT z).mono2 fun t ys z=>s2g.seqT z⟩
    ·rcases jx_.mp hx with hx|hx
     ·exact wf.f.2 x hx
     ·rw[jg_.mp hx];exact⟨f1,f2⟩
    ·rcases jx_.mp hx with hx|hx
     ·exact wf.l.2 x hx
     ·rw[jg_.mp hx];exact⟨l1,l2⟩
   refine ite2 (fun hev=>fin 0 x s!"" s!"" x0 x1 fun v hv=>?_) (fun hev=>fin x 0 x0 x1 s!"" s!"" fun v hv=>?_)
   ·refine XF (h:=⟨n,first,tables,last⟩) wf (fun y hy=>?_) x hv
    rcases c5 y hy with ⟨_,z⟩|⟨z,_⟩
    ·exact z
    ·exact absurd hev z
   ·refine XG (h:=⟨n,first,tables,last⟩) wf (fun y hy=>?_) x hv
    rcases c5 y hy with ⟨z,_⟩|⟨_,z⟩
    ·exact absurd z hev
    ·exact z
noncomputable def NG (K:α3):Sp:=fun vs H Q _=>∃(h a:Addr) (p:Int) (at_ L n:Nat) (ns first last:α2) (tables:α0),vs=[.ref h,.ref a,.int at_]/\SqL K H a (ns.map V.int)/\SumH K H h p L first tables last/\WfSum p L n first tables last/\Sm p tables/\1<=L/\L<=6/\n<=4/\at_<=1000/\∀(g:Addr) (first' last':α2) (tables':α0) (H':Hp),Same H H'->SumH K H' g p L first' tables' last'->WfSum p L (n+1) first' tables' last'->Sm p tables'->(∀v,isW L v=true->(⟨n+1,first',tables',last'⟩:Hs).W p v=(⟨n,first,tables,last⟩:Hs).W p v)->Q (.ref g) H'
theorem Py   (F:Fun K "_law_another" "_law_another" Cy f fd)(T:Txt mg)
  (W:Own K mg)
  (Z:Exs K mg C_j3 C_j0 C_j2 C_j1)
   (AE:FnOk P w K mg base CX0 1 AN AX ["script","k"] (KS K)) (AA:Fun K "_law_cell" "_law_cell" BF AN AX) (AF:AI K AX ["script","k"] []) (AG:mg "_law_cell"=some (.ref AN))
   (BP:FnOk P w K mg base CX0 2 Bk BX ["script","k","p"] (Ie K)) (Br:Fun K "_law_number" "_law_number" BN Bk BX) (BQ:AI K BX ["script","k","p"] []) (BR:mg "_law_number"=some (.ref Bk))
   (JG:FnOk P w K mg base CX0 4 EJ LD ["house","script","at"] (Sd K)) (F6:Fun K "_law_grown" "_law_grown" DV EJ LD) (JH:AI K LD ["house","script","at"] []) (JI:mg "_law_grown"=some (.ref EJ))
   (Ii:FnOk P w K mg base CX0 2 Ed Kv ["house","i","j","times"] (Pu K)) (Fe:Fun K "_law_turned" "_law_turned" C7 Ed Kv) (Ij:AI K Kv ["house","i","j","times"] []) (Ik:mg "_law_turned"=some (.ref Ed))
  : FnOk P w K mg base CX0 5 f fd ["house","script","at"] (NG K):=by
 refine F.ok B3 (fun vs H Q E h=>?_) (fun cdv A outer s H vs Q E hr h=>?_)
 ·obtain⟨h,a,p,at_,L,n,ns,first,last,tables,rfl,_⟩:=h;rfl
 ·obtain⟨h,a,p,at_,L,n,ns,first,last,tables,rfl,hs,hh,wf,sm,hL1,hL6,hn4,hat,k⟩:=h
  have hl:=Au
  have p2:=wf.p2
  refine⟨_,(Ae (Ah (i:=0) B3.nd (Ai JG (hr.mono (by decide)) rfl JI F6.kp JH .nil AL (Aa (pvD 0) (Aa (pvD 1) (Aa (pvD 2) Ab)))))
   (Ae (Ah (i:=3) B3.nd (Az (lenD Ao) (by rfl) T.len jH_ (Aa (Aj (ixTD Am) (pvD 0) Ad) Ab)))
   (Ae (Cg jF_ rfl (A3 rfl T.range (Aa Ad Ab)) (Aw (i:=4) B3.nd rfl (Or.inl rfl))
   (Ae (Ah (i:=5) B3.nd (Al (opD Gb) (Ai AE (hr.mono (by decide)) rfl AG AA.kp AF .nil AL (Aa (pvD 1) (Aa (Al (opD0 Bw) (pvD 2) (pvD 4)) Ab))) Ad))
   (Ae (Ah (i:=6) B3.nd (Ai BP (hr.mono (by decide)) rfl BR Br.kp BQ .nil AL (Aa (pvD 1) (Aa (Al (opD0 Bw) (Al (opD0 Bw) (pvD 2) (pvD 4)) Ad) (Aa (Aj (ixTD Am) (pvD 0) Ad) Ab)))))
   (Ag (Ah (i:=0) B3.nd (Ai Ii (hr.mono (by decide)) rfl Ik Fe.kp Ij .nil AL (Aa (pvD 0) (Aa (Al (opD Bb) (pvD 5) (pvD 3)) (Aa (Al (opD Bb) (Al (opD Gb) (pvD 5) Ad) (pvD 3)) (Aa (pvD 6) Ab))))))))))
   (Ag (Ay (pvD 0)))))),?_⟩
  walk_at "rd"
  refine⟨h,a,p,at_,L,n,ns,first,last,tables,rfl,hs,hh,wf,sm,hL1,hL6,hn4,hat,fun g f1 l1 t1 H1 s1 hg wg smg hWg=>?_⟩
  obtain⟨tf,tt,tl,q1,q2,q3,q4⟩:=id hg
  walk_at "rd"
  refine⟨_,q1,V.ref tf,rfl,tf,rfl,_,.inr q2,?_⟩
  rw[jb_,wg.f.1]
  obtain⟨Pv,hPv⟩:∃Pv:Nat->St->Hp->Prop,∀m σ' H',Pv m σ' H'↔(∃(g:Addr) (f1 l1:α2) (t1:α0) (o4 o5 o6:Option V),Same H H'/\SumH K H' g p L f1 t1 l1/\WfSum p L (n+1) f1 t1 l1/\Sm p t1/\(∀v,isW L v=true->(⟨n+1,f1,t1,l1⟩:Hs).W p v=(⟨n,first,tables,last⟩:Hs).W p v)/\σ'=[some (.ref g),some (.ref a),some (.int at_),some (.int ((n+1:Nat):Int)),o4,o5,o6]):=⟨_,fun _ _ _=>qf_⟩
  refine⟨by decide,by decide,?_⟩
  refine forR Pv ((hPv _ _ _).mpr ⟨g,f1,l1,t1,none,none,none,s1,hg,wg,smg,hWg,rfl⟩) (fun m σ' H' hm h'=>?_) (fun σ' H' h'=>?_)
  ·obtain⟨g,f1,l1,t1,o4,o5,o6,c1,c2,c3,c4,c5,rfl⟩:=(hPv _ _ _).mp h'
   obtain⟨tf,tt,tl,q1,q2,q3,q4⟩:=id c2
   have hm3:m<3:=hm
   rw[j3_]
   walk_at "rd"
   refine⟨a,ns,at_+m,by rw[show ((at_+m:Nat):Int)=(at_:Int)+m by lia],c1.seq hs,_,rfl,⟨by decide,by decide⟩,_,q1,V.int p,rfl,a,ns,(at_:Int)+m+1,p,rfl,c1.seq hs,by lia,by lia,by lia,fun tm t0 t1'=>?_⟩
   generalize cell ns (at_+m) / 2=cc
   have a0:=jJ_ cc (show ((n+1:Nat):Int)≠0 by lia)
   have a1:=jE_ cc (show (0:Int)<((n+1:Nat):Int) by lia)
   have b0:=jJ_ (cc / 5) (show ((n+1:Nat):Int)≠0 by lia)
   have b1:=jE_ (cc / 5) (show (0:Int)<((n+1:Nat):Int) by lia)
   obtain⟨i,hi⟩:∃i:Nat,cc%((n+1:Nat):Int)=i:=⟨_,(q6_ a0).symm⟩
   obtain⟨j,hj⟩:∃j:Nat,cc / 5%((n+1:Nat):Int)=j:=⟨_,(q6_ b0).symm⟩
   rw[hi]at a1 ⊢
   rw[hj]at b1 ⊢
   refine⟨by lia,⟨by decide,by decide⟩,by lia,g,p,tm,L,n+1,i,j,f1,l1,t1,rfl,c2,c3,c4,by lia,by lia,hL6,by lia,by lia,by lia,fun g2 f2 l2 t2 H2 s2 d1 d2 d3 d4=>(hPv _ _ _).mpr ⟨g2,f2,l2,t2,_,_,_,c1.trans s2,d1,d2,d3,fun v hv=>(d4 v hv).trans (c5 v hv),rfl⟩⟩
  ·obtain⟨g,f1,l1,t1,o4,o5,o6,c1,c2,c3,c4,c5,rfl⟩:=(hPv _ _ _).mp h'
   walk_at "rd"
   exact k g f1 l1 t1 _ c1 c2 c3 c4 c5
noncomputable def KY (K:α3):Sp:=fun vs H Q _=>∃(a:Addr) (L:Int) (ws:α2),vs=[.ref a,.int L]/\SqT K H a (ws.map V.int)/\isW L ws=true/\Q (.bl true) H
theorem PD   (F:Fun K "_law_is_word" "_law_is_word" BV f fd)(T:Txt mg)
  (W:Own K mg)
  (Z:Exs K mg C_j3 C_j0 C_j2 C_j1)
   (EK:FnOk P w K mg base CX0 1 Cp Ff ["found"] (Tg)) (C2:Fun K "_law_whole" "_law_whole" CW Cp Ff) (EL:AI K Ff ["found"] []) (EM:mg "_law_whole"=some (.ref Cp))
  : FnOk P w K mg base CX0 2 f fd ["found","letters"] (KY K):=by
 refine F.ok Ji (fun vs H Q E h=>?_) (fun cdv A outer s H vs Q E hr h=>?_)
 ·obtain⟨a,L,ws,rfl,_⟩:=h;rfl
 ·obtain⟨a,L,ws,rfl,ha,hw,k⟩:=h
  have hl:=Au
  refine⟨_,(Ae (CI (Hh (ptB (Gg (Az Ez rfl T.isinstance ql_ (Aa (pvD 0) (Aa (Mn (v:=.ty "tuple") rfl T.tuple jz_ rfl) Ab))))))
   (Ag (Ay Gu))
   AZ)
   (Ae (Cg jF_ rfl (Kf (pvD 0)) (Aw (i:=2) Ji.nd rfl (Or.inl rfl))
   (Ag (CI (PW.pt (NU (Hh (ptB (Gg (Ai EK (hr.mono (by decide)) rfl EM C2.kp EL .nil AL (Aa (pvD 2) Ab))))) (NU (ptT (AK (opD0 VA) (pvD 2) Ad (AQ _))) (Nx (ptT (AK (opD0 Gz_) (pvD 2) (pvD 1) (AQ _)))))))
   (Ag (Ay Gu))
   AZ)))
   (Ag (Ay Gu)))),?_⟩
  walk_at "rd"
  refine⟨_,_,.tup ha,OS,_,Lg,?_⟩
  rw[if_neg (by decide)]
  refine⟨⟨_,ha⟩,?_⟩
  obtain⟨Pv,hPv⟩:∃Pv:Nat->St->Hp->Prop,∀m σ' H',Pv m σ' H'↔(H'=H/\∃o,σ'=[some (.ref a),some (.int L),o]):=⟨_,fun _ _ _=>qf_⟩
  refine forT (xs:=ws.map V.int) Pv ((hPv _ _ _).mpr ⟨rfl,none,rfl⟩) (fun i σ' H' _ h'=>by obtain⟨rfl,_⟩:=(hPv _ _ _).mp h';exact ha) (fun i x σ' H' hx h'=>?_) (fun σ' H' h'=>?_)
  ·obtain⟨rfl,o,rfl⟩:=(hPv _ _ _).mp h'
   obtain⟨g,hg,rfl⟩:=J5 hx
   have hb:=Bo.mp hw g (jj_ hg)
   walk_at "rd"
   refine⟨g,rfl,_,rfl,?_⟩
   rw[if_neg (by decide),if_neg s!"",if_neg s!""]
   exact (hPv _ _ _).mpr ⟨rfl,_,rfl⟩
  ·obtain⟨rfl,o,rfl⟩:=(hPv _ _ _).mp h'
   walk_at "rd"
   exact k
noncomputable def PH (K:α3):Sp:=fun vs H Q _=>∃(p:Int) (a:Addr) (xs:α2),vs=[.int p,.ref a,.int xs.length]/\SqL K H a (xs.map V.int)/\(∀x∈xs,0<=x/\x<p)/\Q (.bl true) H
theorem PJ   (F:Fun K "_law_list_by" "_law_list_by" Cz f fd)(T:Txt mg)
  (W:Own K mg)
  (Z:Exs K mg C_j3 C_j0 C_j2 C_j1)
   (EK:FnOk P w K mg base CX0 1 Cp Ff ["found"] (Tg)) (C2:Fun K "_law_whole" "_law_whole" CW Cp Ff) (EL:AI K Ff ["found"] []) (EM:mg "_law_whole"=some (.ref Cp))
  : FnOk P w K mg base CX0 2 f fd ["p","found","many"] (PH K):=by
 refine F.ok Jh (fun vs H Q E h=>?_) (fun cdv A outer s H vs Q E hr h=>?_)
 ·obtain⟨p,a,xs,rfl,_⟩:=h;rfl
 ·obtain⟨p,a,xs,rfl,ha,hin,k⟩:=h
  have hl:=Au
  refine⟨_,(Ae (CI (PW.pt (NU (Hh (ptB (Gg (Az Ez rfl T.isinstance ql_ (Aa (pvD 1) (Aa (Mn (v:=.ty "list") rfl T.list xo_ rfl) Ab)))))) (Nx (ptT (AK (opN OJ) (Az (lenD Ao) (by rfl) T.len jH_ (Aa (pvD 1) Ab)) (pvD 2) (AQ _))))))
   (Ag (Ay Gu))
   AZ)
   (Ae (Cg jF_ rfl (Mo (pvD 1)) (Aw (i:=3) Jh.nd rfl (Or.inl rfl))
   (Ag (CI (PW.pt (NU (Hh (ptB (Gg (Ai EK (hr.mono (by decide)) rfl EM C2.kp EL .nil AL (Aa (pvD 3) Ab))))) (NU (ptT (AK (opD0 VA) (pvD 3) Ad (AQ _))) (Nx (ptT (AK (opD0 Gz_) (pvD 3) (pvD 0) (AQ _)))))))
   (Ag (Ay Gu))
   AZ)))
   (Ag (Ay Gu)))),?_⟩
  walk_at "rd"
  refine⟨_,_,.lst ha,OS,_,Lg,?_⟩
  rw[if_neg (by decide)]
  refine⟨_,.inl ha,?_⟩
  rw[if_neg (by simp)]
  refine⟨⟨_,ha⟩,?_⟩
  obtain⟨Pv,hPv⟩:∃Pv:Nat->St->Hp->Prop,∀m σ' H',Pv m σ' H'↔(H'=H/\∃o,σ'=[some (.int p),some (.ref a),some (.int xs.length),o]):=⟨_,fun _ _ _=>qf_⟩
  refine forL (xs:=xs.map V.int) Pv ((hPv _ _ _).mpr ⟨rfl,none,rfl⟩) (fun i σ' H' _ h'=>by obtain⟨rfl,_⟩:=(hPv _ _ _).mp h';exact ha) (fun i x σ' H' hx h'=>?_) (fun σ' H' h'=>?_)
  ·obtain⟨rfl,o,rfl⟩:=(hPv _ _ _).mp h'
   obtain⟨g,hg,rfl⟩:=J5 hx
   have hb:=hin g (jj_ hg)
   walk_at "rd"
   refine⟨g,rfl,_,rfl,?_⟩
   rw[if_neg (by decide),if_neg s!"",if_neg s!""]
   exact (hPv _ _ _).mpr ⟨rfl,_,rfl⟩
  ·obtain⟨rfl,o,rfl⟩:=(hPv _ _ _).mp h'
   walk_at "rd"
   exact k
noncomputable def HX_ (K:α3)(H:Hp)(xs:List V)(rows:α1):Prop:=xs.length=rows.length/\∀(i:Nat) (r:α2),rows[i]?=some r->∃(b:Bool) (t:Addr),xs[i]?=some (.ref t)/\SqB K H b t (r.map V.int)
noncomputable def Se (K:α3):Sp:=fun vs H Q _=>∃(p:Int) (b:Bool) (a c:Addr) (m:Nat) (xs:List V) (rows:α1) (am:α2),vs=[.int p,.ref a,.ref c,.int m]/\2<=p/\p<1000000000000000000/\SqL K H a xs/\HX_ K H xs rows/\SqB K H b c (am.map V.int)/\am.length=rows.length/\(∀x∈am,0<=x/\x<p)/\(∀r∈rows,r.length=m)/\m<=16/\rows.length<=16/\∀q H',Same H H'->SqT K H' q ((DF p rows am m).map V.int)->Q (.ref q) H'
theorem To   (F:Fun K "_law_mixed" "_law_mixed" DW f fd)(T:Txt mg)
  (W:Own K mg)
  (Z:Exs K mg C_j3 C_j0 C_j2 C_j1)
  : FnOk P w K mg base CX0 1 f fd ["p","rows","amounts","size"] (Se K):=by
 refine F.ok Ia (fun vs H Q E h=>?_) (fun cdv A outer s H vs Q E hr h=>?_)
 ·obtain⟨p,b,a,c,m,xs,rows,am,rfl,_⟩:=h;rfl
 ·obtain⟨p,b,a,c,m,xs,rows,am,rfl,p2,p18,ha,hr,hc,hal,hin,hrm,hm,hr16,k⟩:=h
  have hl:=Au
  refine⟨_,(Ae (Ah (i:=4) Ia.nd (Ex Ab))
   (Ae (Cg jF_ rfl (A3 rfl T.range (Aa (pvD 3) Ab)) (Aw (i:=5) Ia.nd rfl (Or.inr rfl))
   (Ag (CH (Lc jQ_ jN_ jO_ Ci (pvD 4) (Aa (Al (opD Bb) (Az (OD rfl) rfl T.sum xx_ (Aa (C4 rfl (DK rfl) (cp:=Kt) ⟨⟨rfl,rfl⟩,⟨⟨rfl,rfl⟩,⟨⟨rfl,rfl⟩,True.intro⟩⟩⟩ (A3 rfl T.range (Aa (Az (lenD Ao) (by rfl) T.len jH_ (Aa (pvD 1) Ab)) Ab)) (fun _ _ _ _=>(Aw (i:=0) MB rfl (Or.inl rfl))) (fun _ _ _ _=>DI) (fun _ _ _ _=>(Al (opD DH) (Fj_ (By_ (K:=K) rfl) (pvD 1) (pvD 0) (fun _ _=>rfl)) (Fj_ (By_ (K:=K) rfl) (Aj (ixLD (Yj (K:=K) rfl)) (pvD 3) (pvD 0)) (pvD 2) (fun _ _=>rfl))))) Ab)) (pvD 0)) Ab)))))
   (Ag (Ay (AR AJ rfl T.tuple jz_ (Aa (pvD 4) Ab)))))),?_⟩
  walk_at "rd"
  refine⟨by lia,fun q hq=>⟨by lia,by lia,?_⟩⟩
  rw[jA_]
  obtain⟨Pv,hPv⟩:∃Pv:Nat->St->Hp->Prop,∀c' σ' H',Pv c' σ' H'↔(Same H H'/\H' q=some (.lst ((DF p rows am c').map V.int))/\∃o,σ'=[some (.int p),some (.ref a),some (.ref c),some (.int m),some (.ref q),o]):=⟨_,fun _ _ _=>qf_⟩
  refine forR Pv ((hPv _ _ _).mpr ⟨Same.new hq,Ac,none,rfl⟩) (fun c' σ2 H2 hc' h2=>?_) (fun σ2 H2 h2=>?_)
  ·obtain⟨s2,hq2,o,rfl⟩:=(hPv _ _ _).mp h2
   rw[j3_]
   walk_at "rd"
   have hxl:=hr.1
   refine⟨.inl ⟨rfl,_,SqL.of hq2⟩,_,.inl (s2.seq ha),by lia,by lia,?_⟩
   rw[jA_,hxl]
   obtain⟨Pc,hPc⟩:∃Pc:Nat->List V->St->Hp->Prop,∀j ys σ4 H4,Pc j ys σ4 H4↔(H4=H2/\ys=((List.range j).map fun k=>am.getD k 0*(rows.getD k []).getD c' 0).map V.int/\∃o,σ4=[o,some (.ref c),some (.int c'),some (.ref a)]):=⟨_,fun _ _ _ _=>qf_⟩
   refine OR Pc ((hPc _ _ _ _).mpr ⟨rfl,rfl,none,rfl⟩) s!"" (fun j ys σ4 H4 _ h4=>?_) (fun j ys σ4 H4 hj h4=>?_) (fun ys σ4 H4 h4 D hD=>?_)
   ·obtain⟨_,rfl,_⟩:=(hPc _ _ _ _).mp h4
    rw[jb_,jb_,jU_];exact jf_ _
   ·obtain⟨rfl,rfl,o4,rfl⟩:=(hPc _ _ _ _).mp h4
    rw[j3_]
    have hja:j<am.length:=by lia
    have hjr:j<rows.length:=by lia
    obtain⟨b2,t,e1,e2⟩:=hr.2 j rows[j] (by simp[hjr])
    have hcl:c'<(rows[j]).length:=by rw[hrm _ (jD_ hjr)];exact hc'
    have er:rows.getD j []=rows[j]:=by rw[ja_,jc_ hjr];rfl
    have ea:am.getD j 0=am[j]:=by rw[ja_,jc_ hja];rfl
    have ec:(rows.getD j []).getD c' 0=(rows[j])[c']:=by rw[er,ja_,jc_ hcl];rfl
    have hx:=hin _ (jD_ hja)
    have fin:Pc (j+1) (List.map V.int (List.map (fun k=>am.getD k 0*(rows.getD k []).getD c' 0) (List.range j))++[V.int (am[j]*(rows[j])[c'])]) [some (V.int j),some (V.ref c),some (V.int c'),some (V.ref a)] H4:=(hPc _ _ _ _).mpr ⟨rfl,by rw[j2_,ji_,ji_,j6_,j6_,ea,ec],_,rfl⟩
    have inner:∃x,SqL K H4 a x/\∃x_2,atI x (j:Int)=some x_2/\((∃p,x_2=V.ref p/\∃x,SqL K H4 p x/\∃x_3,atI x (c':Int)=some x_3/\∃i,V.int am[j]=V.int i/\∃x,x_3=V.int x/\CMul i x/\Pc (j+1) (List.map V.int (List.map (fun k=>am.getD k 0*(rows.getD k []).getD c' 0) (List.range j))++[V.int (i*x)]) [some (V.int j),some (V.ref c),some (V.int c'),some (V.ref a)] H4) \/ ∃p,x_2=V.ref p/\∃x,SqT K H4 p x/\∃x_3,atI x (c':Int)=some x_3/\∃i,V.int am[j]=V.int i/\∃x,x_3=V.int x/\CMul i x/\Pc (j+1) (List.map V.int (List.map (fun k=>am.getD k 0*(rows.getD k []).getD c' 0) (List.range j))++[V.int (i*x)]) [some (V.int j),some (V.ref c),some (V.int c'),some (V.ref a)] H4):=by
     refine⟨_,s2.seq ha,V.ref t,AY e1,?_⟩
     cases b2 with
     |false=>exact .inl ⟨t,rfl,_,s2.seq e2,_,Gy s!"" (v:=(rows[j])[c']) (by simp[hcl]),_,rfl,_,rfl,.inl ⟨by lia,by lia⟩,fin⟩
     |true=>exact .inr ⟨t,rfl,_,s2.seqT e2,_,Gy s!"" (v:=(rows[j])[c']) (by simp[hcl]),_,rfl,_,rfl,.inl ⟨by lia,by lia⟩,fin⟩
    walk_at "rd"
    cases b with
    |false=>exact .inl ⟨_,s2.seq hc,_,Gy s!"" (v:=am[j]) (by simp[hja]),inner⟩
    |true=>exact .inr ⟨_,s2.seqT hc,_,Gy s!"" (v:=am[j]) (by simp[hja]),inner⟩
   ·obtain⟨rfl,rfl,o4,rfl⟩:=(hPc _ _ _ _).mp h4
    refine⟨D,rfl,_,SqL.of Ac,by lia,_,(Same.new hD) _ _ hq2,by unfold DF;rw[jb_,jb_,jU_];lia,(hPv _ _ _).mpr ⟨(s2.newT hD).over hq,?_,_,rfl⟩⟩
    have:=EP_ am rows c' s!""
    rw[Ac,this]
    unfold DF
    rw[j2_,ji_,ji_];rfl
  ·obtain⟨s2,hq2,o,rfl⟩:=(hPv _ _ _).mp h2
   walk_at "rd"
   exact⟨_,.inl ⟨SqL.of hq2,fun t ht=>k t _ (s2.newT ht) (SqT.of Ac)⟩⟩
noncomputable def lvl (L:Nat):Nat->α1
 |0=>[[]]
 |n+1=>(lvl L n).flatMap fun v=>(List.range L).map fun x:Nat=>v++[(x:Int)]
noncomputable def allW (L:Nat):Nat->α1
 |0=>[[]]
 |n+1=>allW L n++lvl L (n+1)
theorem XI {L:Nat}:∀(n:Nat) {v:α2},v∈lvl L n->isW L v=true
 |0,v,h=>by rw[jg_.mp h];rfl
 |n+1,v,h=>by
  obtain⟨u,hu,h2⟩:=List.mem_flatMap.mp h
  obtain⟨x,hx,rfl⟩:=jv_.mp h2
  exact Bp_ (XI n hu) (Bo.mpr fun y hy=>by rw[jg_.mp hy];have:=j9_.mp hx;lia)
theorem LF {L:Nat}:∀(n:Nat) {v:α2},v∈allW L n->isW L v=true
 |0,v,h=>by rw[jg_.mp h];rfl
 |n+1,v,h=>by
  rcases jx_.mp h with h|h
  ·exact LF n h
  ·exact XI (n+1) h
theorem Tp {L:Nat}:∀(n:Nat) {v:α2},v∈lvl L n->v.length=n
 |0,v,h=>by rw[jg_.mp h];rfl
 |n+1,v,h=>by
  obtain⟨u,hu,h2⟩:=List.mem_flatMap.mp h
  obtain⟨x,hx,rfl⟩:=jv_.mp h2
  rw[jk_,Tp n hu];rfl
theorem F7 {L m:Nat}:∀{n:Nat},m<=n->(allW L m).length<=(allW L n).length
 |0,h=>by
  have:m=0:=by lia
  subst this
  exact jf_ _
 |n+1,h=>by
  by_cases e:m=n+1
  ·subst e;exact jf_ _
  ·have:=F7 (L:=L) (m:=m) (n:=n) s!""
   show _<=(allW L n++lvl L (n+1)).length
   rw[jk_];lia
theorem ET_ {L:Nat}:∀n:Nat,(lvl L n).length<=(allW L n).length
 |0=>jf_ _
 |n+1=>by show _<=(allW L n++lvl L (n+1)).length;rw[jk_];lia
noncomputable def WRs (K:α3)(H:Hp)(zs:List V)(f:α2->α2)(ws:α1):Prop:=zs.length=ws.length/\∀(i:Nat) (v:α2),ws[i]?=some v->∃t a b,zs[i]?=some (.ref t)/\SqT K H t [.ref a,.ref b]/\SqT K H a (v.map V.int)/\SqT K H b ((f v).map V.int)
section
variable {f:α2->α2}
theorem WRs.mono    (h:WRs K H zs f ws)(s:Same H H'):WRs K H' zs f ws:=⟨h.1,fun i v hi=>by
 obtain⟨t,a,b,e1,e2,e3,e4⟩:=h.2 i v hi
 exact⟨t,a,b,e1,s.seqT e2,s.seqT e3,s.seqT e4⟩⟩
theorem WRs.off     (hq:H q=some (.lst xs))(h:WRs K H zs f ws):WRs K (upd H q (.lst ys)) zs f ws:=⟨h.1,fun i v hi=>by
 obtain⟨t,a,b,e1,e2,e3,e4⟩:=h.2 i v hi
 exact⟨t,a,b,e1,AV hq e2,AV hq e3,AV hq e4⟩⟩
theorem WRs.app    (h:WRs K H zs f ws)(g:WRs K H ys f us):WRs K H (zs++ys) f (ws++us):=by
 refine⟨by rw[jk_,jk_,h.1,g.1],fun i v hi=>?_⟩
 by_cases hl:i<ws.length
 ·rw[jn_ hl]at hi
  rw[jn_ (by rw[h.1];exact hl)]
  exact h.2 i v hi
 ·rw[jq_ s!""]at hi
  rw[jq_ (by rw[h.1];lia),h.1]
  exact g.2 _ v hi
theorem WRs.one    (e2:SqT K H t [.ref a,.ref b])(e3:SqT K H a (v.map V.int))(e4:SqT K H b ((f v).map V.int)):WRs K H [.ref t] f [v]:=⟨rfl,fun i u hi=>by
 cases i with
 |zero=>cases hi;exact⟨t,a,b,rfl,e2,e3,e4⟩
 |succ i=>simp at hi⟩
end
noncomputable def YR (K:α3):Sp:=fun vs H Q _=>∃(h:Addr) (p:Int) (L m:Nat) (hs:Hs),vs=[.ref h,.int m]/\Ig K H h p L hs/\hs.ok p L/\L<=6/\m<=16/\(allW L m).length<=900/\∀q zs H',Same H H'->H' q=some (.lst zs)->WRs K H' zs (hs.R p) (allW L m)->Q (.ref q) H'
theorem XJ   (F:Fun K "_law_all" "_law_all" Fx f fd)(T:Txt mg)
  (W:Own K mg)
  (Z:Exs K mg C_j3 C_j0 C_j2 C_j1)
   (De:FnOk P w K mg base CX0 1 BK C1 ["p","row","table"] (LC K)) (B5:Fun K "_law_step" "_law_step" C5 BK C1) (Dh:AI K C1 ["p","row","table"] []) (Di:mg "_law_step"=some (.ref BK))
  : FnOk P w K mg base CX0 2 f fd ["house","most"] (YR K):=by
 refine F.ok CA (fun vs H Q E h=>?_) (fun cdv A outer s H vs Q E hr h=>?_)
 ·obtain⟨h,p,L,m,hs,rfl,_⟩:=h;rfl
 ·obtain⟨h,p,L,m,hs,rfl,hh,ok,hL6,hm16,h900,k⟩:=h
  have hl:=Au
  obtain⟨tf,tt,tl,h1,h2,h3,us,h4,h5,h6⟩:=id hh
  refine⟨_,(Ae (Ah (i:=2) CA.nd (Ex (Aa (A4 (Aa (A4 Ab) (Aa (Aj (ixTD Am) (pvD 0) Ad) Ab))) Ab)))
   (Ae (Ah (i:=3) CA.nd (pvD 2))
   (Ae (Cg jF_ rfl (A3 rfl T.range (Aa (pvD 1) Ab)) (Aw (i:=4) CA.nd rfl (Or.inl rfl))
   (Ae (Ah (i:=5) CA.nd (Ex Ab))
   (Ae (Cg jF_ rfl (Mo (pvD 3)) (Aw (i:=6) CA.nd rfl (Or.inl rfl))
   (Ag (Cg jF_ rfl (A3 rfl T.range (Aa (Aj (ixTD Am) (pvD 0) Ad) Ab)) (Aw (i:=7) CA.nd rfl (Or.inl rfl))
   (Ae (Ah (i:=8) CA.nd (Ai De (hr.mono (by decide)) rfl Di B5.kp Dh .nil AL (Aa (Aj (ixTD Am) (pvD 0) Ad) (Aa (Aj (ixTD Am) (pvD 6) Ad) (Aa (Aj (ixTD Am) (Aj (ixTD Am) (pvD 0) Ad) (pvD 7)) Ab)))))
   (Ag (CH (Lc jQ_ jN_ jO_ Ci (pvD 5) (Aa (A4 (Aa (Al B6 (Aj (ixTD Am) (pvD 6) Ad) (A4 (Aa (pvD 7) Ab))) (Aa (pvD 8) Ab))) Ab))))))))
   (Ae (Ah (i:=2) CA.nd (Al VI (pvD 2) (pvD 5)))
   (Ag (Ah (i:=3) CA.nd (pvD 5)))))))
   (Ag (Ay (pvD 2)))))),?_⟩
  walk_at "rd"
  refine⟨by lia,fun pe hpe=>?_⟩
  have sE:=Same.new hpe (o:=.tup [])
  have uE:upd H pe (.tup []) pe=some (.tup []):=Ac
  generalize upd H pe (.tup [])=H0 at sE uE ⊢
  refine⟨_,sE.seqT h1,V.ref tf,rfl,by lia,fun pp hpp=>?_⟩
  have sP:=Same.new hpp (o:=.tup [.ref pe,.ref tf])
  have uP:upd H0 pp (.tup [.ref pe,.ref tf]) pp=some (.tup [.ref pe,.ref tf]):=Ac
  generalize upd H0 pp (.tup [.ref pe,.ref tf])=H1 at sP uP ⊢
  refine⟨by lia,fun pt hpt=>⟨by lia,by lia,?_⟩⟩
  have sT:=Same.new hpt (o:=.lst [.ref pp])
  have uT:upd H1 pt (.lst [.ref pp]) pt=some (.lst [.ref pp]):=Ac
  generalize upd H1 pt (.lst [.ref pp])=H2 at sT uT ⊢
  rw[show ((m:Int)).toNat=m by lia]
  have s02:=sE.trans (sP.trans sT)
  have w0:WRs K H2 [.ref pp] (hs.R p) [[]]:=WRs.one (SqT.of (sT _ _ uP)) (SqT.of ((sP.trans sT) _ _ uE)) (s02.seqT h2)
  obtain⟨Pv,hPv⟩:∃Pv:Nat->St->Hp->Prop,∀i σ' H',Pv i σ' H'↔(∃(qt ql:Addr) (zs ys:List V) (o4 o5 o6 o7 o8:Option V),Same H H'/\H' qt=some (.lst zs)/\WRs K H' zs (hs.R p) (allW L i)/\H' ql=some (.lst ys)/\WRs K H' ys (hs.R p) (lvl L i)/\σ'=[some (.ref h),some (.int m),some (.ref qt),some (.ref ql),o4,o5,o6,o7,o8]):=⟨_,fun _ _ _=>qf_⟩
  refine forR Pv ((hPv _ _ _).mpr ⟨pt,pt,_,_,none,none,none,none,none,s02,uT,w0,uT,w0,rfl⟩) (fun i σ' H' hi h'=>?_) (fun σ' H' h'=>?_)
  ·obtain⟨qt,ql,zs,ys,o4,o5,o6,o7,o8,g1,g2,g3,g4,g5,rfl⟩:=(hPv _ _ _).mp h'
   have hlv:(lvl L i).length<=900:=jV_ (ET_ i) (jV_ (F7 s!"") h900)
   have hlv1:(lvl L (i+1)).length<=900:=jV_ (ET_ (i+1)) (jV_ (F7 s!"") h900)
   have hal1:(allW L (i+1)).length<=900:=jV_ (F7 s!"") h900
   rw[j3_]
   walk_at "rd"
   refine⟨by lia,fun pn hpn=>?_⟩
   have sN:=Same.new hpn (o:=.lst [])
   have uN:upd H' pn (.lst []) pn=some (.lst []):=Ac
   generalize upd H' pn (.lst [])=H3 at sN uN ⊢
   obtain⟨kids,hkids⟩:∃kids:α2->α1,kids=fun v=>(List.range L).map fun x:Nat=>v++[(x:Int)]:=⟨_,rfl⟩
   have hlvk:lvl L (i+1)=(lvl L i).flatMap kids:=by rw[hkids];rfl
   have hkl:∀v,(kids v).length=L:=fun v=>by rw[hkids];simp
   have hfl:∀j,(((lvl L i).take j).flatMap kids).length=((lvl L i).take j).length*L:=fun j=>by
    rw[List.length_flatMap]
    generalize (lvl L i).take j=l
    induction l with
    |nil=>simp
    |cons a l ih=>rw[j4_,List.sum_cons,ih,hkl,q7_,Nat.succ_mul];lia
   obtain⟨Pw,hPw⟩:∃Pw:Nat->St->Hp->Prop,∀j σ' H2,Pw j σ' H2↔(∃(us:List V) (o6 o7 o8:Option V),Same H' H2/\H2 pn=some (.lst us)/\WRs K H2 us (hs.R p) (((lvl L i).take j).flatMap kids)/\σ'=[some (.ref h),some (.int m),some (.ref qt),some (.ref ql),some (.int i),some (.ref pn),o6,o7,o8]):=⟨_,fun _ _ _=>qf_⟩
   refine⟨⟨_,SqL.of (sN _ _ g4)⟩,forL (xs:=ys) Pw ((hPw _ _ _).mpr ⟨[],_,_,_,sN,uN,⟨rfl,fun i v hi=>by simp at hi⟩,rfl⟩) (fun j σ2 H2 _ h2'=>by obtain⟨_,_,_,_,z,_⟩:=(hPw _ _ _).mp h2';exact SqL.of (z _ _ g4)) (fun j x σ2 H4 hx h2'=>?_) (fun σ2 H4 h2'=>?_)⟩
   ·obtain⟨us',o6,o7,o8,c1,c2,c3,rfl⟩:=(hPw _ _ _).mp h2'
    have hjy:=(jd_.mp hx).1
    have hjl:j<(lvl L i).length:=by rw[<-g5.1];exact hjy
    obtain⟨v,hv⟩:∃v,(lvl L i)[j]?=some v:=⟨(lvl L i)[j],by simp⟩
    obtain⟨t,ta,tb,e1,e2,e3,e4⟩:=g5.2 j v hv
    rw[hx]at e1
    cases e1
    have hvl:v.length=i:=Tp i (jj_ hv)
    walk_at "rd"
    have s14:=g1.trans c1
    refine⟨_,s14.seqT h1,_,rfl,(L:Int),rfl,by lia,by lia,?_⟩
    rw[show ((L:Int)).toNat=L by lia]
    obtain⟨Px,hPx⟩:∃Px:Nat->St->Hp->Prop,∀x σ' H2,Px x σ' H2↔(∃(us:List V) (o7 o8:Option V),Same H' H2/\H2 pn=some (.lst us)/\WRs K H2 us (hs.R p) (((lvl L i).take j).flatMap kids++(List.range x).map fun y:Nat=>v++[(y:Int)])/\σ'=[some (.ref h),some (.int m),some (.ref qt),some (.ref ql),some (.int i),some (.ref pn),some (.ref t),o7,o8]):=⟨_,fun _ _ _=>qf_⟩
    refine forR Px ((hPx _ _ _).mpr ⟨us',_,_,c1,c2,by rw[List.range_zero,q1_,zp_];exact c3,rfl⟩) (fun x σ3 H5 hx' h3'=>?_) (fun σ3 H5 h3'=>?_)
    ·obtain⟨vs,o7,o8,d1,d2,d3,rfl⟩:=(hPx _ _ _).mp h3'
     rw[j3_]
     walk_at "rd"
     have s15:=g1.trans d1
     have htl:hs.t.length=L:=by have:=ok.t;lia
     obtain⟨tbl,htb⟩:∃tb,hs.t[x]?=some tb:=⟨hs.t[x]'s!"",by simp⟩
     obtain⟨u,hu⟩:∃u,us[x]?=some u:=⟨us[x]'s!"",by simp⟩
     obtain⟨xs,a1,a2⟩:=h6 x u tbl hu htb
     have htt:=ok.tt _ (jj_ htb)
     have hrow:(hs.R p v).length=hs.d/\∀y∈hs.R p v,0<=y/\y<p:=ok.row v
     refine⟨_,s15.seqT h1,V.int p,rfl,_,d1.seqT e2,V.ref tb,rfl,_,s15.seqT h1,V.ref tt,rfl,tt,rfl,_,s15.seqT h4,V.ref u,AY (by rw[jh_,hu];rfl),p,u,tb,xs,tbl,hs.R p v,hs.d,rfl,by have:=ok.p2;lia,ok.p18,s15.seqT a1,a2.mono s15,htt.1,htt.2,d1.seqT e4,hrow.1,ok.dl,hrow.2,fun q H6 s6 hq=>?_⟩
     have hR:hs.R p (v++[(x:Int)])=DF p tbl (hs.R p v) hs.d:=by
      rw[Hs.row_app]
      show DF p (hs.t.getD ((x:Int)).toNat []) (hs.R p v) hs.d=_
      rw[show ((x:Int)).toNat=x by lia,ja_,htb];rfl
     rw[<-hR]at hq
     have d2':=s6 _ _ d2
     refine⟨.inl ⟨rfl,_,SqL.of d2'⟩,_,(d1.trans s6).seqT e2,V.ref ta,rfl,by lia,fun p1 hp1=>CF.of ((Same.new hp1).seqT ((d1.trans s6).seqT e3)) (SqT.of Ac) (by rw[jb_,hvl];simp;lia) fun q2 H7 s7 hq2=>⟨by lia,fun p2 hp2=>?_⟩⟩
     have hq2':SqT K H7 q2 ((v++[(x:Int)]).map V.int):=by rw[ji_];exact hq2
     have s67:=(Same.new hp1 (o:=.tup [V.int x])).trans s7
     have sP2:=Same.new hp2 (o:=.tup [V.ref q2,V.ref q])
     have uP2:upd H7 p2 (.tup [V.ref q2,V.ref q]) p2=some (.tup [V.ref q2,V.ref q]):=Ac
     generalize upd H7 p2 (.tup [V.ref q2,V.ref q])=H8 at sP2 uP2 ⊢
     have d2'':=sP2 _ _ (s67 _ _ d2')
     have hb:vs.length<900:=by
      have h1:=d3.1
      rw[jk_,hfl,jR_,jb_,jU_,xU_ s!""]at h1
      have h2:=hfl (lvl L i).length
      rw[jM_,<-hlvk]at h2
      have h3:(j+1)*L<=(lvl L i).length*L:=Nat.mul_le_mul_right L s!""
      rw[Nat.succ_mul]at h3
      lia
     refine⟨vs,d2'',by lia,(hPx _ _ _).mpr ⟨_,_,_,(d1.trans (s6.trans (s67.trans sP2))).over hpn,Ac,?_,rfl⟩⟩
     rw[j2_,ji_,<-zA_]
     exact WRs.app (WRs.off d2'' (d3.mono (s6.trans (s67.trans sP2)))) (WRs.one (AV d2'' (SqT.of uP2)) (AV d2'' (sP2.seqT hq2')) (AV d2'' ((s67.trans sP2).seqT hq)))
    ·obtain⟨vs,o7,o8,d1,d2,d3,rfl⟩:=(hPx _ _ _).mp h3'
     refine (hPw _ _ _).mpr ⟨vs,_,_,_,d1,d2,?_,rfl⟩
     rw[qb_,hv,List.flatMap_append]
     have:kids v=(List.range L).map fun y:Nat=>v++[(y:Int)]:=by rw[hkids]
     rw[Option.toList_some,List.flatMap_singleton,this]
     exact d3
   ·obtain⟨us',o6,o7,o8,c1,c2,c3,rfl⟩:=(hPw _ _ _).mp h2'
    rw[g5.1,jM_,<-hlvk]at c3
    walk_at "rd"
    have hsz:(allW L i).length+(lvl L (i+1)).length<=900:=by
     have:(allW L (i+1)).length=(allW L i++lvl L (i+1)).length:=rfl
     rw[jk_]at this;lia
    have hz1:=g3.1
    have hz2:=c3.1
    exact⟨zs,c1 _ _ g2,us',c2,by lia,fun q hq=>(hPv _ _ _).mpr ⟨q,pn,_,_,_,_,_,_,_,(g1.trans c1).newT hq,Ac,WRs.app ((g3.mono c1).mono (Same.new hq)) (c3.mono (Same.new hq)),Same.new hq _ _ c2,c3.mono (Same.new hq),rfl⟩⟩
  ·obtain⟨qt,ql,zs,ys,o4,o5,o6,o7,o8,g1,g2,g3,g4,g5,rfl⟩:=(hPv _ _ _).mp h'
   walk_at "rd"
   exact k qt zs H' g1 g2 g3
theorem Wk     (wf:WfSum p L d f t l):t.length=L.toNat/\(L.toNat:Int)=L:=by have:=wf.t;lia
theorem Dm_     (wf:WfSum p L d f1 t1 l1)(wg:WfSum p L e f2 t2 l2)(hw:isW L ws=true):
  dotW (l1++l2.map fun x => -1*x%p) (rowS p (d+e) (Ku d e t1 t2) (f1++f2) ws)%p=(dotW (rowS p d t1 f1 ws) l1%p-dotW (rowS p e t2 f2 ws) l2%p)%p:=by
 obtain⟨n1,nL⟩:=Wk wf
 obtain⟨n2,_⟩:=Wk wg
 have hws:∀x∈ws,0<=x/\x<(L.toNat:Int):=fun x hx=>by rw[nL];exact Bo.mp hw x hx
 have c0:=S7 (p:=p) (d:=d+e) (fun i=>cgT.refl p ((Ku d e t1 t2).getD i [])) ws (cg.refl p (f1++f2))
 rw[YJ (L:=L.toNat) (T:=Ku d e t1 t2) (t1:=t1) (t2:=t2) (fun i hi=>Dj_ (d:=d) (e:=e) (Lz d e) s!"" s!"") (fun i hi=>wf.dim s!"") (fun i hi=>wg.dim s!"") ws hws wf.f.1 wg.f.1]at c0
 have cl:cg p (l1++l2.map fun x => -1*x%p) (l1++l2.map (-1 * ·)):=cg.app (cg.refl _ _) (cg.map fun x _=>jT_ _ (qx_ p))
 have c1:=S7 (p:=p) (d:=d) (fun i=>cgT.refl p (t1.getD i [])) ws (cg.refl p f1)
 have c2:=S7 (p:=p) (d:=e) (fun i=>cgT.refl p (t2.getD i [])) ws (cg.refl p f2)
 rw[cg.dot cl c0,Jk _ _ _ _ (by rw[wf.l.1,YI ws wf.f.1]),Hn,cg.dot c1 (cg.refl p l1),cg.dot c2 (cg.refl p l2),<-ze_,Bt l1,Bt l2]
 congr 1
 lia
theorem Dn_  (hi:i<n):(List.replicate i (V.int 0)++[V.int 1])++List.replicate (n-i-1) (V.int 0)=(EW n i).map V.int:=by
 unfold EW
 refine qJ_ (by simp;lia) fun j h1 h2=>?_
 rw[qA_,qA_,xV_]
 rcases Nat.lt_trichotomy j i with h|h|h
 ·rw[xN_ (by simp;lia),xN_ (by simp;lia),List.getElem_replicate,if_neg s!""]
 ·subst h
  rw[xN_ (by simp),List.getElem_append_right (by simp),if_pos rfl]
  simp
 ·rw[List.getElem_append_right (by simp;lia),List.getElem_replicate,if_neg s!""]
theorem HY_:∀l:α2,∃mx:Int,(l=[]/\mx=0)\/(mx∈l/\∀z∈l,z<=mx)
 |[]=>⟨0,.inl ⟨rfl,rfl⟩⟩
 |x::l=>by
  obtain⟨mx,h⟩:=HY_ l
  rcases h with ⟨rfl,_⟩|⟨h1,h2⟩
  ·exact⟨x,.inr ⟨by simp,by simp⟩⟩
  ·by_cases hx:x<=mx
   ·exact⟨mx,.inr ⟨jt_ _ h1,fun z hz=>by rcases jL_.mp hz with rfl|hz;exact hx;exact h2 z hz⟩⟩
   ·exact⟨x,.inr ⟨jC_ ..,fun z hz=>by rcases jL_.mp hz with rfl|hz;exact x3_ _;have:=h2 z hz;lia⟩⟩
theorem Ba.toS {K:α3}    (h:Ba K H xs rows):HX_ K H xs rows:=⟨h.1,fun i r hi=>by
 obtain⟨t,a,b⟩:=h.2 i r hi
 exact⟨true,t,a,b⟩⟩
theorem Cb_   (hp:0<p)   (hl:row.length=d)(hin:∀y∈row,0<=y/\y<p)(he:∀i:Nat,i<d->row.getD i 0%p=dotW l (colW rows i)%p):DF p rows l d=row:=by
 have h0:(DF p rows l d).length=row.length:=by rw[Lr,hl]
 refine qC_ fun i=>?_
 by_cases hi:i<d
 ·unfold DF
  rw[jh_,j7_ hi,jc_ (show i<row.length by lia)]
  have e:=he i hi
  rw[ja_,jc_ (show i<row.length by lia)]at e
  have:=hin _ (jD_ (show i<row.length by lia))
  show some (dotW l (colW rows i)%p)=_
  rw[<-e]
  exact qY_ some (j5_ this.1 this.2)
 ·rw[ju_ s!"",ju_ s!""]
section
variable {p:Int} {L d:Nat} {tables:α0} {first last:α2} {F ws:α1}
theorem BW.inF68 (b:BW p L d tables first F F.length ws)  (hf:f∈F):Span p d ((ws.filter fun u=>decide (BE L u<=BE L f)).map (Mine.rowS p d tables first)) fun i=>(Mine.rowS p d tables first f).getD i 0:=by
 obtain⟨j,_,a,c⟩:=b.span f (by rwa [jM_])
 refine a.trans fun r hr=>?_
 obtain⟨u,hu,rfl⟩:=jv_.mp hr
 exact Span.mem (zu_ (xc_.mpr ⟨xb_ hu,qg_ (c u hu)⟩))
theorem HZ_ {x:Nat}(wf:WfSum p L d first tables last)(hx:x<L){S:α1}{cs r:α2}(hcl:cs.length=S.length)(hr:r.length=d)
  (he:∀i:Nat,i<d->r.getD i 0%p=dotW cs (colW (S.map (Mine.rowS p d tables first)) i)%p):
  ∀c:Nat,c<d->(FW p d tables r x).getD c 0%p=dotW cs (colW (S.map fun v=>Mine.rowS p d tables first (v++[(x:Int)])) c)%p:=fun c hc=>by
 have hT:(tables.getD ((x:Int)).toNat []).length=d/\∀q∈tables.getD ((x:Int)).toNat [],q.length=d:=by
  have hxt:x<tables.length:=by have:=wf.t;lia
  rw[show ((x:Int)).toNat=x by lia,ja_,jc_ hxt]
  exact wf.tt _ (jD_ hxt)
 unfold FW
 rw[KU hc,jT_ _ (qx_ p)]
 rw[cg.dot (FX_ hr he) (cg.refl p (colW (tables.getD ((x:Int)).toNat []) c)),S1 (by rw[Ib];exact hT.1) (S.map (Mine.rowS p d tables first)) cs (fun q hq=>by obtain⟨v,_,rfl⟩:=jv_.mp hq;exact (wf.row v).1) (by rw[jb_,hcl]),jK_]
 unfold colW
 rw[jK_]
 refine cg.dot (cg.refl p cs) (cg.map fun v _=>?_)
 show dotW _ (Mine.rowS p d tables first v)%p=(Mine.rowS p d tables first (v++[(x:Int)])).getD c 0%p
 rw[Bt]
 have e:Mine.rowS p d tables first (v++[(x:Int)])=FW p d tables (Mine.rowS p d tables first v) x:=by unfold Mine.rowS;rw[qE_];rfl
 rw[e]
 unfold FW
 rw[KU hc,jT_ _ (qx_ p)]
 rfl
theorem BW.below68 (wf:WfSum p L d first tables last)(b:BW p L d tables first F F.length ws):∀(n:Nat) (v:α2),v.length=n->isW L v=true->Span p d ((ws.filter fun u=>decide (BE L u<=BE L v)).map (Mine.rowS p d tables first)) fun i=>(Mine.rowS p d tables first v).getD i 0:=by
 intro n
 induction n with
 |zero=>
  intro v hv _
  have:v=[]:=jX_.mp hv
  subst this
  exact b.inF68 (jj_ b.f0)
 |succ n ih=>
  intro v hv hw
  obtain⟨u,x,rfl⟩:∃u x,v=u++[x]:=⟨v.dropLast,v.getLast (by intro e;subst e;simp at hv),(qQ_ _).symm⟩
  have hwu:isW L u=true:=Bo.mpr fun y hy=>Bo.mp hw y (jY_ _ hy)
  have hxb:=Bo.mp hw x (by simp)
  obtain⟨x,rfl⟩:=xW_ hxb.1
  have hx:x<L:=by lia
  obtain⟨cs,hcl,hcs⟩:=ih u (by simp at hv;lia) hwu
  rw[jb_]at hcl
  have e1:Mine.rowS p d tables first (u++[(x:Int)])=FW p d tables (Mine.rowS p d tables first u) x:=by unfold Mine.rowS;rw[qE_];rfl
  have hs:=HZ_ wf hx hcl (wf.row u).1 hcs
  have s2:Span p d ((ws.filter fun w=>decide (BE L w<=BE L u)).map fun w=>Mine.rowS p d tables first (w++[(x:Int)])) fun i=>(Mine.rowS p d tables first (u++[(x:Int)])).getD i 0:=⟨cs,by rw[jb_];exact hcl,fun i hi=>by rw[e1];exact hs i hi⟩
  refine s2.trans fun r hr=>?_
  obtain⟨w,hw1,rfl⟩:=jv_.mp hr
  obtain⟨hwm,hwp⟩:=xc_.mp hw1
  have hwp:=xy_ hwp
  refine (b.inF68 (b.kids w hwm x s!"" hxb.2)).trans fun r hr=>?_
  obtain⟨q,hq,rfl⟩:=jv_.mp hr
  obtain⟨hq1,hq2⟩:=xc_.mp hq
  have hq2:=xy_ hq2
  refine Span.mem (zu_ (xc_.mpr ⟨hq1,qg_ ?_⟩))
  rw[Du]at hq2 ⊢
  have:=j1_ hwp (show (0:Int)<=L by lia)
  lia
end
theorem BW.first68 {z:Hs}{p:Int}{L:Nat}{F ws:α1}(ok:z.ok p L)(b:BW p L z.d z.t z.f F F.length ws){v:α2}(hv:isW L v=true)(hne:z.W p v≠0):∃w∈ws,BE L w<=BE L v/\z.W p w≠0:=by
 refine qk_ fun hno=>hne ?_
 have hs:=b.below68 ok v.length v rfl hv
 have:=hs.linear (ok.row v).1 (g:=z.l) ok.l.1 fun r hr=>by
  obtain⟨w,hw,rfl⟩:=jv_.mp hr
  obtain⟨h1,h2⟩:=xc_.mp hw
  refine⟨(ok.row w).1,qk_ fun h3=>hno ⟨w,h1,xy_ h2,h3⟩⟩
 unfold Hs.W
 rw[Bt]
 exact this
noncomputable def LG (p:Int)(x y:Hs):Hs:=⟨x.d+y.d,x.f++y.f,Ku x.d y.d x.t y.t,x.l++y.l.map fun v => -1*v%p⟩
theorem LH    (hx:x.ok p L)(hy:y.ok p L)(h:x.d+y.d<=40):(LG p x y).ok p L:=FW_ hx hy h
theorem EU_ {p:Int}{L:Nat}{x:Hs}(hx:x.ok p L)(v:α2):0<=x.W p v/\x.W p v<p:=by
 have:=hx.p2
 exact⟨jJ_ _ s!"",jE_ _ s!""⟩
theorem OF {p:Int}{L:Nat}{x y:Hs}(hx:x.ok p L)(hy:y.ok p L){v:α2}(hv:isW L v=true):(LG p x y).W p v=0↔x.W p v=y.W p v:=by
 have e:=Dm_ hx hy hv
 rw[Bt (rowS p x.d x.t x.f v),Bt (rowS p y.d y.t y.f v)]at e
 have e':(LG p x y).W p v=(x.W p v-y.W p v)%p:=e
 rw[e']
 have a:=EU_ hx v
 have b:=EU_ hy v
 constructor
 ·intro h
  have:=jI_.mpr h
  rwa [j5_ a.1 a.2,j5_ b.1 b.2]at this
 ·intro h
  rw[h];simp
noncomputable def Df (p:Int)(L:Nat)(x y:Hs)(v:α2):Prop:=isW L v=true/\x.W p v≠y.W p v/\∀u,isW L u=true->BE L u<BE L v->x.W p u=y.W p u
theorem Df.comm     (h:Df p L x y v):Df p L y x v:=⟨h.1,fun e=>h.2.1 e.symm,fun u a b=>(h.2.2 u a b).symm⟩
theorem Df.uniq {p:Int}{L:Nat}(hL:0<L){x y:Hs}{v w:α2}(h:Df p L x y v)(g:Df p L x y w):v=w:=by
 have h1:¬ BE L v<BE L w:=fun z=>h.2.1 (g.2.2 v h.1 z)
 have h2:¬ BE L w<BE L v:=fun z=>g.2.1 (h.2.2 w g.1 z)
 exact Bi_ s!"" h.1 g.1 s!""
theorem Df.of {p:Int}{L:Nat}{x y:Hs}{F ws:α1}(hx:x.ok p L)(hy:y.ok p L)(h40:x.d+y.d<=40)(b:BW p L (LG p x y).d (LG p x y).t (LG p x y).f F F.length ws){i:Nat}{v:α2}(hv:ws[i]?=some v)(hne:(LG p x y).W p v≠0)(hb:∀(j:Nat) (u:α2),j<i->ws[j]?=some u->(LG p x y).W p u=0):Df p L x y v:=by
 have hW:isW L v=true:=b.valid v (by have:=b.kF v (jj_ hv);rwa [jM_]at this)
 refine⟨hW,fun e=>hne ((OF hx hy hW).mpr e),fun u hu hlt=>qk_ fun hd=>?_⟩
 obtain⟨w,hw1,hw2,hw3⟩:=b.first68 (LH hx hy h40) hu fun z=>hd ((OF hx hy hu).mp z)
 obtain⟨j,hj⟩:=qp_.mp hw1
 by_cases hji:j<i
 ·exact hw3 (hb j w hji hj)
 ·by_cases hij:j=i
  ·subst hij;rw[hv]at hj;cases hj;lia
  ·have hs:=xC_.mp b.kSort i j (jd_.mp hv).1 (jd_.mp hj).1 s!""
   rw[(jd_.mp hv).2,(jd_.mp hj).2]at hs
   lia
theorem Ia_ {p:Int}{L:Nat}{x y:Hs}{F ws:α1}(hx:x.ok p L)(hy:y.ok p L)(h40:x.d+y.d<=40)(b:BW p L (LG p x y).d (LG p x y).t (LG p x y).f F F.length ws)(hb:∀u∈ws,(LG p x y).W p u=0):∀v,isW L v=true->x.W p v=y.W p v:=fun v hv=>qk_ fun hd=>by
 obtain⟨w,hw1,hw2,hw3⟩:=b.first68 (LH hx hy h40) hv fun z=>hd ((OF hx hy hv).mp z)
 exact hw3 (hb w hw1)
theorem Wl {L:Nat}:∀(n:Nat) (v:α2),v.length=n->isW L v=true->v∈lvl L n
 |0,v,h,_=>by rw[jX_.mp h];exact jg_.mpr rfl
 |n+1,v,hv,hw=>by
  obtain⟨u,x,rfl⟩:∃u x,v=u++[x]:=⟨v.dropLast,v.getLast (by intro e;subst e;simp at hv),(qQ_ _).symm⟩
  have hwu:isW L u=true:=Bo.mpr fun y hy=>Bo.mp hw y (jY_ _ hy)
  have hxb:=Bo.mp hw x (by simp)
  obtain⟨x,rfl⟩:=xW_ hxb.1
  exact List.mem_flatMap.mpr ⟨u,Wl n u (by simp at hv;lia) hwu,jv_.mpr ⟨x,j9_.mpr s!"",rfl⟩⟩
theorem Wm {L:Nat}:∀(n:Nat) (v:α2),v.length<=n->isW L v=true->v∈allW L n
 |0,v,h,_=>by rw[jX_.mp (Nat.le_zero.mp h)];exact jg_.mpr rfl
 |n+1,v,hv,hw=>by
  by_cases e:v.length<=n
  ·exact jY_ _ (Wm n v e hw)
  ·exact jP_ _ (Wl (n+1) v s!"" hw)
theorem NH {L:Nat}:∀n:Nat,(lvl L n).Pairwise fun a b=>BE L a<BE L b
 |0=>qF_ ..
 |n+1=>by
  refine List.pairwise_flatMap.mpr ⟨fun v _=>?_,?_⟩
  ·refine x7_.mpr (List.pairwise_lt_range.imp fun {x y} hxy=>?_)
   rw[Du,Du];lia
  ·refine (NH n).imp fun {a b} hab x hx y hy=>?_
   obtain⟨i,hi,rfl⟩:=jv_.mp hx
   obtain⟨j,hj,rfl⟩:=jv_.mp hy
   rw[Du,Du]
   have hi:=j9_.mp hi
   have:=j1_ (show BE L a+1<=BE L b by lia) (show (0:Int)<=L by lia)
   rw[x4_]at this
   lia
theorem Wn {L:Nat}:∀(n:Nat) {v:α2},v∈allW L n->v.length<=n
 |0,v,h=>by rw[jg_.mp h];exact jf_ _
 |n+1,v,h=>by
  rcases jx_.mp h with h|h
  ·exact Nat.le_succ_of_le (Wn n h)
  ·exact Nat.le_of_eq (Tp (n+1) h)
theorem NJ {L:Nat}(hL:0<L):∀n:Nat,(allW L n).Pairwise fun a b=>BE L a<BE L b
 |0=>qF_ ..
 |n+1=>by
  refine qX_.mpr ⟨NJ hL n,NH (n+1),fun a ha b hb=>?_⟩
  have h1:=(RT (show (0:Int)<L by lia) (LF n ha) n).mp (Wn n ha)
  have h2:¬ b.length<=n:=by rw[Tp (n+1) hb];lia
  rw[RT (show (0:Int)<L by lia) (XI (n+1) hb) n]at h2
  lia
theorem Ga_  (hL1:1<=L)(hL6:L<=6)(h:n+L<=4\/n<=1)(hm:m<=2*n):(allW L m).length<=900:=by
 have hL:L=1\/L=2\/L=3\/L=4\/L=5\/L=6:=by lia
 by_cases hn:n<=1
 ·refine jV_ (F7 (show m<=2 by lia)) ?_
  rcases hL with rfl|rfl|rfl|rfl|rfl|rfl<;>decide
 ·by_cases hn2:n=2
  ·refine jV_ (F7 (show m<=4 by lia)) ?_
   have hL2:L=1\/L=2:=by lia
   rcases hL2 with rfl|rfl<;>decide
  ·refine jV_ (F7 (show m<=6 by lia)) ?_
   have hL2:L=1:=by lia
   subst hL2
   decide
noncomputable def GR (K:α3)(BH:Addr):Sp:=fun vs H Q E=>∃(h g:Addr) (p q:Int) (L M:Nat) (x y:Hs),vs=[.ref h,.ref g]/\Ig K H h p L x/\x.ok p L/\Ig K H g q M y/\y.ok q M/\(p=q/\L=M->Pr p)/\1<=L/\L<=6/\x.d+y.d<=40/\(x.d+y.d)*L<=96/\(p=q/\L=M->(∀v,isW L v=true->x.W p v=y.W p v)->∀H',Same H H'->Q .non H')/\(p=q/\L=M->∀t v H',Same H H'->SqT K H' t (v.map V.int)->Df p L x y v->v.length+1<=x.d+y.d->Q (.ref t) H')/\(¬ (p=q/\L=M)->∀H',Same H H'->E (.ref BH) none H')
theorem LI   (F:Fun K "sums_difference" "sums_difference" AM f fd)(T:Txt mg)
  (W:Own K mg)
  (Z:Exs K mg C_j3 C_j0 C_j2 C_j1)
   (XM:FnOk P w K mg base (CXe P w) 6 MR YS ["house","word"] (YH K C_j2)) (PL:Fun K "worth" "worth" KO MR YS) (XN:AI K YS ["house","word"] []) (XO:mg "worth"=some (.ref MR))
   (CL:FnOk P w K mg base (CXe P w) 1 Bq Dp ["house","other"] (XA K C_j0)) (BC:Fun K "check_as_many" "check_as_many" BA Bq Dp) (CM:AI K Dp ["house","other"] []) (CN:mg "check_as_many"=some (.ref Bq))
   (Hx:FnOk P w K mg base CX0 2 Fc Hy ["house","other"] (Pn K)) (F5:Fun K "less_of" "less_of" FQ Fc Hy) (Hz:AI K Hy ["house","other"] []) (HD:mg "less_of"=some (.ref Fc))
   (EG:FnOk P w K mg base CX0 4 Co Fd ["house"] (Ta K)) (C0:Fun K "basis_rows" "basis_rows" CV Co Fd) (EH:AI K Fd ["house"] []) (EI:mg "basis_rows"=some (.ref Co))
  : FnOk P w K mg base (CXe P w) 7 f fd ["house","other"] (GR K C_j0):=by
 refine F.okE EY (fun vs H Q E h=>?_) (fun cdv A outer s H vs Q E hr h=>?_)
 ·obtain⟨h,g,p,q,L,M,x,y,rfl,_⟩:=h;rfl
 ·obtain⟨h,g,p,q,L,M,x,y,rfl,hx,okx,hy,oky,hp,hL1,hL6,h40,h96,k0,k1,kE⟩:=h
  have hl:=Au
  refine⟨_,(Ae (CH (Ai CL (hr.mono (by decide)) rfl CN BC.kp CM .nil (VO fun _ _ _ h=>h) (Aa (pvD 0) (Aa (pvD 1) Ab))))
   (Ae (Ah (i:=2) EY.nd (Ai Hx (hr.mono (by decide)) rfl HD F5.kp Hz .nil AL (Aa (pvD 0) (Aa (pvD 1) Ab))))
   (Ae (Cg PassesOwn.leaving rfl (CM_ (Ai EG (hr.mono (by decide)) rfl EI C0.kp EH .nil AL (Aa (pvD 2) Ab))) (Aw (i:=3) EY.nd rfl (Or.inl rfl))
   (Ag (CI (ptT (AK (opN OJ) (Ai XM (hr.mono (by decide)) rfl XO PL.kp XN .nil (VO fun _ _ _ h=>h) (Aa (pvD 2) (Aa (pvD 3) Ab))) Ad (AQ _)))
   (Ag (Ay (pvD 3)))
   AZ)))
   (Ag (Ay Gv))))),?_⟩
  walk_at "rd"
  refine⟨h,g,p,q,L,M,x.f,y.f,x.l,y.l,x.t,y.t,rfl,hx,hy,fun hq H1 s1=>?_,fun hq H1 s1=>kE (fun z=>hq ⟨z.1,by lia⟩) H1 s1⟩
  have hq:p=q/\L=M:=⟨hq.1,by lia⟩
  have hpr:=hp hq
  have j0:=k0 hq
  have j1:=k1 hq
  clear hp kE k0 k1
  obtain⟨rfl,rfl⟩:=hq
  refine⟨h,g,p,L,x.d,y.d,x.f,y.f,x.l,y.l,x.t,y.t,rfl,hx.mono s1,hy.mono s1,okx,oky,by lia,fun r H2 s2 hr2=>?_⟩
  have okz:=LH okx oky h40
  refine⟨r,p,L,x.d+y.d,_,_,_,rfl,hpr,hr2,okz,hL6,h40,h96,fun qd kvs F ws H3 s3 hqd hqdN rd bw hwd=>?_⟩
  have s03:=s1.trans (s2.trans s3)
  refine⟨qd,rfl,kvs,hqd,fun o=>?_⟩
  have sF:Same H2 (upd H3 qd (.frz o (.dT kvs))):=s3.over hqdN
  have uF:upd H3 qd (.frz o (.dT kvs)) qd=some (.frz o (.dT kvs)):=Ac
  generalize upd H3 qd (.frz o (.dT kvs))=HF at sF uF ⊢
  have s0F:=s1.trans (s2.trans sF)
  have hkl:=rd.1.len
  obtain⟨Pv,hPv⟩:∃Pv:Nat->St->Hp->Prop,∀i σ' H',Pv i σ' H'↔(Same HF H'/\(∀(j:Nat) (u:α2),j<i->ws[j]?=some u->(LG p x y).W p u=0)/\∃o3,σ'=[some (.ref h),some (.ref g),some (.ref r),o3]):=⟨_,fun _ _ _=>qf_⟩
  refine forD Pv ((hPv _ _ _).mpr ⟨Same.refl _,fun j u hj=>by lia,none,rfl⟩) (fun i σ' H' _ h'=>((hPv _ _ _).mp h').1 _ _ uF) (fun i ky vl b σ' H' hk h' hb=>?_) (fun σ' H' h'=>?_)
  ·obtain⟨c1,c2,o3,rfl⟩:=(hPv _ _ _).mp h'
   obtain⟨u,hu,rfl⟩:∃u,ws[i]?=some u/\ky=wkey u:=by
    have e:(kvs.map (·.1))[i]?=some ky:=by rw[jh_,hk];rfl
    rw[show kvs.map (·.1)=ws.map wkey from rd.1,jh_]at e
    cases hw:ws[i]? with
    |none=>rw[hw]at e;cases e
    |some u=>rw[hw]at e;exact⟨u,rfl,(jB_ e).symm⟩
   rw[Xn]at hb
   have huv:=bw.wsW (jj_ hu)
   have hul:=bw.shorter (show (0:Int)<L by lia) (jj_ hu)
   have hwd':ws.length<=x.d+y.d:=hwd
   walk_at "rd"
   refine⟨r,b,p,L,x.d+y.d,_,_,u,_,rfl,(hr2.mono sF).mono c1,okz,SqT.of hb,by lia,fun _ H4 s4=>?_,fun z=>by rw[huv]at z;cases z⟩
   refine⟨rfl,ite2 (fun hne=>?_) (fun he=>?_)⟩
   ·refine j1 b u H4 (s0F.trans (c1.trans s4)) (SqT.of (s4 _ _ hb)) (Df.of okx oky h40 bw hu (fun e=>?_) c2) s!""
    have e':dotW (x.l++y.l.map fun v => -1*v%p) (Mine.rowS p (x.d+y.d) (Ku x.d y.d x.t y.t) (x.f++y.f) u)%p=0:=e
    rw[e']at hne
    simp at hne
   ·refine (hPv _ _ _).mpr ⟨c1.trans s4,fun j v hj hv=>?_,_,rfl⟩
    by_cases hji:j=i
    ·subst hji
     rw[hu]at hv
     cases hv
     have:V.int (dotW (x.l++y.l.map fun v => -1*v%p) (Mine.rowS p (x.d+y.d) (Ku x.d y.d x.t y.t) (x.f++y.f) u)%p)=V.int 0:=by simpa using he
     exact V.int.inj this
    ·exact c2 j v s!"" hv
  ·obtain⟨c1,c2,o3,rfl⟩:=(hPv _ _ _).mp h'
   walk_at "rd"
   refine j0 (Ia_ okx oky h40 bw fun u hu=>?_) _ (s0F.trans c1)
   obtain⟨i,hi⟩:=qp_.mp hu
   exact c2 i u (by rw[hkl];exact (jd_.mp hi).1) hi
noncomputable def Gq (K:α3)(BH:Addr):Sp:=fun vs H Q E=>∃(h g:Addr) (p q:Int) (L M:Nat) (x y:Hs),vs=[.ref h,.ref g]/\Ig K H h p L x/\x.ok p L/\Ig K H g q M y/\y.ok q M/\(p=q/\L=M->Pr p)/\1<=L/\L<=6/\x.d+y.d<=40/\(x.d+y.d)*L<=96/\(p=q/\L=M->(∀v,isW L v=true->x.W p v=y.W p v)->∀H',Same H H'->Q (.bl true) H')/\(p=q/\L=M->∀v H',Same H H'->Df p L x y v->Q (.bl false) H')/\(¬ (p=q/\L=M)->∀H',Same H H'->E (.ref BH) none H')
theorem Tq   (F:Fun K "sums_alike" "sums_alike" BB f fd)(T:Txt mg)
  (W:Own K mg)
  (Z:Exs K mg C_j3 C_j0 C_j2 C_j1)
   (Ap:FnOk P w K mg base (CXe P w) 7 Ak As ["house","other"] (GR K C_j0)) (An:Fun K "sums_difference" "sums_difference" AM Ak As) (Aq:AI K As ["house","other"] []) (Ar:mg "sums_difference"=some (.ref Ak))
  : FnOk P w K mg base (CXe P w) 8 f fd ["house","other"] (Gq K C_j0):=by
 refine F.okE SS (fun vs H Q E h=>?_) (fun cdv A outer s H vs Q E hr h=>?_)
 ·obtain⟨h,g,p,q,L,M,x,y,rfl,_⟩:=h;rfl
 ·obtain⟨h,g,p,q,L,M,x,y,rfl,hx,okx,hy,oky,hp,hL1,hL6,h40,h96,k0,k1,kE⟩:=h
  refine⟨_,(Ag (Ay (HS RP (Ai Ap (hr.mono (by decide)) rfl Ar An.kp Aq .nil (VO fun _ _ _ h=>h) (Aa (pvD 0) (Aa (pvD 1) Ab))) Gv (AQ _)))),?_⟩
  walk_at "rd"
  exact⟨h,g,p,q,L,M,x,y,rfl,hx,okx,hy,oky,hp,hL1,hL6,h40,h96,fun e a H1 s1=>k0 e a H1 s1,fun e t v H1 s1 _ d _=>k1 e v H1 s1 d,kE⟩
noncomputable def Gb_ (p q:Int)(L M:Nat):Prop:=¬ (p=q/\L=M)
noncomputable def OG (K:α3)(u1 u2:Addr):Sp:=fun vs H Q _=>∃(fv h g:Addr) (p q:Int) (L M:Nat) (x y:Hs),vs=[.ref fv,.ref h,.ref g]/\(fv=u1\/fv=u2)/\Ig K H h p L x/\x.ok p L/\Ig K H g q M y/\y.ok q M/\1<=L/\L<=6/\x.d+y.d<=40/\(x.d+y.d)*L<=96/\Gb_ p q L M/\∀H',Same H H'->Q (.bl true) H'
theorem PM   (F:Fun K "_law_refused" "_law_refused" CC f fd)(T:Txt mg)
  (W:Own K mg)
  (Z:Exs K mg C_j3 C_j0 C_j2 C_j1)
   (Ap:FnOk P w K mg base (CXe P w) 7 Ak As ["house","other"] (GR K C_j0)) (An:Fun K "sums_difference" "sums_difference" AM Ak As) (Aq:AI K As ["house","other"] []) (Ar:mg "sums_difference"=some (.ref Ak))
   (Bd:FnOk P w K mg base (CXe P w) 8 AB A5 ["house","other"] (Gq K C_j0)) (A2:Fun K "sums_alike" "sums_alike" BB AB A5) (Be:AI K A5 ["house","other"] []) (Bf:mg "sums_alike"=some (.ref AB))
  : FnOk P w K mg base CX0 9 f fd ["deed","one","two"] (OG K Ak AB):=by
 refine F.ok GG (fun vs H Q E h=>?_) (fun cdv A outer s H vs Q E hr h=>?_)
 ·obtain⟨fv,h,g,p,q,L,M,x,y,rfl,_⟩:=h;rfl
 ·obtain⟨fv,h,g,p,q,L,M,x,y,rfl,hf,hx,okx,hy,oky,hL1,hL6,h40,h96,hb,k⟩:=h
  refine⟨_,(Ae (Ah (i:=3) GG.nd Gu)
   (G3 (Fz_ (E:=(fun σ cls _ H1=>σ=[some (.ref fv),some (.ref h),some (.ref g),some (.bl false)]/\cls=.ref C_j0/\Same H H1)) rfl Z.m_j0 rfl rfl rfl (fun xe pn hx=>(Ag (CH (RW 0 Ap (hr.mono (by decide)) An.kp Aq .nil hx Bd (hr.mono (by decide)) A2.kp Be .nil hx (Aa (pvD 1) (Aa (pvD 2) Ab))))))
   (fun ea pn=>(Ag (Ah (i:=3) GG.nd Gu))))
   (Ag (Ay (pvD 3))))),?_⟩
  walk_at "rd"
  refine⟨fun σ' H'=>σ'=[some (.ref fv),some (.ref h),some (.ref g),some (.bl true)]/\Same H H',?_,?_⟩
  ·walk_at "rd"
   refine⟨?_,fun σ1 cls H1 h1=>?_⟩
   ·rcases hf with rfl|rfl
    ·exact .inl ⟨rfl,h,g,p,q,L,M,x,y,rfl,hx,okx,hy,oky,fun z=>absurd z hb,hL1,hL6,h40,h96,fun z=>absurd z hb,fun z=>absurd z hb,fun _ H1 s1=>⟨rfl,s1⟩⟩
    ·exact .inr ⟨rfl,h,g,p,q,L,M,x,y,rfl,hx,okx,hy,oky,fun z=>absurd z hb,hL1,hL6,h40,h96,fun z=>absurd z hb,fun z=>absurd z hb,fun _ H1 s1=>⟨rfl,s1⟩⟩
   ·obtain⟨rfl,rfl,s1⟩:=h1
    exact⟨C_j0,rfl,Z.ee_j0,rfl,s1⟩
  ·rintro σ' H' ⟨rfl,s'⟩
   walk_at "rd"
   exact k _ s'
theorem IP   (F:Fun K "_law_refused_by_any" "_law_refused_by_any" A7 f fd)(T:Txt mg)
  (W:Own K mg)
  (Z:Exs K mg C_j3 C_j0 C_j2 C_j1)
   (Ap:FnOk P w K mg base (CXe P w) 7 Ak As ["house","other"] (GR K C_j0)) (An:Fun K "sums_difference" "sums_difference" AM Ak As) (Aq:AI K As ["house","other"] []) (Ar:mg "sums_difference"=some (.ref Ak))
   (Bd:FnOk P w K mg base (CXe P w) 8 AB A5 ["house","other"] (Gq K C_j0)) (A2:Fun K "sums_alike" "sums_alike" BB AB A5) (Be:AI K A5 ["house","other"] []) (Bf:mg "sums_alike"=some (.ref AB))
  : FnOk P w K mg base CX0 9 f fd ["deed","one","two"] (OG K Ak AB):=by
 refine F.ok B7 (fun vs H Q E h=>?_) (fun cdv A outer s H vs Q E hr h=>?_)
 ·obtain⟨fv,h,g,p,q,L,M,x,y,rfl,_⟩:=h;rfl
 ·obtain⟨fv,h,g,p,q,L,M,x,y,rfl,hf,hx,okx,hy,oky,hL1,hL6,h40,h96,hb,k⟩:=h
  refine⟨_,(Ae (Ah (i:=3) B7.nd Gu)
   (G3 (Hk_ (i:=4) (E:=(fun σ cls _ H1=>σ=[some (.ref fv),some (.ref h),some (.ref g),some (.bl false),none]/\cls=.ref C_j0/\Same H H1)) B7.nd rfl rfl rfl Z.m_j3 rfl rfl rfl (fun xe pn hx=>(Ag (CH (RW 0 Ap (hr.mono (by decide)) An.kp Aq .nil hx Bd (hr.mono (by decide)) A2.kp Be .nil hx (Aa (pvD 1) (Aa (pvD 2) Ab))))))
   (fun ea pn=>(Ag (Ah (i:=3) B7.nd (Vy (Az (NB (K:=K) rfl) rfl T.isinstance ql_ (Aa (pvD 4) (Aa (Mn (v:=.ty "ValueError") rfl T.ValueError L2.boot_ValueError rfl) Ab))) (Ya (DH_ (Az (NB (K:=K) rfl) rfl T.isinstance ql_ (Aa (pvD 4) (Aa (Mm (v:=.ref C_j2) rfl Z.m_j2 rfl) Ab))))))))))
   (Ag (Ay (pvD 3))))),?_⟩
  walk_at "rd"
  refine⟨fun σ' H'=>σ'=[some (.ref fv),some (.ref h),some (.ref g),some (.bl true),none]/\Same H H',?_,?_⟩
  ·walk_at "rd"
   refine⟨?_,fun σ1 cls H1 h1=>?_⟩
   ·rcases hf with rfl|rfl
    ·exact .inl ⟨rfl,h,g,p,q,L,M,x,y,rfl,hx,okx,hy,oky,fun z=>absurd z hb,hL1,hL6,h40,h96,fun z=>absurd z hb,fun z=>absurd z hb,fun _ H1 s1=>⟨rfl,s1⟩⟩
    ·exact .inr ⟨rfl,h,g,p,q,L,M,x,y,rfl,hx,okx,hy,oky,fun z=>absurd z hb,hL1,hL6,h40,h96,fun z=>absurd z hb,fun z=>absurd z hb,fun _ H1 s1=>⟨rfl,s1⟩⟩
   ·obtain⟨rfl,rfl,s1⟩:=h1
    refine⟨C_j0,rfl,Z.e_j0,fun ea hea=>?_⟩
    walk_at "rd"
    refine⟨_,_,.exc Ac Z.c_j0,OS,_,Z.v_j0,?_⟩
    rw[if_pos rfl]
    exact⟨_,_,.exc Ac Z.c_j0,Fs_,_,Z.k_j0_j2,rfl,s1.newT hea⟩
  ·rintro σ' H' ⟨rfl,s'⟩
   walk_at "rd"
   exact k _ s'
noncomputable def LJ (L:Nat):Hs:=⟨1,[0],List.replicate L [[0]],[0]⟩
theorem Do_ {q:Int}{L:Nat}(h2:2<=q)(h18:q<1000000000000000000):(LJ L).ok q L where
 p2:=h2
 p18:=h18
 dl:=by show 1<=40;lia
 f:=⟨rfl,fun x hx=>by rw[jg_.mp hx];lia⟩
 l:=⟨rfl,fun x hx=>by rw[jg_.mp hx];lia⟩
 t:=by show ((List.replicate L _).length:Int)=L;rw[qa_]
 tt:=fun tb htb=>by
  rw[(qV_.mp htb).2]
  exact⟨rfl,fun r hr=>by rw[jg_.mp hr];rfl⟩
theorem YT {H:Hp}{hh tf tt tl t1 t2:Addr}{q:Int}{L:Nat}(h:SqT K H hh [.int q,.int L,.ref tf,.ref tt,.ref tl])(hf:SqT K H tf [.int 0])(hl:SqT K H tl [.int 0])(ht:SqT K H tt (List.replicate L [V.ref t2]).flatten)(h2:SqT K H t2 [.ref t1])(h1:SqT K H t1 [.int 0]):Ig K H hh q L (LJ L):=by
 refine⟨tf,tt,tl,h,hf,hl,List.replicate L t2,?_,by show _=(List.replicate L _).length;simp,fun i u tb hu htb=>?_⟩
 ·have e:(List.replicate L [V.ref t2]).flatten=(List.replicate L t2).map V.ref:=by simp
  rw[<-e];exact ht
 ·have e1:=(qV_.mp (jj_ hu)).2
  have e2:=(qV_.mp (jj_ htb)).2
  subst e1;subst e2
  refine⟨[.ref t1],h2,rfl,fun i r hi=>?_⟩
  cases i with
  |zero=>cases hi;exact⟨t1,rfl,h1⟩
  |succ i=>simp at hi
noncomputable def NL (K:α3):Sp:=fun vs H Q _=>∃(h:Addr) (c p:Int) (L:Nat) (x:Hs),vs=[.ref h,.int c]/\Ig K H h p L x/\x.ok p L/\1<=L/\L<=6/\x.d<=5/\∀H',Same H H'->Q (.bl true) H'
theorem PN   (F:Fun K "_law_strange" "_law_strange" CD f fd)(T:Txt mg)
  (W:Own K mg)
  (Z:Exs K mg C_j3 C_j0 C_j2 C_j1)
   (Ap:FnOk P w K mg base (CXe P w) 7 Ak As ["house","other"] (GR K C_j0)) (An:Fun K "sums_difference" "sums_difference" AM Ak As) (Aq:AI K As ["house","other"] []) (Ar:mg "sums_difference"=some (.ref Ak))
   (Bd:FnOk P w K mg base (CXe P w) 8 AB A5 ["house","other"] (Gq K C_j0)) (A2:Fun K "sums_alike" "sums_alike" BB AB A5) (Be:AI K A5 ["house","other"] []) (Bf:mg "sums_alike"=some (.ref AB))
   (FL:FnOk P w K mg base CX0 9 Dx JJ ["deed","one","two"] (OG K Ak AB)) (Dy:Fun K "_law_refused" "_law_refused" CC Dx JJ) (FN:AI K JJ ["deed","one","two"] []) (FO:mg "_law_refused"=some (.ref Dx))
   (Cq:FnOk P w K mg base CX0 9 Bm Fq ["deed","one","two"] (OG K Ak AB)) (Bn:Fun K "_law_refused_by_any" "_law_refused_by_any" A7 Bm Fq) (Cr:AI K Fq ["deed","one","two"] []) (Cs:mg "_law_refused_by_any"=some (.ref Bm))
  : FnOk P w K mg base CX0 10 f fd ["one","cell"] (NL K):=by
 refine F.ok DX (fun vs H Q E h=>?_) (fun cdv A outer s H vs Q E hr h=>?_)
 ·obtain⟨h,c,p,L,x,rfl,_⟩:=h;rfl
 ·obtain⟨h,c,p,L,x,rfl,hx,okx,hL1,hL6,h5,k⟩:=h
  have hl:=Au
  have p2:=okx.p2
  have p18:=okx.p18
  obtain⟨tf,tt,tl,h1,h2,h3,h4⟩:=id hx
  refine⟨_,(G3 (Ah (i:=2) DX.nd (Sq (ptT (AK (opE I0) (Aj (ixTD Am) (pvD 0) Ad) Ad (AQ _))) Ad Ad))
   (Ae (Ah (i:=3) DX.nd (A4 (Aa (pvD 2) (Aa (Aj (ixTD Am) (pvD 0) Ad) (Aa (A4 (Aa Ad Ab)) (Aa (Al Jc (A4 (Aa (A4 (Aa (A4 (Aa Ad Ab)) Ab)) Ab)) (Aj (ixTD Am) (pvD 0) Ad)) (Aa (A4 (Aa Ad Ab)) Ab)))))))
   (G3 (CI (ptT (AK (opE I0) (Al (opD Bb) (pvD 1) Ad) Ad (AQ _)))
   (Ae (Ah (i:=4) DX.nd (Al (opD0 Bw) (Al (opD Bb) (Aj (ixTD Am) (pvD 0) Ad) Ad) Ad))
   (Ag (Ah (i:=3) DX.nd (A4 (Aa (Aj (ixTD Am) (pvD 0) Ad) (Aa (pvD 4) (Aa (A4 (Aa Ad Ab)) (Aa (Al Jc (A4 (Aa (A4 (Aa (A4 (Aa Ad Ab)) Ab)) Ab)) (pvD 4)) (Aa (A4 (Aa Ad Ab)) Ab)))))))))
   AZ)
   (Ae (CI (PW.pt (NU (Hh (ptB (Gg (Ai FL (hr.mono (by decide)) rfl FO Dy.kp FN .nil AL (Aa (Mm (v:=.ref Ak) rfl Ar rfl) (Aa (pvD 0) (Aa (pvD 3) Ab))))))) (Nx (Hh (ptB (Gg (Ai FL (hr.mono (by decide)) rfl FO Dy.kp FN .nil AL (Aa (Mm (v:=.ref AB) rfl Bf rfl) (Aa (pvD 3) (Aa (pvD 0) Ab))))))))))
   (Ag (Ay Gu))
   AZ)
   (Ag (Ay (Vy (Ai Cq (hr.mono (by decide)) rfl Cs Bn.kp Cr .nil AL (Aa (Mm (v:=.ref AB) rfl Bf rfl) (Aa (pvD 0) (Aa (pvD 3) Ab)))) (Ya (Ai Cq (hr.mono (by decide)) rfl Cs Bn.kp Cr .nil AL (Aa (Mm (v:=.ref Ak) rfl Ar rfl) (Aa (pvD 3) (Aa (pvD 0) Ab)))))))))))),?_⟩
  walk_at "rd"
  obtain⟨R0,hR0⟩:∃R0:St->Hp->Prop,∀σ' H',R0 σ' H'↔(H'=H/\∃q:Int,q≠p/\(q=5\/q=7)/\σ'=[some (.ref h),some (.int c),some (.int q),none,none]):=⟨_,fun _ _=>qf_⟩
  refine⟨R0,?_,fun σ0 H0 h0=>?_⟩
  ·walk_at "rd"
   refine⟨_,h1,V.int p,rfl,rfl,ite2 (fun e=>(hR0 _ _).mpr ⟨rfl,5,?_,.inl rfl,rfl⟩) (fun e=>(hR0 _ _).mpr ⟨rfl,7,?_,.inr rfl,rfl⟩)⟩
   ·have:V.int p=V.int 7:=by simpa using e
    have:=V.int.inj this
    lia
   ·intro z;exact e (by rw[z])
  obtain⟨rfl,q,hqp,hq57,rfl⟩:=(hR0 _ _).mp h0
  walk_at "rd"
  refine⟨_,h1,V.int L,rfl,by lia,fun t0 ht0=>⟨by lia,fun t1 ht1=>⟨by lia,fun t2 ht2=>⟨by lia,fun t3 ht3=>?_⟩⟩⟩⟩
  have sa:=Same.new ht0 (o:=.tup [V.int 0])
  have sb:=Same.new ht1 (o:=.tup [V.int 0])
  have sc:=Same.new ht2 (o:=.tup [V.ref t1])
  have sd:=Same.new ht3 (o:=.tup [V.ref t2])
  have e1:SqT K _ t1 [V.int 0]:=SqT.of ((sc.trans sd) _ _ Ac)
  have e2:SqT K _ t2 [V.ref t1]:=SqT.of (sd _ _ Ac)
  have e0:SqT K _ t0 [V.int 0]:=SqT.of ((sb.trans (sc.trans sd)) _ _ Ac)
  have e3:SqT K _ t3 [V.ref t2]:=SqT.of (Ac (H:=upd (upd (upd H0 t0 (.tup [V.int 0])) t1 (.tup [V.int 0])) t2 (.tup [V.ref t1])) (a:=t3) (o:=.tup [V.ref t2]))
  have s0:=sa.trans (sb.trans (sc.trans sd))
  generalize upd (upd (upd (upd H0 t0 (.tup [V.int 0])) t1 (.tup [V.int 0])) t2 (.tup [V.ref t1])) t3 (.tup [V.ref t2])=H1 at e0 e1 e2 e3 s0 ⊢
  refine⟨_,s0.seqT h1,V.int L,rfl,OT.of e3 (by simp) s!"" s!"" (by simp;lia) fun tt1 H2 s2 htt1=>⟨by lia,fun t4 ht4=>⟨by lia,fun t5 ht5=>?_⟩⟩⟩
  rw[jA_]at htt1
  have sp:=(Same.new ht4 (o:=.tup [V.int 0])).trans (Same.new ht5 (o:=.tup [V.int q,V.int L,V.ref t0,V.ref tt1,V.ref t4]))
  have hz:Ig K _ t5 q L (LJ L):=YT (SqT.of Ac) ((s2.trans sp).seqT e0) (SqT.of (Same.new ht5 _ _ Ac)) (sp.seqT htt1) ((s2.trans sp).seqT e2) ((s2.trans sp).seqT e1)
  have s5:=s0.trans (s2.trans sp)
  generalize upd (upd H2 t4 (.tup [V.int 0])) t5 (.tup [V.int q,V.int L,V.ref t0,V.ref tt1,V.ref t4])=H5 at hz s5 ⊢
  obtain⟨Rr,hRr⟩:∃Rr:St->Hp->Prop,∀σ' H',Rr σ' H'↔(∃(two:Addr) (q:Int) (M:Nat) (o2 o4:Option V),Same H0 H'/\Ig K H' two q M (LJ M)/\2<=q/\q<1000000000000000000/\1<=M/\M<=6/\Gb_ p q L M/\σ'=[some (.ref h),some (.int c),o2,some (.ref two),o4]):=⟨_,fun _ _=>qf_⟩
  refine⟨Rr,?_,fun σ' H' h'=>?_⟩
  ·walk_at "rd"
   refine⟨by decide,ite2 (fun _=>?_) (fun _=>(hRr _ _).mpr ⟨t5,q,L,_,_,s5,hz,by lia,by lia,hL1,hL6,fun z=>hqp z.1.symm,rfl⟩)⟩
   refine⟨_,s5.seqT h1,V.int L,rfl,(L:Int),rfl,by decide,_,s5.seqT h1,V.int p,rfl,by lia,fun y0 hy0=>⟨by lia,fun y1 hy1=>⟨by lia,fun y2 hy2=>⟨by lia,fun y3 hy3=>?_⟩⟩⟩⟩
   have sa:=Same.new hy0 (o:=.tup [V.int 0])
   have sb:=Same.new hy1 (o:=.tup [V.int 0])
   have sc:=Same.new hy2 (o:=.tup [V.ref y1])
   have sd:=Same.new hy3 (o:=.tup [V.ref y2])
   have e1:SqT K _ y1 [V.int 0]:=SqT.of ((sc.trans sd) _ _ Ac)
   have e2:SqT K _ y2 [V.ref y1]:=SqT.of (sd _ _ Ac)
   have e0:SqT K _ y0 [V.int 0]:=SqT.of ((sb.trans (sc.trans sd)) _ _ Ac)
   have e3:SqT K _ y3 [V.ref y2]:=SqT.of (Ac (H:=upd (upd (upd H5 y0 (.tup [V.int 0])) y1 (.tup [V.int 0])) y2 (.tup [V.ref y1])) (a:=y3) (o:=.tup [V.ref y2]))
   have s0:=sa.trans (sb.trans (sc.trans sd))
   generalize upd (upd (upd (upd H5 y0 (.tup [V.int 0])) y1 (.tup [V.int 0])) y2 (.tup [V.ref y1])) y3 (.tup [V.ref y2])=H6 at e0 e1 e2 e3 s0 ⊢
   obtain⟨M,hM⟩:∃M:Nat,(L:Int)%6+1=(M:Int):=⟨((L:Int)%6+1).toNat,by lia⟩
   rw[hM]
   refine OT.of e3 (by simp) s!"" s!"" (by simp;lia) fun tt1 H7 s7 htt1=>⟨by lia,fun t4 ht4=>⟨by lia,fun t5 ht5=>?_⟩⟩
   rw[jA_]at htt1
   have sp:=(Same.new ht4 (o:=.tup [V.int 0])).trans (Same.new ht5 (o:=.tup [V.int p,V.int M,V.ref y0,V.ref tt1,V.ref t4]))
   have hz:Ig K _ t5 p M (LJ M):=YT (SqT.of Ac) ((s7.trans sp).seqT e0) (SqT.of (Same.new ht5 _ _ Ac)) (sp.seqT htt1) ((s7.trans sp).seqT e2) ((s7.trans sp).seqT e1)
   exact (hRr _ _).mpr ⟨t5,p,M,_,_,s5.trans (s0.trans (s7.trans sp)),hz,p2,p18,by lia,by lia,fun z=>by have:=z.2;lia,rfl⟩
  ·obtain⟨two,q',M,o2,o4,s6,hz',q2,q18,hM1,hM6,odd,rfl⟩:=(hRr _ _).mp h'
   have okz:=Do_ (L:=M) q2 q18
   have hzd:(LJ M).d=1:=rfl
   have odd':Gb_ q' p M L:=fun z=>odd ⟨z.1.symm,z.2.symm⟩
   have h96:(x.d+(LJ M).d)*L<=96:=jV_ (qz_ (show x.d+(LJ M).d<=6 by lia) hL6) s!""
   have h96':((LJ M).d+x.d)*M<=96:=jV_ (qz_ (show (LJ M).d+x.d<=6 by lia) hM6) s!""
   walk_at "rd"
   refine⟨_,h,two,p,q',L,M,x,LJ M,rfl,.inl rfl,hx.mono s6,okx,hz',okz,hL1,hL6,by lia,h96,odd,fun H7 s7=>⟨_,rfl,?_⟩⟩
   rw[if_neg (by decide)]
   have s67:=s6.trans s7
   refine⟨_,two,h,q',p,M,L,LJ M,x,rfl,.inr rfl,hz'.mono s7,okz,hx.mono s67,okx,hM1,hM6,by lia,h96',odd',fun H8 s8=>⟨_,rfl,?_⟩⟩
   rw[if_neg (by decide)]
   have s68:=s67.trans s8
   refine⟨_,h,two,p,q',L,M,x,LJ M,rfl,.inr rfl,hx.mono s68,okx,hz'.mono (s7.trans s8),okz,hL1,hL6,by lia,h96,odd,fun H9 s9=>⟨_,rfl,?_⟩⟩
   rw[if_pos rfl]
   exact⟨_,two,h,q',p,M,L,LJ M,x,rfl,.inl rfl,hz'.mono ((s7.trans s8).trans s9),okz,hx.mono (s68.trans s9),okx,hM1,hM6,by lia,h96',odd',fun H10 s10=>k _ ((s68.trans s9).trans s10)⟩
noncomputable def YU (K:α3):Sp:=fun vs H Q _=>∃(h g:Addr) (p:Int) (L m:Nat) (x y:Hs),vs=[.ref h,.ref g,.int m]/\Ig K H h p L x/\x.ok p L/\Ig K H g p L y/\y.ok p L/\1<=L/\L<=6/\x.d<=5/\y.d<=5/\m<=16/\(allW L m).length<=900/\(((∀v,isW L v=true->x.W p v=y.W p v)/\∀H',Same H H'->Q .non H')\/(∃v,Df p L x y v/\v.length<=m/\∀t H',Same H H'->SqT K H' t (v.map V.int)->Q (.ref t) H'))
theorem MS   (F:Fun K "_law_unlike_at" "_law_unlike_at" BI f fd)(T:Txt mg)
  (W:Own K mg)
  (Z:Exs K mg C_j3 C_j0 C_j2 C_j1)
   (D4:FnOk P w K mg base CX0 1 Ct Fg ["p","one","two"] (ML K)) (Cu:Fun K "_law_times" "_law_times" CZ Ct Fg) (D7:AI K Fg ["p","one","two"] []) (D8:mg "_law_times"=some (.ref Ct))
   (J9:FnOk P w K mg base CX0 2 Gr PQ ["house","most"] (YR K)) (Gs:Fun K "_law_all" "_law_all" Fx Gr PQ) (Ka:AI K PQ ["house","most"] []) (Kb:mg "_law_all"=some (.ref Gr))
  : FnOk P w K mg base CX0 3 f fd ["one","two","most"] (YU K):=by
 refine F.ok CJ (fun vs H Q E h=>?_) (fun cdv A outer s H vs Q E hr h=>?_)
 ·obtain⟨h,g,p,L,m,x,y,rfl,_⟩:=h;rfl
 ·obtain⟨h,g,p,L,m,x,y,rfl,hh,okx,hg,oky,hL1,hL6,hx5,hy5,hm16,h900,hk⟩:=h
  have hl:=Au
  obtain⟨N,hN,hE,hk⟩:∃N:Nat,N<=(allW L m).length/\(∀(j:Nat) (u:α2),j<N->(allW L m)[j]?=some u->x.W p u=y.W p u)/\((N=(allW L m).length/\∀H',Same H H'->Q .non H')\/(∃v,(allW L m)[N]?=some v/\x.W p v≠y.W p v/\∀t H',Same H H'->SqT K H' t (v.map V.int)->Q (.ref t) H')):=by
   rcases hk with ⟨a,b⟩|⟨v,a,b,c⟩
   ·exact⟨_,jf_ _,fun j u _ hu=>a u (LF _ (jj_ hu)),.inl ⟨rfl,b⟩⟩
   ·obtain⟨i,hi⟩:=qp_.mp (Wm m v b a.1)
    have hil:=(jd_.mp hi).1
    refine⟨i,x9_ hil,fun j u hj hu=>?_,.inr ⟨v,hi,a.2.1,c⟩⟩
    have hs:=xC_.mp (NJ s!"" m) j i (jd_.mp hu).1 hil hj
    rw[(jd_.mp hu).2,(jd_.mp hi).2]at hs
    exact a.2.2 u (LF _ (jj_ hu)) hs
  obtain⟨tf,tt,tl,h1,h2,h3,h4⟩:=id hh
  obtain⟨tf',tt',tl',g1,g2,g3,g4⟩:=id hg
  refine⟨_,(Ae (Ah (i:=3) CJ.nd (Ai J9 (hr.mono (by decide)) rfl Kb Gs.kp Ka .nil AL (Aa (pvD 0) (Aa (pvD 2) Ab))))
   (Ae (Ah (i:=4) CJ.nd (Ai J9 (hr.mono (by decide)) rfl Kb Gs.kp Ka .nil AL (Aa (pvD 1) (Aa (pvD 2) Ab))))
   (Ae (Ah (i:=5) CJ.nd (Aj (ixTD Am) (pvD 0) Ad))
   (Ae (Cg jF_ rfl (A3 rfl T.range (Aa (Az (lenD Ao) (by rfl) T.len jH_ (Aa (pvD 3) Ab)) Ab)) (Aw (i:=6) CJ.nd rfl (Or.inl rfl))
   (Ag (CI (ptT (AK (opN OJ) (Ai D4 (hr.mono (by decide)) rfl D8 Cu.kp D7 .nil AL (Aa (pvD 5) (Aa (Aj (ixTD Am) (Aj (ixLD BM) (pvD 3) (pvD 6)) Ad) (Aa (Aj (ixTD Am) (pvD 0) Ad) Ab)))) (Ai D4 (hr.mono (by decide)) rfl D8 Cu.kp D7 .nil AL (Aa (pvD 5) (Aa (Aj (ixTD Am) (Aj (ixLD BM) (pvD 4) (pvD 6)) Ad) (Aa (Aj (ixTD Am) (pvD 1) Ad) Ab)))) (AQ _)))
   (Ag (Ay (Aj (ixTD Am) (Aj (ixLD BM) (pvD 3) (pvD 6)) Ad)))
   AZ)))
   (Ag (Ay Gv)))))),?_⟩
  walk_at "rd"
  refine⟨h,p,L,m,x,rfl,hh,okx,hL6,by lia,h900,fun q1 zs H1 s1 hq1 w1=>?_⟩
  refine⟨g,p,L,m,y,rfl,hg.mono s1,oky,hL6,by lia,h900,fun q2 ys H2 s2 hq2 w2=>?_⟩
  have hq1':=s2 _ _ hq1
  have w1':=w1.mono s2
  have s12:=s1.trans s2
  have hzl:=w1.1
  refine⟨_,s12.seqT h1,V.int p,rfl,q1,rfl,_,.inl (SqL.of hq1'),by lia,by lia,?_⟩
  rw[show ((zs.length:Int)).toNat=zs.length by lia]
  obtain⟨Pv,hPv⟩:∃Pv:Nat->St->Hp->Prop,∀i σ' H',Pv i σ' H'↔(i<=N/\Same H2 H'/\∃o,σ'=[some (.ref h),some (.ref g),some (.int m),some (.ref q1),some (.ref q2),some (.int p),o]):=⟨_,fun _ _ _=>qf_⟩
  refine forR Pv ((hPv _ _ _).mpr ⟨qt_ _,Same.refl _,none,rfl⟩) (fun i σ' H' hi h'=>?_) (fun σ' H' h'=>?_)
  ·obtain⟨hiN,c1,o,rfl⟩:=(hPv _ _ _).mp h'
   rw[j3_]
   obtain⟨v,hv⟩:∃v,(allW L m)[i]?=some v:=⟨(allW L m)[i]'s!"",by simp⟩
   obtain⟨t,ta,tb,e1,e2,e3,e4⟩:=w1'.2 i v hv
   obtain⟨t',ta',tb',f1,f2,f3,f4⟩:=w2.2 i v hv
   have hvW:=LF _ (jj_ hv)
   walk_at "rd"
   have s2':=s12.trans c1
   have p2:=okx.p2
   have hrx:(x.R p v).length=x.d/\∀y∈x.R p v,0<=y/\y<p:=okx.row v
   have hry:(y.R p v).length=y.d/\∀z∈y.R p v,0<=z/\z<p:=oky.row v
   refine⟨_,SqL.of (c1 _ _ hq1'),V.ref t,AY e1,t,rfl,_,c1.seqT e2,V.ref tb,rfl,_,s2'.seqT h1,V.ref tl,rfl,p,tb,tl,x.R p v,x.l,rfl,by lia,okx.p18,c1.seqT e4,s2'.seqT h3,by rw[hrx.1,okx.l.1],by rw[hrx.1];exact okx.dl,hrx.2,fun H3 s3=>?_⟩
   have c3:=c1.trans s3
   have s3':=s12.trans c3
   refine⟨_,SqL.of (c3 _ _ hq2),V.ref t',AY f1,t',rfl,_,c3.seqT f2,V.ref tb',rfl,_,s3'.seqT g1,V.ref tl',rfl,p,tb',tl',y.R p v,y.l,rfl,by lia,oky.p18,c3.seqT f4,s3'.seqT g3,by rw[hry.1,oky.l.1],by rw[hry.1];exact oky.dl,hry.2,fun H4 s4=>?_⟩
   have ex:dotW (x.R p v) x.l%p=x.W p v:=by unfold Hs.W;rw[Bt]
   have ey:dotW (y.R p v) y.l%p=y.W p v:=by unfold Hs.W;rw[Bt]
   have c4:=c3.trans s4
   show _/\_
   refine⟨rfl,ite2 (fun hne=>?_) (fun he=>?_)⟩
   ·rw[ex,ey]at hne
    have hne:x.W p v≠y.W p v:=fun z=>by rw[z]at hne;simp at hne
    have hiN:i=N:=by
     refine qk_ fun z=>hne (hE i v s!"" hv)
    subst hiN
    rcases hk with ⟨e,_⟩|⟨v',hv',_,k⟩
    ·have:=(jd_.mp hv).1;lia
    ·rw[hv]at hv';cases hv'
     exact⟨_,SqL.of (c4 _ _ hq1'),V.ref t,AY e1,t,rfl,_,c4.seqT e2,V.ref ta,rfl,k ta H4 (s12.trans c4) (c4.seqT e3)⟩
   ·rw[ex,ey]at he
    have he:x.W p v=y.W p v:=qk_ fun z=>he (by rw[qj_ (fun q=>z (V.int.inj q))];rfl)
    have hiN:i≠N:=fun z=>by
     subst z
     rcases hk with ⟨e,_⟩|⟨v',hv',hd,_⟩
     ·have:=(jd_.mp hv).1;lia
     ·rw[hv]at hv';cases hv';exact hd he
    exact (hPv _ _ _).mpr ⟨by lia,c4,_,rfl⟩
  ·obtain⟨hiN,c1,o,rfl⟩:=(hPv _ _ _).mp h'
   walk_at "rd"
   rcases hk with ⟨_,k⟩|⟨v,hv,_⟩
   ·exact k _ (s12.trans c1)
   ·have:=(jd_.mp hv).1;lia
noncomputable def PR (K:α3):Sp:=fun vs H Q _=>∃(h lw lr lm:Addr) (p:Int) (L d:Nat) (first last:α2) (tables:α0) (F ws:α1) (zs ys xs:List V) (am:α0),vs=[.ref h,.ref lw,.ref lr,.ref lm]/\SumH K H h p L first tables last/\WfSum p L d first tables last/\1<=L/\L<=6/\d<=16/\H lw=some (.lst zs)/\zs.length=ws.length/\H lr=some (.lst ys)/\Ba K H ys (ws.map (Mine.rowS p d tables first))/\H lm=some (.lst xs)/\AmD H lm xs am/\AmF p L d (Mine.rowS p d tables first) ws am/\BW p L d tables first F F.length ws/\ws.length<=d/\∀H',Same H H'->Q (.bl true) H'
theorem QQ   (F:Fun K "_law_closed" "_law_closed" C8 f fd)(T:Txt mg)
  (W:Own K mg)
  (Z:Exs K mg C_j3 C_j0 C_j2 C_j1)
   (De:FnOk P w K mg base CX0 1 BK C1 ["p","row","table"] (LC K)) (B5:Fun K "_law_step" "_law_step" C5 BK C1) (Dh:AI K C1 ["p","row","table"] []) (Di:mg "_law_step"=some (.ref BK))
   (G8:FnOk P w K mg base CX0 2 Dz JK ["p","found","many"] (PH K)) (El:Fun K "_law_list_by" "_law_list_by" Cz Dz JK) (G9:AI K JK ["p","found","many"] []) (Ha:mg "_law_list_by"=some (.ref Dz))
   (JL:FnOk P w K mg base CX0 1 EO LK ["p","rows","amounts","size"] (Se K)) (F8:Fun K "_law_mixed" "_law_mixed" DW EO LK) (JN:AI K LK ["p","rows","amounts","size"] []) (JO:mg "_law_mixed"=some (.ref EO))
  : FnOk P w K mg base CX0 3 f fd ["house","words","rows","amounts"] (PR K):=by
 refine F.ok Dv (fun vs H Q E h=>?_) (fun cdv A outer s H vs Q E hr h=>?_)
 ·obtain⟨h,lw,lr,lm,p,L,d,first,last,tables,F,ws,zs,ys,xs,am,rfl,_⟩:=h;rfl
 ·obtain⟨h,lw,lr,lm,p,L,d,first,last,tables,F,ws,zs,ys,xs,am,rfl,hh,wf,hL1,hL6,hd16,hlw,hzl,hlr,hrw,hlm,hA,hF,bw,hwd,k⟩:=h
  have hl:=Au
  obtain⟨tf,tt,tl,h1,h2,h3,h4⟩:=id hh
  obtain⟨us,c1,c2,c3⟩:=id h4
  refine⟨_,(Ae (Ah (i:=4) Dv.nd (Aj (ixTD Am) (pvD 0) Ad))
   (Ae (Ah (i:=5) Dv.nd (Az (lenD Ao) (by rfl) T.len jH_ (Aa (Aj (ixTD Am) (pvD 0) Ad) Ab)))
   (Ae (Cg jF_ rfl (A3 rfl T.range (Aa (Az (lenD Ao) (by rfl) T.len jH_ (Aa (pvD 1) Ab)) Ab)) (Aw (i:=6) Dv.nd rfl (Or.inl rfl))
   (Ag (Cg jF_ rfl (A3 rfl T.range (Aa (Aj (ixTD Am) (pvD 0) Ad) Ab)) (Aw (i:=7) Dv.nd rfl (Or.inl rfl))
   (Ae (CI (Hh (ptB (Gg (Ai G8 (hr.mono (by decide)) rfl Ha El.kp G9 .nil AL (Aa (pvD 4) (Aa (Aj (ixLD BM) (Aj (ixLD BM) (pvD 3) (pvD 6)) (pvD 7)) (Aa (Az (lenD Ao) (by rfl) T.len jH_ (Aa (pvD 1) Ab)) Ab)))))))
   (Ag (Ay Gu))
   AZ)
   (Ae (Ah (i:=8) Dv.nd (Ai De (hr.mono (by decide)) rfl Di B5.kp Dh .nil AL (Aa (pvD 4) (Aa (Aj (ixLD BM) (pvD 2) (pvD 6)) (Aa (Aj (ixTD Am) (Aj (ixTD Am) (pvD 0) Ad) (pvD 7)) Ab)))))
   (Ag (CI (ptT (AK (Yn 8 (hu9 hr)) (Ai JL (hr.mono (by decide)) rfl JO F8.kp JN .nil AL (Aa (pvD 4) (Aa (pvD 2) (Aa (Aj (ixLD BM) (Aj (ixLD BM) (pvD 3) (pvD 6)) (pvD 7)) (Aa (pvD 5) Ab))))) (pvD 8) (AQ _)))
   (Ag (Ay Gu))
   AZ)))))))
   (Ag (Ay Gu))))),?_⟩
  walk_at "rd"
  refine⟨_,h1,V.int p,rfl,_,h1,V.ref tf,rfl,tf,rfl,_,.inr h2,_,.inl (SqL.of hlw),by lia,by lia,?_⟩
  rw[jA_,hzl,jb_,wf.f.1]
  have p2:=wf.p2
  have p18:=wf.p18
  obtain⟨R,hRd⟩:∃R:α2->α2,R=Mine.rowS p d tables first:=⟨_,rfl⟩
  rw[<-hRd]at hrw hF
  have hRl:∀v,(R v).length=d/\∀y∈R v,0<=y/\y<p:=fun v=>by rw[hRd];exact wf.row v
  have hRs:∀v x,R (v++[x])=FW p d tables (R v) x:=fun v x=>by rw[hRd];unfold Mine.rowS;rw[qE_];rfl
  obtain⟨Pv,hPv⟩:∃Pv:Nat->St->Hp->Prop,∀i σ' H',Pv i σ' H'↔(Same H H'/\∃o6 o7 o8,σ'=[some (.ref h),some (.ref lw),some (.ref lr),some (.ref lm),some (.int p),some (.int d),o6,o7,o8]):=⟨_,fun _ _ _=>qf_⟩
  refine forR Pv ((hPv _ _ _).mpr ⟨Same.refl _,none,none,none,rfl⟩) (fun i σ' H' hi h'=>?_) (fun σ' H' h'=>?_)
  ·obtain⟨s1,o6,o7,o8,rfl⟩:=(hPv _ _ _).mp h'
   rw[j3_]
   obtain⟨v,hv⟩:∃v,ws[i]?=some v:=⟨ws[i]'s!"",by simp⟩
   obtain⟨a,ha⟩:∃a,am[i]?=some a:=⟨am[i]'(by have:=hF.1;lia),by simp⟩
   obtain⟨hal,hg⟩:=hF.2 i a v ha hv
   obtain⟨c,ys',_,q1,q2,q3,q4⟩:=hA.2 i a ha
   obtain⟨tk',b1,b2⟩:=hrw.2 i (R v) (by rw[jh_,hv];rfl)
   walk_at "rd"
   refine⟨_,s1.seqT h1,V.int L,rfl,(L:Int),rfl,by lia,by lia,?_⟩
   rw[jA_]
   obtain⟨Pw,hPw⟩:∃Pw:Nat->St->Hp->Prop,∀j σ' H',Pw j σ' H'↔(Same H H'/\∃o7 o8,σ'=[some (.ref h),some (.ref lw),some (.ref lr),some (.ref lm),some (.int p),some (.int d),some (.int i),o7,o8]):=⟨_,fun _ _ _=>qf_⟩
   refine forR Pw ((hPw _ _ _).mpr ⟨s1,o7,o8,rfl⟩) (fun x σ' H2 hx h2'=>?_) (fun σ' H2 h2'=>?_)
   ·obtain⟨s2,o7,o8,rfl⟩:=(hPw _ _ _).mp h2'
    rw[j3_]
    obtain⟨l,hlx⟩:∃l,a[x]?=some l:=⟨a[x]'s!"",by simp⟩
    obtain⟨e,_,r1,r2⟩:=q4 x l hlx
    obtain⟨gl,gin,geq,_⟩:=hg x l hlx
    have hxt:x<tables.length:=by have:=wf.t;lia
    obtain⟨u2,hu2⟩:∃u,us[x]?=some u:=⟨us[x]'s!"",by simp⟩
    obtain⟨tb,htb⟩:∃tb,tables[x]?=some tb:=⟨tables[x],by simp⟩
    obtain⟨xs',d1,d2⟩:=c3 x u2 tb hu2 htb
    have htt:=wf.tt _ (jj_ htb)
    have hst:DF p tb (R v) d=R (v++[(x:Int)]):=by
     rw[hRs]
     unfold FW
     rw[ja_,show ((x:Int)).toNat=x by lia,htb];rfl
    walk_at "rd"
    refine⟨_,SqL.of (s2 _ _ hlm),V.ref c,AY q1,c,rfl,_,SqL.of (s2 _ _ q2),V.ref e,AY r1,_,.inl (SqL.of (s2 _ _ hlw)),p,e,l,by rw[hzl,gl],SqL.of (s2 _ _ r2),gin,_,rfl,?_⟩
    rw[if_neg (by decide)]
    refine⟨_,SqL.of (s2 _ _ hlr),V.ref tk',AY b1,_,s2.seqT h1,V.ref tt,rfl,tt,rfl,_,s2.seqT c1,V.ref u2,AY (by rw[jh_,hu2];rfl),p,u2,tk',xs',tb,R v,d,rfl,by lia,p18,s2.seqT d1,d2.mono2 fun t ys z=>s2.seqT z,htt.1,htt.2,s2.seqT b2,(hRl v).1,by lia,(hRl v).2,fun q H3 s3 hq=>?_⟩
    have s03:=s2.trans s3
    rw[hst]at hq
    refine⟨_,SqL.of (s03 _ _ hlm),V.ref c,AY q1,c,rfl,_,SqL.of (s03 _ _ q2),V.ref e,AY r1,p,false,lr,e,d,ys,ws.map R,l,rfl,p2,p18,SqL.of (s03 _ _ hlr),(hrw.mono2 fun t ys z=>s03.seqT z).toS,SqL.of (s03 _ _ r2),by rw[jb_,gl],gin,fun r hr=>by obtain⟨v,_,rfl⟩:=jv_.mp hr;exact (hRl v).1,by lia,by rw[jb_];lia,fun q5 H5 s5 hq5=>⟨q5,rfl,q,rfl,_,EqD.ints (xs:=R (v++[(x:Int)])) (ys:=R (v++[(x:Int)])) (.inr ⟨?_,s5.seqT hq⟩) 7,?_⟩⟩
    ·rw[Cb_ s!"" (hRl _).1 (hRl _).2 geq]at hq5;exact hq5
    ·rw[qg_ rfl]
     exact (hPw _ _ _).mpr ⟨s03.trans s5,_,_,rfl⟩
   ·obtain⟨s2,o7,o8,rfl⟩:=(hPw _ _ _).mp h2'
    exact (hPv _ _ _).mpr ⟨s2,_,_,_,rfl⟩
  ·obtain⟨s1,o6,o7,o8,rfl⟩:=(hPv _ _ _).mp h'
   walk_at "rd"
   exact k _ s1
noncomputable def PU (K:α3):Sp:=fun vs H Q _=>∃(h:Addr) (p:Int) (L:Nat) (z:Hs),vs=[.ref h]/\Pr p/\Ig K H h p L z/\z.ok p L/\1<=L/\L<=6/\z.d<=16/\(∀v,isW L v=true->z.W p v=0)/\∀H',Same H H'->Q (.bl true) H'
theorem QR   (F:Fun K "_law_nought" "_law_nought" C9 f fd)(T:Txt mg)
  (W:Own K mg)
  (Z:Exs K mg C_j3 C_j0 C_j2 C_j1)
   (JQ:FnOk P w K mg base CX0 6 ER LL ["house"] (Wb K)) (F9:Fun K "sums_basis" "sums_basis" DT ER LL) (JR:AI K LL ["house"] []) (JS:mg "sums_basis"=some (.ref ER))
   (D4:FnOk P w K mg base CX0 1 Ct Fg ["p","one","two"] (ML K)) (Cu:Fun K "_law_times" "_law_times" CZ Ct Fg) (D7:AI K Fg ["p","one","two"] []) (D8:mg "_law_times"=some (.ref Ct))
   (Il:FnOk P w K mg base CX0 2 Ee Kw ["house","word"] (Pq K)) (Fh:Fun K "_law_behind" "_law_behind" C6 Ee Kw) (Im:AI K Kw ["house","word"] []) (Io:mg "_law_behind"=some (.ref Ee))
   (Ip:FnOk P w K mg base CX0 3 Ef Kx ["house","words","rows","amounts"] (PR K)) (Fi:Fun K "_law_closed" "_law_closed" C8 Ef Kx) (Iq:AI K Kx ["house","words","rows","amounts"] []) (Ir:mg "_law_closed"=some (.ref Ef))
  : FnOk P w K mg base CX0 7 f fd ["house"] (PU K):=by
 refine F.ok Ek (fun vs H Q E h=>?_) (fun cdv A outer s H vs Q E hr h=>?_)
 ·obtain⟨h,p,L,z,rfl,_⟩:=h;rfl
 ·obtain⟨h,p,L,z,rfl,hp,hh,ok,hL1,hL6,hd16,hW,k⟩:=h
  have hl:=Au
  obtain⟨tf,tt,tl,h1,h2,h3,h4⟩:=id hh
  refine⟨_,(Ae (Ah (i:=1) Ek.nd (Ai JQ (hr.mono (by decide)) rfl JS F9.kp JR .nil AL (Aa (pvD 0) Ab)))
   (Ae (Ah (i:=2) Ek.nd (Aj (ixTD Am) (pvD 1) Ad))
   (G3 (CI (PW.pt (Au_ (ptT (AK (opN OJ) (FG_ rfl rfl T.max (Aa (Aj (ixTD Am) (pvD 0) Ad) Ab) Ad) Ad (AQ _))) (Xg (PW.pt (NU (ptT (AK (opE I0) (Az (lenD Ao) (by rfl) T.len jH_ (Aa (pvD 2) Ab)) Ad (AQ _))) (Nx (ptT (AK (Yn 8 (hu9 hr)) (Aj (ixLD BM) (pvD 2) Ad) (A4 Ab) (AQ _)))))))))
   (Ag (Ay Gu))
   AZ)
   (Ae (SA (i:=3) Ek.nd rfl rfl rfl (DK rfl) (cp:=Jj) ⟨⟨rfl,rfl⟩,True.intro⟩ (Mo (pvD 2)) (fun _ _ _ _=>(Aw (i:=0) Lk rfl (Or.inl rfl))) (fun _ _ _ _=>DI) (fun _ _ _ _=>(Ai Il (hr.mono (by decide)) rfl Io Fh.kp Im .nil AL (Aa (pvD 1) (Aa (pvD 0) Ab)))))
   (Ae (Cg jF_ rfl (Mo (pvD 3)) (Aw (i:=4) Ek.nd rfl (Or.inl rfl))
   (Ag (CI (ptT (AK (opN OJ) (Ai D4 (hr.mono (by decide)) rfl D8 Cu.kp D7 .nil AL (Aa (Aj (ixTD Am) (pvD 0) Ad) (Aa (pvD 4) (Aa (Aj (ixTD Am) (pvD 0) Ad) Ab)))) Ad (AQ _)))
   (Ag (Ay Gu))
   AZ)))
   (Ag (Ay (Ai Ip (hr.mono (by decide)) rfl Ir Fi.kp Iq .nil AL (Aa (pvD 0) (Aa (pvD 2) (Aa (pvD 3) (Aa (Aj (ixTD Am) (pvD 1) Ad) Ab)))))))))))),?_⟩
  walk_at "rd"
  refine⟨h,p,L,z.d,z.f,z.l,z.t,rfl,hp,hh,ok,hL6,hd16,fun q lw lm zs xs F ws am H4 s4 hq hlw hw hlm hA hF bw hwd=>?_⟩
  refine⟨q,rfl,_,hq,V.ref lw,rfl,?_⟩
  have hzl:=hw.1
  have p2:=ok.p2
  have p18:=ok.p18
  have hwl:ws.length<=16:=by lia
  obtain⟨R0,hR0⟩:∃R0:St->Hp->Prop,∀σ' H',R0 σ' H'↔(Same H4 H'/\σ'=[some (.ref h),some (.ref q),some (.ref lw),none,none]):=⟨_,fun _ _=>qf_⟩
  refine⟨R0,?_,fun σ0 H5 h0=>?_⟩
  ·walk_at "rd"
   obtain⟨mx,hmx⟩:∃mx:Int,(z.f=[]/\mx=0)\/(mx∈z.f/\∀y∈z.f,y<=mx):=HY_ z.f
   refine⟨_,s4.seqT h1,V.ref tf,rfl,tf,rfl,z.f,s4.seqT h2,mx,hmx,ite2 (fun g=>?_) (fun g=>(hR0 _ _).mpr ⟨Same.refl _,rfl⟩)⟩
   have g:mx≠0:=fun e=>by rw[e]at g;simp at g
   have hnot:¬ ∀i:Nat,i<z.d->z.f.getD i 0%p=0:=fun zz=>by
    rcases hmx with ⟨_,e⟩|⟨hm',_⟩
    ·exact g e
    ·obtain⟨i,hi⟩:=qp_.mp hm'
     have hb:=ok.f.2 _ hm'
     have:=zz i (by rw[<-ok.f.1];exact (jd_.mp hi).1)
     rw[ja_,hi]at this
     have e:mx%p=mx:=j5_ hb.1 hb.2
     have e':mx%p=0:=this
     lia
   have e:=bw.nil1 (jd_.mp bw.f0).1 hnot
   have hwl:0<ws.length:=(jd_.mp e).1
   obtain⟨t,e1,e2⟩:=hw.2 0 [] e
   refine⟨_,.inl (SqL.of hlw),?_⟩
   rw[if_neg s!""]
   refine⟨_,SqL.of hlw,V.ref t,AY (j:=0) e1,by lia,fun u hu=>⟨t,rfl,_,EqD.ints (xs:=[]) (ys:=[]) (.inr ⟨SqT.of (Same.new hu _ _ e2),SqT.of Ac⟩) 7,?_⟩⟩
   rw[qg_ rfl]
   exact (hR0 _ _).mpr ⟨Same.new hu,rfl⟩
  obtain⟨s5,rfl⟩:=(hR0 _ _).mp h0
  have hlw5:=s5 _ _ hlw
  have hw5:=hw.mono (TK.of s5)
  have hh5:=hh.mono (s4.trans s5)
  walk_at "rd"
  refine⟨⟨_,SqL.of hlw5⟩,Fr_ (xs:=zs) (fun i ys σ' H'=>Same H5 H'/\Ba K H' ys ((ws.take i).map (z.R p))/\∃o,σ'=[o,some (.ref h)]) ⟨Same.refl _,⟨rfl,fun i r hi=>by simp at hi⟩,none,rfl⟩ s!"" (fun i ys σ' H' hi h'=>⟨SqL.of (h'.1 _ _ hlw5),by have:=h'.2.1.1;rw[jb_,jR_]at this;lia⟩) (fun i xx ys σ' H' hx h'=>?_) (fun ys σ' H' h' D hD=>?_)⟩
  ·obtain⟨s',hy,o,rfl⟩:=h'
   have hi:i<ws.length:=by rw[<-hzl];exact (jd_.mp hx).1
   obtain⟨v,hv⟩:∃v,ws[i]?=some v:=⟨ws[i],by simp⟩
   obtain⟨t,e1,e2⟩:=hw5.2 i v hv
   rw[hx]at e1
   cases e1
   walk_at "rd"
   refine⟨h,t,p,L,z.d,z.f,z.l,v,z.t,rfl,hh5.mono s',ok,SqT.of (s' _ _ e2),bw.wsW (jj_ hv),fun u H6 s6 hu=>⟨s'.trans s6,?_,_,rfl⟩⟩
   rw[qb_,hv,ji_]
   exact (hy.mono s6).snoc hu
  ·obtain⟨s',hy,o,rfl⟩:=h'
   rw[hzl,jM_]at hy
   have hyl:=hy.1
   rw[jb_]at hyl
   have sD:=s'.trans (Same.new hD (o:=.lst ys))
   have hyD:=hy.mono (Same.new hD (o:=.lst ys))
   have uD:upd H' D (.lst ys) D=some (.lst ys):=Ac
   generalize upd H' D (.lst ys)=H7 at sD hyD uD ⊢
   have s07:=s4.trans (s5.trans sD)
   have s47:=s5.trans sD
   refine⟨D,rfl,⟨_,SqL.of uD⟩,?_⟩
   obtain⟨Pv,hPv⟩:∃Pv:Nat->St->Hp->Prop,∀i σ' H',Pv i σ' H'↔(Same H7 H'/\∃o4,σ'=[some (.ref h),some (.ref q),some (.ref lw),some (.ref D),o4]):=⟨_,fun _ _ _=>qf_⟩
   refine forL Pv ((hPv _ _ _).mpr ⟨Same.refl _,none,rfl⟩) (fun i σ' H' _ h'=>SqL.of (((hPv _ _ _).mp h').1 _ _ uD)) (fun i xx σ' H' hx h'=>?_) (fun σ' H' h'=>?_)
   ·obtain⟨c1,o4,rfl⟩:=(hPv _ _ _).mp h'
    have hi:i<ws.length:=by rw[<-hyl];exact (jd_.mp hx).1
    obtain⟨v,hv⟩:∃v,ws[i]?=some v:=⟨ws[i],by simp⟩
    obtain⟨t,e1,e2⟩:=hyD.2 i (z.R p v) (by rw[jh_,hv];rfl)
    rw[hx]at e1
    cases e1
    have hrx:(z.R p v).length=z.d/\∀y∈z.R p v,0<=y/\y<p:=ok.row v
    walk_at "rd"
    refine⟨_,(s07.trans c1).seqT h1,V.int p,rfl,_,(s07.trans c1).seqT h1,V.ref tl,rfl,p,t,tl,z.R p v,z.l,rfl,by lia,p18,c1.seqT e2,(s07.trans c1).seqT h3,by rw[hrx.1,ok.l.1],by lia,hrx.2,fun H8 s8=>?_⟩
    have e0:dotW (z.R p v) z.l%p=0:=by rw[Bt];exact hW v (bw.wsW (jj_ hv))
    show _/\_
    refine⟨rfl,?_⟩
    rw[e0,if_neg (by simp)]
    exact (hPv _ _ _).mpr ⟨c1.trans s8,_,rfl⟩
   ·obtain⟨c1,o4,rfl⟩:=(hPv _ _ _).mp h'
    walk_at "rd"
    refine⟨_,(s47.trans c1).seqT hq,V.ref lm,rfl,h,lw,D,lm,p,L,z.d,z.f,z.l,z.t,F,ws,zs,ys,xs,am,rfl,hh.mono (s07.trans c1),ok,hL1,hL6,hd16,(s47.trans c1) _ _ hlw,hzl,c1 _ _ uD,hyD.mono c1,(s47.trans c1) _ _ hlm,hA.mono fun b ys' _ e'=>(s47.trans c1) _ _ e',hF,bw,hwd,fun H9 s9=>k _ ((s07.trans c1).trans s9)⟩
noncomputable def PV (K:α3):Sp:=fun vs H Q _=>∃(h a:Addr) (p wy:Int) (at_ L:Nat) (ns:α2) (x:Hs),vs=[.ref h,.ref a,.int at_,.int wy]/\SqL K H a (ns.map V.int)/\Ig K H h p L x/\x.ok p L/\Sm p x.t/\1<=L/\L<=6/\x.d<=3/\at_<=90/\∀g y H',Same H H'->Ig K H' g p L y->y.ok p L->y.d<=x.d+1->(wy%3=1->∀v,isW L v=true->x.W p v=y.W p v)->Q (.ref g) H'
theorem EV_ {xs:α2}{j:Nat}(hj:j<xs.length)(y:Int):(xs.map V.int).take j++[V.int y]++(xs.map V.int).drop (j+1)=(xs.set j y).map V.int:=by
 rw[<-xl_,<-List.map_drop,xX_,if_pos hj]
 simp
theorem QS   (F:Fun K "_law_beside" "_law_beside" Dc f fd)(T:Txt mg)
  (W:Own K mg)
  (Z:Exs K mg C_j3 C_j0 C_j2 C_j1)
   (AE:FnOk P w K mg base CX0 1 AN AX ["script","k"] (KS K)) (AA:Fun K "_law_cell" "_law_cell" BF AN AX) (AF:AI K AX ["script","k"] []) (AG:mg "_law_cell"=some (.ref AN))
   (ES:FnOk P w K mg base CX0 4 Cv Fj ["script","at","p","letters","many"] (MM K)) (C3:Fun K "_law_house" "_law_house" CY Cv Fj) (ET:AI K Fj ["script","at","p","letters","many"] []) (EU:mg "_law_house"=some (.ref Cv))
   (Hb:FnOk P w K mg base CX0 5 DA JT ["house","script","at"] (NG K)) (Em:Fun K "_law_another" "_law_another" Cy DA JT) (Hc:AI K JT ["house","script","at"] []) (Hd:mg "_law_another"=some (.ref DA))
  : FnOk P w K mg base CX0 6 f fd ["one","script","at","way"] (PV K):=by
 refine F.ok CB (fun vs H Q E h=>?_) (fun cdv A outer s H vs Q E hr h=>?_)
 ·obtain⟨h,a,p,wy,at_,L,ns,x,rfl,_⟩:=h;rfl
 ·obtain⟨h,a,p,wy,at_,L,ns,x,rfl,hs,hh,ok,sm,hL1,hL6,hd,hat,k⟩:=h
  have hl:=Au
  have p2:=ok.p2
  have p18:=ok.p18
  obtain⟨tf,tt,tl,h1,h2,h3,h4⟩:=id hh
  refine⟨_,(Ae (Ah (i:=4) CB.nd (Aj (ixTD Am) (pvD 0) Ad))
   (A8 (CI (ptT (AK (opE I0) (Al (opD Bb) (pvD 3) Ad) Ad (AQ _)))
   (Ag (Ay (Ai ES (hr.mono (by decide)) rfl EU C3.kp ET .nil AL (Aa (pvD 1) (Aa (pvD 2) (Aa (pvD 4) (Aa (Aj (ixTD Am) (pvD 0) Ad) (Aa (Az (lenD Ao) (by rfl) T.len jH_ (Aa (Aj (ixTD Am) (pvD 0) Ad) Ab)) Ab))))))))
   AZ)
   (A8 (Ah (i:=5) CB.nd (Ai Hb (hr.mono (by decide)) rfl Hd Em.kp Hc .nil AL (Aa (pvD 0) (Aa (pvD 1) (Aa (pvD 2) Ab)))))
   (A8 (CI (ptT (AK (opE I0) (Al (opD Bb) (pvD 3) Ad) Ad (AQ _)))
   (Ag (Ay (pvD 5)))
   AZ)
   (A8 (Ah (i:=6) CB.nd (Al (opD Bb) (Al (opD Gb) (pvD 3) Ad) (Az (lenD Ao) (by rfl) T.len jH_ (Aa (Aj (ixTD Am) (pvD 5) Ad) Ab))))
   (A8 (Ah (i:=7) CB.nd (Al (opD0 Bw) Ad (Al (opD Bb) (Ai AE (hr.mono (by decide)) rfl AG AA.kp AF .nil AL (Aa (pvD 1) (Aa (Al (opD0 Bw) (pvD 2) Ad) Ab))) (Al (opD0 Kg) (pvD 4) Ad))))
   (A8 (CI (ptT (AK (opE I0) (Al (opD Bb) (pvD 3) Ad) Ad (AQ _)))
   (Ae (Ah (i:=8) CB.nd (Al B6 (Al B6 (Ea GA (Aj (ixTD Am) (pvD 5) Ad) Ft (Fu (pvD 6))) (A4 (Aa (Al (opD Bb) (Al (opD0 Bw) (Aj (ixTD Am) (Aj (ixTD Am) (pvD 5) Ad) (pvD 6)) (pvD 7)) (pvD 4)) Ab))) (Ea GA (Aj (ixTD Am) (pvD 5) Ad) (Fu (Al (opD0 Bw) (pvD 6) Ad)) Ft)))
   (Ag (Ay (A4 (Aa (pvD 4) (Aa (Aj (ixTD Am) (pvD 5) Ad) (Aa (Aj (ixTD Am) (pvD 5) Ad) (Aa (Aj (ixTD Am) (pvD 5) Ad) (Aa (pvD 8) Ab)))))))))
   AZ)
   (A8 (Ah (i:=8) CB.nd (Al B6 (Al B6 (Ea GA (Aj (ixTD Am) (pvD 5) Ad) Ft (Fu (pvD 6))) (A4 (Aa (Al (opD Bb) (Al (opD0 Bw) (Aj (ixTD Am) (Aj (ixTD Am) (pvD 5) Ad) (pvD 6)) (pvD 7)) (pvD 4)) Ab))) (Ea GA (Aj (ixTD Am) (pvD 5) Ad) (Fu (Al (opD0 Bw) (pvD 6) Ad)) Ft)))
   (Ag (Ay (A4 (Aa (pvD 4) (Aa (Aj (ixTD Am) (pvD 5) Ad) (Aa (pvD 8) (Aa (Aj (ixTD Am) (pvD 5) Ad) (Aa (Aj (ixTD Am) (pvD 5) Ad) Ab)))))))))))))))),?_⟩
  walk_at "rd"
  refine⟨_,h1,V.int p,rfl,by decide,ite2 (fun g0=>?_) (fun g0=>AW ?_)⟩
  ·refine⟨_,h1,V.int L,rfl,_,h1,V.ref tf,rfl,tf,rfl,_,.inr h2,?_⟩
   rw[jb_,ok.f.1]
   refine⟨a,ns,at_,p,L,x.d,rfl,hs,by lia,by lia,p2,p18,hL1,hL6,by lia,fun g f l t H1 s1 hg wf _=>?_⟩
   exact k g ⟨x.d,f,t,l⟩ H1 s1 hg wf (Nat.le_succ _) fun z=>by lia
  ·walk_at "rd"
   refine⟨h,a,p,at_,L,x.d,ns,x.f,x.l,x.t,rfl,hs,hh,ok,sm,hL1,hL6,by lia,by lia,fun g f l t H1 s1 hg wf _ hW=>AW ?_⟩
   walk_at "rd"
   refine⟨by decide,ite2 (fun g1=>?_) (fun g1=>AW ?_)⟩
   ·exact k g ⟨x.d+1,f,t,l⟩ H1 s1 hg wf (jf_ _) fun _ v hv=>(hW v hv).symm
   ·obtain⟨uf,ut,ul,q1,q2,q3,q4⟩:=id hg
    have hfl:=wf.f.1
    have hll:=wf.l.1
    obtain⟨j,hj,hj2⟩:∃j:Nat,wy / 3%(x.d+1:Nat)=(j:Int)/\j<x.d+1:=⟨(wy / 3%(x.d+1:Nat)).toNat,by have:=jJ_ (wy / 3) (show ((x.d+1:Nat):Int)≠0 by lia);lia,by have:=jE_ (wy / 3) (show 0<((x.d+1:Nat):Int) by lia);lia⟩
    walk_at "rd"
    refine⟨⟨by decide,by decide⟩,_,q1,V.ref uf,rfl,uf,rfl,_,.inr q2,by rw[jb_,hfl];lia,?_⟩
    rw[jb_,hfl,hj]
    refine AW ?_
    walk_at "rd"
    refine⟨a,ns,at_+3,by push_cast;rfl,s1.seq hs,_,rfl,by lia,AW ?_⟩
    walk_at "rd"
    refine⟨by decide,ite2 (fun g2=>?_) (fun g2=>AW ?_)⟩
    ·obtain⟨b,hb⟩:∃b,l[j]?=some b:=⟨l[j]'s!"",by simp⟩
     refine⟨_,q1,V.ref ul,rfl,ul,rfl,_,q3,fun z1 H2 s2 hz1=>?_⟩
     rw[MO]at hz1
     refine⟨_,s2.seqT q1,V.ref ul,rfl,ul,rfl,_,s2.seqT q3,V.int b,AY (by rw[jh_,hb];rfl),b,rfl,by lia,by lia,fun z2 hz2=>?_⟩
     have s3:=Same.new hz2 (o:=.tup [V.int ((b+(1+cell ns (at_+3)%(p-1)))%p)])
     refine CF.of (s3.seqT hz1) (SqT.of Ac) (by simp;lia) fun z3 H4 s4 hz3=>?_
     have s14:=s2.trans (s3.trans s4)
     refine⟨_,s14.seqT q1,V.ref ul,rfl,ul,rfl,_,s14.seqT q3,fun z4 H5 s5 hz4=>?_⟩
     rw[show (j:Int)+1=((j+1:Nat):Int) by push_cast;rfl,XH]at hz4
     refine CF.of (s5.seqT hz3) hz4 (by simp;lia) fun z5 H6 s6 hz5=>?_
     rw[EV_ s!""]at hz5
     have s16:=s14.trans (s5.trans s6)
     refine⟨_,s16.seqT q1,V.int L,rfl,_,s16.seqT q1,V.ref uf,rfl,_,s16.seqT q1,V.ref ut,rfl,by lia,fun hh' hhn=>?_⟩
     have s7:=Same.new hhn (o:=.tup [V.int p,V.int L,V.ref uf,V.ref ut,V.ref z5])
     have s17:=s16.trans s7
     have hin:=jJ_ (b+(1+cell ns (at_+3)%(p-1))) (show p≠0 by lia)
     have hin2:=jE_ (b+(1+cell ns (at_+3)%(p-1))) (show 0<p by lia)
     refine k hh' ⟨x.d+1,f,t,l.set j ((b+(1+cell ns (at_+3)%(p-1)))%p)⟩ _ (s1.trans s17) ⟨uf,ut,z5,SqT.of Ac,s17.seqT q2,s7.seqT hz5,q4.mono s17⟩ ⟨wf.p2,wf.p18,wf.dl,wf.f,⟨by rw[q5_];exact hll,fun y hy=>?_⟩,wf.t,wf.tt⟩ (jf_ _) fun z=>absurd z g1
     rcases xa_ hy with z|z
     ·exact wf.l.2 y z
     ·rw[z];exact⟨hin,hin2⟩
    ·walk_at "rd"
     obtain⟨b,hb⟩:∃b,f[j]?=some b:=⟨f[j]'s!"",by simp⟩
     refine⟨_,q1,V.ref uf,rfl,uf,rfl,_,q2,fun z1 H2 s2 hz1=>?_⟩
     rw[MO]at hz1
     refine⟨_,s2.seqT q1,V.ref uf,rfl,uf,rfl,_,s2.seqT q2,V.int b,AY (by rw[jh_,hb];rfl),b,rfl,by lia,by lia,fun z2 hz2=>?_⟩
     have s3:=Same.new hz2 (o:=.tup [V.int ((b+(1+cell ns (at_+3)%(p-1)))%p)])
     refine CF.of (s3.seqT hz1) (SqT.of Ac) (by simp;lia) fun z3 H4 s4 hz3=>?_
     have s14:=s2.trans (s3.trans s4)
     refine⟨_,s14.seqT q1,V.ref uf,rfl,uf,rfl,_,s14.seqT q2,fun z4 H5 s5 hz4=>?_⟩
     rw[show (j:Int)+1=((j+1:Nat):Int) by push_cast;rfl,XH]at hz4
     refine CF.of (s5.seqT hz3) hz4 (by simp;lia) fun z5 H6 s6 hz5=>?_
     rw[EV_ s!""]at hz5
     have s16:=s14.trans (s5.trans s6)
     refine AW ?_
     walk_at "rd"
     refine⟨_,s16.seqT q1,V.int L,rfl,_,s16.seqT q1,V.ref ut,rfl,_,s16.seqT q1,V.ref ul,rfl,by lia,fun hh' hhn=>?_⟩
     have s7:=Same.new hhn (o:=.tup [V.int p,V.int L,V.ref z5,V.ref ut,V.ref ul])
     have s17:=s16.trans s7
     have hin:=jJ_ (b+(1+cell ns (at_+3)%(p-1))) (show p≠0 by lia)
     have hin2:=jE_ (b+(1+cell ns (at_+3)%(p-1))) (show 0<p by lia)
     refine k hh' ⟨x.d+1,f.set j ((b+(1+cell ns (at_+3)%(p-1)))%p),t,l⟩ _ (s1.trans s17) ⟨z5,ut,ul,SqT.of Ac,s7.seqT hz5,s17.seqT q3,q4.mono s17⟩ ⟨wf.p2,wf.p18,wf.dl,⟨by rw[q5_];exact hfl,fun y hy=>?_⟩,wf.l,wf.t,wf.tt⟩ (jf_ _) fun z=>absurd z g1
     rcases xa_ hy with z|z
     ·exact wf.f.2 y z
     ·rw[z];exact⟨hin,hin2⟩
noncomputable def Ei (n:Nat):α1:=(List.range n).map fun k=>(List.range n).map fun c=>if c=k+1 then (1:Int) else 0
noncomputable def Fo (last:α2):Hs:=⟨last.length,EW last.length 0,[Ei last.length],last⟩
noncomputable def Wo (K:α3):Sp:=fun vs H Q _=>∃(a:Addr) (p:Int) (last:α2),vs=[.int p,.ref a]/\SqL K H a (last.map V.int)/\1<=last.length/\last.length<=16/\∀q H',Same H H'->Ig K H' q p 1 (Fo last)->Q (.ref q) H'
theorem Wq   (F:Fun K "_law_line" "_law_line" Ew f fd)(T:Txt mg)
  (W:Own K mg)
  (Z:Exs K mg C_j3 C_j0 C_j2 C_j1)
  : FnOk P w K mg base CX0 1 f fd ["p","last"] (Wo K):=by
 refine F.ok GY (fun vs H Q E h=>?_) (fun cdv A outer s H vs Q E hr h=>?_)
 ·obtain⟨a,p,last,rfl,_⟩:=h;rfl
 ·obtain⟨a,p,last,rfl,hs,hz1,hz,k⟩:=h
  have hl:=Au
  refine⟨_,(Ae (Ah (i:=2) GY.nd (Az (lenD Ao) (by rfl) T.len jH_ (Aa (pvD 1) Ab)))
   (Ae (Ah (i:=3) GY.nd (Ex Ab))
   (Ae (Cg jF_ rfl (A3 rfl T.range (Aa (pvD 2) Ab)) (Aw (i:=4) GY.nd rfl (Or.inr rfl))
   (Ag (CH (Lc jQ_ jN_ jO_ Ci (pvD 3) (Aa (AR AJ rfl T.tuple jz_ (Aa (C4 rfl (DK rfl) (cp:=Ll) ⟨⟨rfl,rfl⟩,True.intro⟩ (A3 rfl T.range (Aa (pvD 2) Ab)) (fun _ _ _ _=>(Aw (i:=0) N0 rfl (Or.inl rfl))) (fun _ _ _ _=>DI) (fun _ _ _ _=>(AR AC_ rfl T.int PyProof.Rows.boot_int (Aa (HS (opE I0) (pvD 0) (Al (opD0 Bw) (pvD 1) Ad) (AQ _)) Ab)))) Ab)) Ab)))))
   (Ag (Ay (A4 (Aa (pvD 0) (Aa Ad (Aa (Al B6 (A4 (Aa Ad Ab)) (Al Jc (A4 (Aa Ad Ab)) (Al (opD0 Kg) (pvD 2) Ad))) (Aa (A4 (Aa (AR AJ rfl T.tuple jz_ (Aa (pvD 3) Ab)) Ab)) (Aa (AR AJ rfl T.tuple jz_ (Aa (pvD 1) Ab)) Ab))))))))))),?_⟩
  walk_at "rd"
  refine⟨_,.inl hs,by lia,fun pt hpt=>?_⟩
  rw[jb_]
  refine⟨by lia,by lia,?_⟩
  rw[jA_]
  obtain⟨n,hn⟩:∃n,n=last.length:=⟨_,rfl⟩
  rw[<-hn]at hz hz1 ⊢
  obtain⟨Pv,hPv⟩:∃Pv:Nat->St->Hp->Prop,∀i σ' H',Pv i σ' H'↔(∃(ys:List V) (o4:Option V),Same H H'/\H' pt=some (.lst ys)/\Ba K H' ys ((Ei n).take i)/\σ'=[some (.int p),some (.ref a),some (.int n),some (.ref pt),o4]):=⟨_,fun _ _ _=>qf_⟩
  refine forR Pv ((hPv _ _ _).mpr ⟨[],none,Same.new hpt,Ac,Ba.nil,rfl⟩) (fun i σ' H' hi h'=>?_) (fun σ' H' h'=>?_)
  ·obtain⟨ys,o4,s1,u1,hr1,rfl⟩:=(hPv _ _ _).mp h'
   rw[j3_]
   walk_at "rd"
   refine⟨.inl ⟨rfl,_,SqL.of u1⟩,by lia,by lia,?_⟩
   rw[jA_]
   refine OR (fun j zs σ4 H4=>H4=H'/\zs=(((List.range j).map fun c=>if c=i+1 then (1:Int) else 0)).map V.int/\∃o,σ4=[o,some (.int i)]) ⟨rfl,rfl,none,rfl⟩ s!"" (fun j zs σ4 H4 _ h4=>?_) (fun j zs σ4 H4 hj h4=>?_) (fun zs σ4 H4 h4 D hD=>?_)
   ·rw[h4.2.1,jb_,jb_,jU_];exact jf_ _
   ·obtain⟨rfl,rfl,o,rfl⟩:=h4
    rw[j3_]
    walk_at "rd"
    refine .inr ⟨?_,_,rfl⟩
    rw[j2_,ji_,ji_]
    by_cases hji:j=i+1
    ·subst hji;simp
    ·have:¬ ((j:Int)=(i:Int)+1):=by lia
     simp[hji,this]
   ·obtain⟨rfl,rfl,o,rfl⟩:=h4
    refine⟨D,rfl,_,.inl ⟨SqL.of Ac,fun t ht=>?_⟩⟩
    have sDt:=(Same.new hD (o:=.lst (((List.range n).map fun c=>if c=i+1 then (1:Int) else 0).map V.int))).newT ht (o:=.tup (((List.range n).map fun c=>if c=i+1 then (1:Int) else 0).map V.int))
    have hq4:=sDt _ _ u1
    have hxl:=hr1.1
    have hsl:(Ei n).length=n:=by unfold Ei;simp
    rw[jR_,hsl]at hxl
    refine⟨_,hq4,by lia,(hPv _ _ _).mpr ⟨_,_,(s1.trans sDt).over hpt,Ac,?_,rfl⟩⟩
    have e:(Ei n).take (i+1)=(Ei n).take i++[(List.range n).map fun c=>if c=i+1 then (1:Int) else 0]:=by
     rw[qb_]
     congr 1
     unfold Ei
     rw[jh_,j7_ hi];rfl
    rw[e]
    exact Ba.off66 hq4 ((hr1.mono sDt).snoc (SqT.of Ac))
  ·obtain⟨ys,o4,s1,u1,hr1,rfl⟩:=(hPv _ _ _).mp h'
   walk_at "rd"
   refine⟨by lia,fun y1 hy1=>⟨by lia,fun y2 hy2=>?_⟩⟩
   have sa:=Same.new hy1 (o:=.tup [V.int 1])
   have sb:=Same.new hy2 (o:=.tup [V.int 0])
   refine OT.of (SqT.of Ac) (by simp) s!"" s!"" (by simp;lia) fun y3 H2 s2 hy3=>?_
   refine CF.of (s2.seqT (sb.seqT (SqT.of Ac))) hy3 (by simp;lia) fun tf H3 s3 htf=>?_
   have s03:=sa.trans (sb.trans (s2.trans s3))
   refine⟨_,.inl ⟨SqL.of (s03 _ _ u1),fun tb htb=>?_⟩⟩
   refine⟨by lia,fun tt htt=>?_⟩
   have sc:=Same.new htb (o:=.tup ys)
   have sd:=Same.new htt (o:=.tup [V.ref tb])
   refine⟨_,.inl ⟨(s1.trans (s03.trans (sc.trans sd))).seq hs,fun tl htl=>?_⟩⟩
   refine⟨by lia,fun hh hhh=>?_⟩
   ·have se:=Same.new htl (o:=.tup (last.map V.int))
    have sf:=Same.new hhh (o:=.tup [V.int p,V.int 1,V.ref tf,V.ref tt,V.ref tl])
    have scf:=sc.trans (sd.trans (se.trans sf))
    have hfe:[V.int 1]++(List.replicate ((n:Int)-1).toNat [V.int 0]).flatten=(EW n 0).map V.int:=by
     have h0:=Dn_ (n:=n) (i:=0) s!""
     rw[<-h0]
     have:((n:Int)-1).toNat=n-0-1:=by lia
     rw[this]
     simp
    rw[hfe]at htf
    refine k hh _ (s1.trans (s03.trans scf)) ⟨tf,tt,tl,SqT.of Ac,?_,sf.seqT (SqT.of Ac),[tb],(se.trans sf).seqT (SqT.of Ac),rfl,fun i u tb' hu htb'=>?_⟩
    ·show SqT K _ tf ((EW last.length 0).map V.int)
     rw[<-hn];exact scf.seqT htf
    ·cases i with
     |zero=>
      cases hu;cases htb'
      refine⟨ys,(sd.trans (se.trans sf)).seqT (SqT.of Ac),?_⟩
      have hsl:(Ei n).length=n:=by unfold Ei;simp
      have:=hr1.mono (s03.trans scf)
      rw[qm_ s!""]at this
      rw[<-hn]
      exact this
     |succ i=>simp at hu
theorem Cc_  (hc:c<n):(EW n k).getD c 0=if c=k then (1:Int) else 0:=by
 unfold EW
 rw[ja_,jh_,j7_ hc];rfl
theorem MT (n k:Nat):(EW n k).length=n:=by unfold EW;simp
theorem GS (n:Nat):(Ei n).length=n:=by unfold Ei;simp
theorem XQ  (hk:k<n):(Ei n).getD k []=(List.range n).map fun c=>if c=k+1 then (1:Int) else 0:=by
 unfold Ei
 rw[ja_,jh_,j7_ hk];rfl
theorem XR  (hp:2<=p)(n k:Nat):DF p (Ei n) (EW n k) n=EW n (k+1):=by
 refine qC_ fun c=>?_
 by_cases hc:c<n
 ·have e1:(DF p (Ei n) (EW n k) n).getD c 0=dotW (EW n k) (colW (Ei n) c)%p:=KU hc
  have hcl:(colW (Ei n) c).length=n:=by rw[Ib,GS]
  rw[Wg hcl]at e1
  have e2:(colW (Ei n) c).getD k 0=if c=k+1 then (1:Int) else 0:=by
   by_cases hk:k<n
   ·unfold colW
    rw[ja_,jh_,jc_ (by rw[GS];exact hk)]
    have:=XQ hk
    rw[ja_,jc_ (by rw[GS];exact hk)]at this
    show ((Ei n)[k]'_).getD c 0=_
    have this:(Ei n)[k]'(by rw[GS];exact hk)=_:=this
    rw[this,ja_,jh_,j7_ hc];rfl
   ·rw[ja_,ju_ s!"",if_neg s!""];rfl
  rw[e2]at e1
  have e3:=Cc_ (k:=k+1) hc
  have hm:(if c=k+1 then (1:Int) else 0)%p=if c=k+1 then (1:Int) else 0:=by
   split
   ·exact j5_ s!"" s!""
   ·simp
  rw[hm,<-e3]at e1
  have l1:c<(DF p (Ei n) (EW n k) n).length:=by rw[Lr];exact hc
  have l2:c<(EW n (k+1)).length:=by rw[MT];exact hc
  rw[ja_,ja_,jc_ l1,jc_ l2]at e1
  rw[jc_ l1,jc_ l2]
  exact qY_ some e1
 ·rw[ju_ (by rw[Lr];lia),ju_ (by rw[MT];lia)]
theorem Sf {p:Int}(hp:2<=p)(l:α2):∀k:Nat,(Fo l).R p (List.replicate k 0)=EW l.length k
 |0=>rfl
 |k+1=>by
  have e:(Fo l).R p (List.replicate (k+1) 0)=FW p l.length [Ei l.length] ((Fo l).R p (List.replicate k 0)) 0:=by
   rw[List.replicate_succ']
   unfold Hs.R Mine.rowS
   rw[qE_];rfl
  rw[e,Sf hp l k]
  exact XR hp l.length k
theorem Wr {p:Int}(hp:2<=p)(p18:p<1000000000000000000){l:α2}(hl:l.length<=40)(hin:∀x∈l,0<=x/\x<p):(Fo l).ok p (1:Nat) where
 p2:=hp
 p18:=p18
 dl:=hl
 f:=⟨MT _ _,fun x hx=>by
  obtain⟨c,_,rfl⟩:=jv_.mp hx
  show 0<=(if c=0 then (1:Int) else 0)/\_
  split<;>lia⟩
 l:=⟨rfl,hin⟩
 t:=rfl
 tt:=fun tb htb=>by
  rw[jg_.mp htb]
  refine⟨GS _,fun r hr=>?_⟩
  obtain⟨k,_,rfl⟩:=jv_.mp hr
  show ((List.range l.length).map _).length=l.length
  simp
theorem G0  (hp:2<=p)  (hin:∀x∈l,0<=x/\x<p)(k:Nat):(Fo l).W p (List.replicate k 0)=l.getD k 0:=by
 unfold Hs.W
 rw[Sf hp]
 show dotW l (EW l.length k)%p=_
 rw[Bt,Wg rfl]
 by_cases hk:k<l.length
 ·have:=hin _ (jD_ hk)
  rw[ja_,jc_ hk]
  exact j5_ this.1 this.2
 ·rw[ja_,ju_ s!""];simp
theorem YV  (h:isW ((1:Nat):Int) v=true):v=List.replicate v.length 0:=by
 refine q9_.mpr ⟨rfl,fun x hx=>?_⟩
 have:=Bo.mp h x hx
 lia
theorem Cd_ (k:Nat):isW ((1:Nat):Int) (List.replicate k 0)=true:=Bo.mpr fun x hx=>by rw[(qV_.mp hx).2];lia
theorem PX:∀k:Nat,BE ((1:Nat):Int) (List.replicate k 0)=k
 |0=>rfl
 |k+1=>by rw[List.replicate_succ',Du,PX k];push_cast;lia
noncomputable def Fst (a b:α2)(k:Nat):Prop:=a.getD k 0≠b.getD k 0/\∀j,j<k->a.getD j 0=b.getD j 0
theorem Fst.of68  (hp:2<=p)  (ha:∀x∈a,0<=x/\x<p)(hb:∀x∈b,0<=x/\x<p)  (h:Df p 1 (Fo a) (Fo b) v):v=List.replicate v.length 0/\Fst a b v.length:=by
 have e:=YV h.1
 refine⟨e,?_,fun j hj=>?_⟩
 ·have:=h.2.1
  rw[e,G0 hp ha,G0 hp hb]at this
  simpa using this
 ·have:=h.2.2 (List.replicate j 0) (Cd_ j) (by rw[e,PX,PX];simp;exact hj)
  rwa [G0 hp ha,G0 hp hb]at this
theorem Dp_  (hp:2<=p)  (ha:∀x∈a,0<=x/\x<p)(hb:∀x∈b,0<=x/\x<p)(h:∀v,isW ((1:Nat):Int) v=true->(Fo a).W p v=(Fo b).W p v)(k:Nat):a.getD k 0=b.getD k 0:=by
 have:=h _ (Cd_ k)
 rwa [G0 hp ha,G0 hp hb]at this
theorem Fst.uniq   (h:Fst a b i)(g:Fst a b j):i=j:=by
 rcases Nat.lt_trichotomy i j with z|z|z
 ·exact absurd (g.2 i z) h.1
 ·exact z
 ·exact absurd (h.2 j z) g.1
theorem EW_  (c:Int):∃v,(v=x\/v=y\/v=z)/\atI [V.int x,V.int y,V.int z] (c%3)=some (V.int v):=by
 have h3:c%3=((0:Nat):Int)\/c%3=((1:Nat):Int)\/c%3=((2:Nat):Int):=by lia
 rcases h3 with h|h|h<;>rw[h]
 ·exact⟨x,.inl rfl,AY rfl⟩
 ·exact⟨y,.inr (.inl rfl),AY rfl⟩
 ·exact⟨z,.inr (.inr rfl),AY rfl⟩
noncomputable def Ws (K:α3):Sp:=fun vs H Q _=>∃(a:Addr) (ns:α2) (p c:Int),vs=[.ref a,.int p,.int c]/\SqL K H a (ns.map V.int)/\Pr p/\∀H',Same H H'->Q (.bl true) H'
theorem MU   (F:Fun K "_law_wide_good" "_law_wide_good" BJ f fd)(T:Txt mg)
  (W:Own K mg)
  (Z:Exs K mg C_j3 C_j0 C_j2 C_j1)
   (Ap:FnOk P w K mg base (CXe P w) 7 Ak As ["house","other"] (GR K C_j0)) (An:Fun K "sums_difference" "sums_difference" AM Ak As) (Aq:AI K As ["house","other"] []) (Ar:mg "sums_difference"=some (.ref Ak))
   (Bd:FnOk P w K mg base (CXe P w) 8 AB A5 ["house","other"] (Gq K C_j0)) (A2:Fun K "sums_alike" "sums_alike" BB AB A5) (Be:AI K A5 ["house","other"] []) (Bf:mg "sums_alike"=some (.ref AB))
   (AE:FnOk P w K mg base CX0 1 AN AX ["script","k"] (KS K)) (AA:Fun K "_law_cell" "_law_cell" BF AN AX) (AF:AI K AX ["script","k"] []) (AG:mg "_law_cell"=some (.ref AN))
   (CQ:FnOk P w K mg base CX0 3 Cb D1 ["script","at","many","p"] (OE K)) (B0:Fun K "_law_row" "_law_row" Ec Cb D1) (CS:AI K D1 ["script","at","many","p"] []) (CT:mg "_law_row"=some (.ref Cb))
   (DB:FnOk P w K mg base CX0 2 By D9 ["found","letters"] (KY K)) (BY:Fun K "_law_is_word" "_law_is_word" BV By D9) (DC:AI K D9 ["found","letters"] []) (DD:mg "_law_is_word"=some (.ref By))
   (Iu:FnOk P w K mg base CX0 1 FF NM ["p","last"] (Wo K)) (FG:Fun K "_law_line" "_law_line" Ew FF NM) (Iv:AI K NM ["p","last"] []) (Iw:mg "_law_line"=some (.ref FF))
  : FnOk P w K mg base CX0 9 f fd ["script","p","cell"] (Ws K):=by
 refine F.ok AH (fun vs H Q E h=>?_) (fun cdv A outer s H vs Q E hr h=>?_)
 ·obtain⟨a,ns,p,c,rfl,_⟩:=h;rfl
 ·obtain⟨a,ns,p,c,rfl,hs,hp,k⟩:=h
  have hl:=Au
  have hp1:=hp.1
  have hp2:=hp.2.1
  refine⟨_,(A8 (Ah (i:=3) AH.nd (Aj (ixLD BM) (Ex (Aa Ad (Aa Ad (Aa Ad Ab)))) (Al (opD Bb) (pvD 2) Ad)))
   (A8 (Ah (i:=4) AH.nd (Aj (ixLD BM) (Ex (Aa Ad (Aa Ad (Aa Ad Ab)))) (Al (opD Bb) (Al (opD Gb) (pvD 2) Ad) Ad)))
   (A8 (Ah (i:=5) AH.nd (AR VH rfl T.list xo_ (Aa (Ai CQ (hr.mono (by decide)) rfl CT B0.kp CS .nil AL (Aa (pvD 0) (Aa Ad (Aa (pvD 3) (Aa (pvD 1) Ab))))) Ab)))
   (G3 (CI (ptT (AK (opE I0) (Al (opD Bb) (Al (opD Gb) (pvD 2) Ad) Ad) Ad (AQ _)))
   (Ag (Ah (i:=5) AH.nd (Al VI (Ea AL_ (pvD 5) Ft (Fu (pvD 4))) (Al DO_ (Ex (Aa Ad Ab)) (Al (opD0 Kg) (pvD 3) (pvD 4))))))
   AZ)
   (A8 (Ah (i:=6) AH.nd (Ea AL_ (pvD 5) Ft (Fu (pvD 4))))
   (A8 (Ah (i:=7) AH.nd (Al (opD Bb) (Ai AE (hr.mono (by decide)) rfl AG AA.kp AF .nil AL (Aa (pvD 0) (Aa Ad Ab))) (Al (opD DH) Ad (pvD 4))))
   (G3 (CI (ptT (AK (opD0 VA) (pvD 7) (pvD 4) (AQ _)))
   (Ag (DJ_ (Al (opD Bb) (Al (opD0 Bw) (Al (opD0 Bw) (Aj (ixLD BM) (pvD 6) (pvD 7)) Ad) (Al (opD Bb) (Ai AE (hr.mono (by decide)) rfl AG AA.kp AF .nil AL (Aa (pvD 0) (Aa Ad Ab))) (Al (opD0 Kg) (pvD 1) Ad))) (pvD 1)) (DI_ (pvD 6) (pvD 7) set_list)))
   AZ)
   (A8 (Ah (i:=8) AH.nd Gv)
   (Ae (Cg jF_ rfl (A3 rfl T.range (Aa (pvD 3) Ab)) (Aw (i:=9) AH.nd rfl (Or.inl rfl))
   (Ae (Ah (i:=10) AH.nd (Aj (ixLD BM) (Al VI (pvD 6) (Al DO_ (Ex (Aa Ad Ab)) (Al (opD0 Kg) (pvD 3) (pvD 4)))) (pvD 9)))
   (Ag (CI (PW.pt (Au_ (ptT (AK RP (pvD 8) Gv (AQ _))) (Xg (ptT (AK (opN OJ) (pvD 10) (Aj (ixLD BM) (pvD 5) (pvD 9)) (AQ _))))))
   (Ag (Ah (i:=8) AH.nd (Al Jc (A4 (Aa Ad Ab)) (pvD 9))))
   AZ))))
   (A8 (Ah (i:=11) AH.nd (Ai Iu (hr.mono (by decide)) rfl Iw FG.kp Iv .nil AL (Aa (pvD 1) (Aa (pvD 5) Ab))))
   (A8 (Ah (i:=12) AH.nd (Ai Iu (hr.mono (by decide)) rfl Iw FG.kp Iv .nil AL (Aa (pvD 1) (Aa (pvD 6) Ab))))
   (A8 (Ah (i:=13) AH.nd (Ai Ap (hr.mono (by decide)) rfl Ar An.kp Aq .nil (Jd (P:=P) (w:=w)) (Aa (pvD 11) (Aa (pvD 12) Ab))))
   (Ae (CI (PW.pt (Au_ (ptT (AK Ss (pvD 8) Gv (AQ _))) (Xg (Hh (ptB (Gg (Ai DB (hr.mono (by decide)) rfl DD BY.kp DC .nil AL (Aa (pvD 13) (Aa Ad Ab)))))))))
   (Ag (Ay Gu))
   AZ)
   (Ag (Ay (Vy (HS (EC_ 8 (hu9 hr)) (pvD 13) (pvD 8) (AQ _)) (Vy (HS (EC_ 8 (hu9 hr)) (Ai Ap (hr.mono (by decide)) rfl Ar An.kp Aq .nil (Jd (P:=P) (w:=w)) (Aa (pvD 12) (Aa (pvD 11) Ab))) (pvD 8) (AQ _)) (Ya (HS (opE I0) (Ai Bd (hr.mono (by decide)) rfl Bf A2.kp Be .nil (Jd (P:=P) (w:=w)) (Aa (pvD 11) (Aa (pvD 12) Ab))) (HS RP (pvD 8) Gv (AQ _)) (AQ _)))))))))))))))))))),?_⟩
  walk_at "rd"
  refine⟨by lia,fun t0 ht0=>⟨by decide,_,SqL.of Ac,?_⟩⟩
  obtain⟨sz,hsz,hsel⟩:=EW_ (x:=9) (y:=10) (z:=16) c
  refine⟨_,hsel,?_⟩
  have s0:=Same.new ht0 (o:=.lst [V.int 9,V.int 10,V.int 16])
  generalize upd H t0 (.lst [V.int 9,V.int 10,V.int 16])=H0 at s0 ⊢
  refine AW ?_
  walk_at "rd"
  refine⟨by lia,fun t1 ht1=>⟨⟨by decide,by decide⟩,by decide,_,SqL.of Ac,?_⟩⟩
  obtain⟨ot,hot,hsel2⟩:=EW_ (x:=8) (y:=9) (z:=1) (c / 3)
  refine⟨_,hsel2,?_⟩
  have s1:=s0.newT ht1 (o:=.lst [V.int 8,V.int 9,V.int 1])
  generalize upd H0 t1 (.lst [V.int 8,V.int 9,V.int 1])=H1 at s1 ⊢
  obtain⟨n,rfl⟩:∃n:Nat,sz=(n:Int):=⟨sz.toNat,by lia⟩
  obtain⟨m,rfl⟩:∃m:Nat,ot=(m:Int):=⟨ot.toNat,by lia⟩
  have hmn:m<=n:=by lia
  have hn16:n<=16:=by lia
  have hm1:1<=m:=by lia
  have hm9:m<=9:=by lia
  refine AW ?_
  walk_at "rd"
  refine⟨a,ns,4,p,n,rfl,s1.seq hs,by lia,by lia,by lia,by lia,fun tr row H2 s2 htr hrl hrin=>?_⟩
  refine⟨tr,rfl,_,.inr htr,fun l0 hl0=>?_⟩
  have s3:=s1.trans (s2.newT hl0 (o:=.lst (row.map V.int)))
  have u3:upd H2 l0 (.lst (row.map V.int)) l0=some (.lst (row.map V.int)):=Ac
  generalize upd H2 l0 (.lst (row.map V.int))=H3 at s3 u3 ⊢
  obtain⟨R1,hR1⟩:∃R1:St->Hp->Prop,∀σ' H',R1 σ' H'↔(∃(l:Addr) (last:α2),Same H H'/\H' l=some (.lst (last.map V.int))/\last.length=n/\(∀x∈last,0<=x/\x<p)/\σ'=[some (.ref a),some (.int p),some (.int c),some (.int n),some (.int m),some (.ref l),none,none,none,none,none,none,none,none]):=⟨_,fun _ _=>qf_⟩
  refine AW ?_
  refine⟨R1,?_,fun σ4 H4 h4=>?_⟩
  ·walk_at "rd"
   refine⟨⟨by decide,by decide⟩,by decide,ite2 (fun _=>?_) (fun _=>(hR1 _ _).mpr ⟨l0,row,s3,u3,hrl,hrin,rfl⟩)⟩
   refine⟨_,SqL.of u3,fun y1 hy1=>⟨by lia,fun y2 hy2=>⟨_,Ac,by lia,by lia,by simp;lia,fun y3 hy3=>?_⟩⟩⟩
   have sa:=Same.new hy1 (o:=.lst (cutV (row.map V.int) none (some (m:Int))))
   have sb:=Same.new hy2 (o:=.lst [V.int 0])
   have sc:=Same.new hy3 (o:=.lst (List.replicate ((n:Int)-m).toNat [V.int 0]).flatten)
   refine⟨_,(sb.trans sc) _ _ Ac,_,Ac,?_,fun y4 hy4=>?_⟩
   ·rw[MO];simp;lia
   have sd:=Same.new hy4 (o:=.lst (cutV (row.map V.int) none (some (m:Int))++(List.replicate ((n:Int)-m).toNat [V.int 0]).flatten))
   have e:cutV (row.map V.int) none (some (m:Int))++(List.replicate ((n:Int)-m).toNat [V.int 0]).flatten=(row.take m++List.replicate (n-m) 0).map V.int:=by
    rw[MO,ji_,xl_,show ((n:Int)-m).toNat=n-m by lia]
    simp
   rw[e]at sd ⊢
   refine (hR1 _ _).mpr ⟨y4,row.take m++List.replicate (n-m) 0,s3.trans (sa.trans (sb.trans (sc.trans sd))),Ac,by simp;lia,fun x hx=>?_,rfl⟩
   rcases jx_.mp hx with z|z
   ·exact hrin x (xb_ z)
   ·rw[(qV_.mp z).2];lia
  obtain⟨l,last,s4,u4,hll,hlin,rfl⟩:=(hR1 _ _).mp h4
  walk_at "rd"
  refine⟨_,SqL.of u4,fun l2 hl2=>?_⟩
  rw[MO,<-xl_]
  have s5:=s4.newT hl2 (o:=.lst ((last.take m).map V.int))
  have u5:upd H4 l2 (.lst ((last.take m).map V.int)) l2=some (.lst ((last.take m).map V.int)):=Ac
  have u4':=Same.new hl2 (o:=.lst ((last.take m).map V.int)) _ _ u4
  have hl2N:H l2=none:=s4.gone' hl2
  have hne2:l2≠l:=fun z=>by rw[z,u4]at hl2;cases hl2
  generalize upd H4 l2 (.lst ((last.take m).map V.int))=H5 at s5 u5 u4' ⊢
  refine AW ?_
  walk_at "rd"
  refine⟨a,ns,2,rfl,s5.seq hs,.inl ⟨by lia,by lia⟩,_,rfl,by lia,?_⟩
  obtain⟨pl,hpl⟩:∃pl:Nat,cell ns 2%(2*(m:Int))=(pl:Int):=⟨(cell ns 2%(2*(m:Int))).toNat,by have:=jJ_ (cell ns 2) (show 2*(m:Int)≠0 by lia);lia⟩
  rw[hpl]
  obtain⟨R2,hR2⟩:∃R2:St->Hp->Prop,∀σ' H',R2 σ' H'↔(∃(mine:α2),Same H H'/\H' l2=some (.lst (mine.map V.int))/\H' l=some (.lst (last.map V.int))/\mine.length=m/\(∀x∈mine,0<=x/\x<p)/\σ'=[some (.ref a),some (.int p),some (.int c),some (.int n),some (.int m),some (.ref l),some (.ref l2),some (.int pl),none,none,none,none,none,none]):=⟨_,fun _ _=>qf_⟩
  refine AW ?_
  have htl:(last.take m).length=m:=by rw[jR_];lia
  have htin:∀x∈last.take m,0<=x/\x<p:=fun x hx=>hlin x (xb_ hx)
  refine⟨R2,?_,fun σ6 H6 h6=>?_⟩
  ·walk_at "rd"
   refine ite2 (fun hlt=>?_) (fun _=>(hR2 _ _).mpr ⟨_,s5,u5,u4',htl,htin,rfl⟩)
   have hlt:pl<m:=by simpa using hlt
   obtain⟨b,hb⟩:∃b,(last.take m)[pl]?=some b:=⟨(last.take m)[pl]'s!"",jc_ _⟩
   refine⟨_,SqL.of u5,V.int b,AY (by rw[jh_,hb];rfl),b,rfl,?_⟩
   refine⟨a,ns,3,rfl,s5.seq hs,_,rfl,by lia,by lia,_,u5,pl,Wj (by rw[jb_];lia),?_⟩
   rw[<-List.map_set]
   refine (hR2 _ _).mpr ⟨_,s5.over hl2N,Ac,by rw[AD hne2.symm];exact u4',by rw[q5_];exact htl,fun x hx=>?_,rfl⟩
   rcases xa_ hx with z|z
   ·exact htin x z
   ·rw[z];exact⟨jJ_ _ s!"",jE_ _ s!""⟩
  obtain⟨mine,s6,u6,v6,hml,hmin,rfl⟩:=(hR2 _ _).mp h6
  walk_at "rd"
  refine AW ?_
  walk_at "rd"
  refine⟨by lia,by lia,?_⟩
  rw[jA_]
  have hpad:∀i:Nat,i<n->(mine.map V.int++(List.replicate ((n:Int)-m).toNat [V.int 0]).flatten)[i]?=some (V.int (mine.getD i 0)):=fun i hi=>by
   rw[show ((n:Int)-m).toNat=n-m by lia]
   by_cases him:i<m
   ·rw[jn_ (by rw[jb_];lia),jh_,ja_,jc_ (show i<mine.length by lia)];rfl
   ·rw[jq_ (by rw[jb_];lia),ja_,ju_ (show mine.length<=i by lia)]
    have:(List.replicate (n-m) [V.int 0]).flatten=List.replicate (n-m) (V.int 0):=by simp
    rw[this,j8_,if_pos (by rw[jb_];lia)];rfl
  obtain⟨Pv,hPv⟩:∃Pv:Nat->St->Hp->Prop,∀i σ' H',Pv i σ' H'↔(∃(dv:V) (o9 o10:Option V),Same H6 H'/\((dv=.non/\∀j,j<i->last.getD j 0=mine.getD j 0)\/(∃t kk,dv=.ref t/\SqT K H' t ((List.replicate kk 0).map V.int)/\kk<i/\Fst last mine kk))/\σ'=[some (.ref a),some (.int p),some (.int c),some (.int n),some (.int m),some (.ref l),some (.ref l2),some (.int pl),some dv,o9,o10,none,none,none]):=⟨_,fun _ _ _=>qf_⟩
  refine forR Pv ((hPv _ _ _).mpr ⟨.non,none,none,Same.refl _,.inl ⟨rfl,fun j hj=>by lia⟩,rfl⟩) (fun i σ' H' hi h'=>?_) (fun σ' H' h'=>?_)
  ·obtain⟨dv,o9,o10,c1,hdv,rfl⟩:=(hPv _ _ _).mp h'
   rw[j3_]
   have hla:(last.map V.int)[i]?=some (V.int (last.getD i 0)):=by
    rw[jh_,ja_,jc_ (show i<last.length by lia)];rfl
   rcases hdv with ⟨rfl,heq⟩|⟨t,kk,rfl,ht,hki,hF⟩
   ·walk_at "rd"
    refine⟨by lia,fun y1 hy1=>⟨_,Ac,by lia,by lia,by simp;lia,fun y2 hy2=>?_⟩⟩
    have sa:=Same.new hy1 (o:=.lst [V.int 0])
    have sb:=Same.new hy2 (o:=.lst (List.replicate ((n:Int)-m).toNat [V.int 0]).flatten)
    refine⟨_,(c1.trans (sa.trans sb)) _ _ u6,_,Ac,by simp;lia,fun y3 hy3=>?_⟩
    have sc:=Same.new hy3 (o:=.lst (mine.map V.int++(List.replicate ((n:Int)-m).toNat [V.int 0]).flatten))
    have s7:=c1.trans (sa.trans (sb.trans sc))
    refine⟨_,SqL.of Ac,_,AY (hpad i hi),?_⟩
    refine⟨_,SqL.of (s7 _ _ v6),_,AY hla,rfl,ite2 (fun hne=>?_) (fun he=>?_)⟩
    ·have hne:last.getD i 0≠mine.getD i 0:=fun z=>by rw[z]at hne;simp at hne
     refine⟨by lia,fun y4 hy4=>OT.of (SqT.of Ac) (by simp) s!"" s!"" (by simp;lia) fun y5 H8 s8 hy5=>?_⟩
     have e:(List.replicate ((i:Int)).toNat [V.int 0]).flatten=(List.replicate i (0:Int)).map V.int:=by rw[jA_];simp
     rw[e]at hy5
     exact (hPv _ _ _).mpr ⟨_,_,_,s7.trans ((Same.new hy4).trans s8),.inr ⟨y5,i,rfl,hy5,by lia,hne,heq⟩,rfl⟩
    ·have he:last.getD i 0=mine.getD i 0:=qk_ fun z=>he (by rw[qj_ (fun q=>z (V.int.inj q).symm)];rfl)
     refine (hPv _ _ _).mpr ⟨_,_,_,s7,.inl ⟨rfl,fun j hj=>?_⟩,rfl⟩
     by_cases hji:j=i
     ·subst hji;exact he
     ·exact heq j s!""
   ·walk_at "rd"
    refine⟨by lia,fun y1 hy1=>⟨_,Ac,by lia,by lia,by simp;lia,fun y2 hy2=>?_⟩⟩
    have sa:=Same.new hy1 (o:=.lst [V.int 0])
    have sb:=Same.new hy2 (o:=.lst (List.replicate ((n:Int)-m).toNat [V.int 0]).flatten)
    refine⟨_,(c1.trans (sa.trans sb)) _ _ u6,_,Ac,by simp;lia,fun y3 hy3=>?_⟩
    have sc:=Same.new hy3 (o:=.lst (mine.map V.int++(List.replicate ((n:Int)-m).toNat [V.int 0]).flatten))
    have s7:=sa.trans (sb.trans sc)
    refine⟨_,SqL.of Ac,_,AY (hpad i hi),?_⟩
    exact (hPv _ _ _).mpr ⟨_,_,_,c1.trans s7,.inr ⟨t,kk,rfl,s7.seqT ht,by lia,hF⟩,rfl⟩
  ·obtain⟨dv,o9,o10,c1,hdv,rfl⟩:=(hPv _ _ _).mp h'
   have s7:=s6.trans c1
   have okA:=Wr (p:=p) (l:=last) s!"" s!"" s!"" hlin
   have okB:=Wr (p:=p) (l:=mine) s!"" s!"" s!"" hmin
   have dA:(Fo last).d=n:=hll
   have dB:(Fo mine).d=m:=hml
   have p2:2<=p:=hp1
   walk_at "rd"
   refine⟨l,p,last,rfl,SqL.of (c1 _ _ v6),by lia,by lia,fun q1 H8 s8 hq1=>?_⟩
   refine AW ?_
   walk_at "rd"
   refine⟨l2,p,mine,rfl,SqL.of ((c1.trans s8) _ _ u6),by lia,by lia,fun q2 H9 s9 hq2=>?_⟩
   have hq1:=hq1.mono s9
   refine AW ?_
   walk_at "rd"
   rcases hdv with ⟨rfl,heq⟩|⟨t,kk,rfl,ht,hki,hF⟩
   ·have hall:∀v,isW ((1:Nat):Int) v=true->(Fo last).W p v=(Fo mine).W p v:=fun v hv=>by
     rw[YV hv,G0 p2 hlin,G0 p2 hmin]
     by_cases hvl:v.length<n
     ·exact heq _ hvl
     ·rw[ja_,ja_,ju_ s!"",ju_ s!""]
    refine⟨q1,q2,p,p,1,1,Fo last,Fo mine,rfl,hq1,okA,hq2,okB,fun _=>hp,by lia,by lia,by lia,by lia,fun _ _ H10 s10=>?_,fun _ t v H10 s10 _ hd _=>absurd (hall v hd.1) hd.2.1,fun z=>absurd ⟨rfl,rfl⟩ z⟩
    refine AW ?_
    walk_at "rd"
    rw[if_neg (by simp)]
    have s9':=s7.trans (s8.trans (s9.trans s10))
    refine⟨_,EqO.non,?_⟩
    rw[if_pos rfl]
    refine⟨q2,q1,p,p,1,1,Fo mine,Fo last,rfl,hq2.mono s10,okB,hq1.mono s10,okA,fun _=>hp,by lia,by lia,by lia,by lia,fun _ _ H11 s11=>⟨_,EqO.non,?_⟩,fun _ t v H11 s11 _ hd _=>absurd (hall v hd.1).symm hd.2.1,fun z=>absurd ⟨rfl,rfl⟩ z⟩
    rw[if_pos rfl]
    refine⟨q1,q2,p,p,1,1,Fo last,Fo mine,rfl,hq1.mono (s10.trans s11),okA,hq2.mono (s10.trans s11),okB,fun _=>hp,by lia,by lia,by lia,by lia,fun _ _ H12 s12=>⟨rfl,?_⟩,fun _ v H12 s12 hd=>absurd (hall v hd.1) hd.2.1,fun z=>absurd ⟨rfl,rfl⟩ z⟩
    have e:decide (V.bl true=V.bl (decide True))=true:=by simp
    rw[e]
    exact k _ (s9'.trans (s11.trans s12))
   ·have ht9:=(s8.trans s9).seqT ht
    have hnot:¬ ∀v,isW ((1:Nat):Int) v=true->(Fo last).W p v=(Fo mine).W p v:=fun z=>hF.1 (Dp_ p2 hlin hmin z kk)
    refine⟨q1,q2,p,p,1,1,Fo last,Fo mine,rfl,hq1,okA,hq2,okB,fun _=>hp,by lia,by lia,by lia,by lia,fun _ z=>absurd z hnot,fun _ t1 v H10 s10 ht1 hd _=>?_,fun z=>absurd ⟨rfl,rfl⟩ z⟩
    obtain⟨ev,fv⟩:=Fst.of68 p2 hlin hmin hd
    have ek:=fv.uniq hF
    refine AW ?_
    walk_at "rd"
    rw[if_pos (by simp)]
    have s9':=s7.trans (s8.trans (s9.trans s10))
    have hvw:v=List.replicate kk 0:=by rw[ev,ek]
    refine⟨t1,((1:Nat):Int),v,rfl,ht1,hd.1,_,rfl,?_⟩
    rw[if_neg (by decide)]
    refine⟨_,EqO.words ht1 (s10.seqT ht9),?_⟩
    rw[qg_ hvw,if_pos rfl]
    refine⟨q2,q1,p,p,1,1,Fo mine,Fo last,rfl,hq2.mono s10,okB,hq1.mono s10,okA,fun _=>hp,by lia,by lia,by lia,by lia,fun _ z=>absurd (fun v hv=>(z v hv).symm) hnot,fun _ t2 v2 H11 s11 ht2 hd2 _=>⟨_,EqO.words ht2 ((s10.trans s11).seqT ht9),?_⟩,fun z=>absurd ⟨rfl,rfl⟩ z⟩
    have e2:v2=List.replicate kk 0:=by rw[<-hvw];exact Df.uniq s!"" hd2.comm hd
    rw[qg_ e2,if_pos rfl]
    refine⟨q1,q2,p,p,1,1,Fo last,Fo mine,rfl,hq1.mono (s10.trans s11),okA,hq2.mono (s10.trans s11),okB,fun _=>hp,by lia,by lia,by lia,by lia,fun _ z=>absurd z hnot,fun _ v3 H12 s12 hd=>⟨rfl,?_⟩,fun z=>absurd ⟨rfl,rfl⟩ z⟩
    have e:decide (V.bl false=V.bl (decide False))=true:=by simp
    rw[e]
    exact k _ (s9'.trans (s11.trans s12))
noncomputable def Dq_ (K:α3):Sp:=fun vs H Q _=>∃(a:Addr) (ns:α2),vs=[.ref a]/\SqL K H a (ns.map V.int)/\ns.length<=63/\∀H',Q (.bl true) H'
theorem Ib_   (F:Fun K "law" "law" SW f fd)(T:Txt mg)
  (W:Own K mg)
  (Z:Exs K mg C_j3 C_j0 C_j2 C_j1)
   (KZ:FnOk P w K mg base (CXe P w) 3 FH NN ["house","other"] (YM K C_j0)) (GU:Fun K "sums_less" "sums_less" Eu FH NN) (K0:AI K NN ["house","other"] []) (K1:mg "sums_less"=some (.ref FH))
   (Ap:FnOk P w K mg base (CXe P w) 7 Ak As ["house","other"] (GR K C_j0)) (An:Fun K "sums_difference" "sums_difference" AM Ak As) (Aq:AI K As ["house","other"] []) (Ar:mg "sums_difference"=some (.ref Ak))
   (Bd:FnOk P w K mg base (CXe P w) 8 AB A5 ["house","other"] (Gq K C_j0)) (A2:Fun K "sums_alike" "sums_alike" BB AB A5) (Be:AI K A5 ["house","other"] []) (Bf:mg "sums_alike"=some (.ref AB))
   (AE:FnOk P w K mg base CX0 1 AN AX ["script","k"] (KS K)) (AA:Fun K "_law_cell" "_law_cell" BF AN AX) (AF:AI K AX ["script","k"] []) (AG:mg "_law_cell"=some (.ref AN))
   (JU:FnOk P w K mg base CX0 2 EV LM ["cell"] (YN K)) (Ga:Fun K "_law_prime" "_law_prime" DU EV LM) (JV:AI K LM ["cell"] []) (JW:mg "_law_prime"=some (.ref EV))
   (ES:FnOk P w K mg base CX0 4 Cv Fj ["script","at","p","letters","many"] (MM K)) (C3:Fun K "_law_house" "_law_house" CY Cv Fj) (ET:AI K Fj ["script","at","p","letters","many"] []) (EU:mg "_law_house"=some (.ref Cv))
   (DB:FnOk P w K mg base CX0 2 By D9 ["found","letters"] (KY K)) (BY:Fun K "_law_is_word" "_law_is_word" BV By D9) (DC:AI K D9 ["found","letters"] []) (DD:mg "_law_is_word"=some (.ref By))
   (Er:FnOk P w K mg base CX0 3 Cd HH ["one","two","most"] (YU K)) (Ce:Fun K "_law_unlike_at" "_law_unlike_at" BI Cd HH) (Es:AI K HH ["one","two","most"] []) (Et:mg "_law_unlike_at"=some (.ref Cd))
   (Iy:FnOk P w K mg base CX0 7 Eg Ky ["house"] (PU K)) (Fl:Fun K "_law_nought" "_law_nought" C9 Eg Ky) (Iz:AI K Ky ["house"] []) (IA:mg "_law_nought"=some (.ref Eg))
   (IB:FnOk P w K mg base CX0 6 Eh Kz ["one","script","at","way"] (PV K)) (Fm:Fun K "_law_beside" "_law_beside" Dc Eh Kz) (IC:AI K Kz ["one","script","at","way"] []) (ID:mg "_law_beside"=some (.ref Eh))
   (He:FnOk P w K mg base CX0 10 DE JX ["one","cell"] (NL K)) (Eo:Fun K "_law_strange" "_law_strange" CD DE JX) (Hf:AI K JX ["one","cell"] []) (Hg:mg "_law_strange"=some (.ref DE))
   (Gd:FnOk P w K mg base CX0 9 Cf HI ["script","p","cell"] (Ws K)) (Dt:Fun K "_law_wide_good" "_law_wide_good" BJ Cf HI) (Ge:AI K HI ["script","p","cell"] []) (Gf:mg "_law_wide_good"=some (.ref Cf))
  : FnOk P w K mg base CX0 11 f fd ["script"] (Dq_ K):=by
 refine F.ok Ki (fun vs H Q E h=>?_) (fun cdv A outer s H vs Q E hr h=>?_)
 ·obtain⟨a,ns,rfl,_⟩:=h;rfl
 ·obtain⟨a,ns,rfl,hs,hz,k⟩:=h
  have hl:=Au
  refine⟨_,(A8 (Ah (i:=1) Ki.nd (Ai JU (hr.mono (by decide)) rfl JW Ga.kp JV .nil AL (Aa (Ai AE (hr.mono (by decide)) rfl AG AA.kp AF .nil AL (Aa (pvD 0) (Aa Ad Ab))) Ab)))
   (A8 (CI (ptT (AK (opE I0) (Al (opD Bb) (Al (opD Gb) (Ai AE (hr.mono (by decide)) rfl AG AA.kp AF .nil AL (Aa (pvD 0) (Aa Ad Ab))) Ad) Ad) Ad (AQ _)))
   (Ag (Ay (Ai Gd (hr.mono (by decide)) rfl Gf Dt.kp Ge .nil AL (Aa (pvD 0) (Aa (pvD 1) (Aa (Al (opD Gb) (Ai AE (hr.mono (by decide)) rfl AG AA.kp AF .nil AL (Aa (pvD 0) (Aa Ad Ab))) Ad) Ab))))))
   AZ)
   (A8 (Ah (i:=2) Ki.nd (Al (opD0 Bw) (Al (opD0 Bw) Ad (Al (opD Bb) (Ai AE (hr.mono (by decide)) rfl AG AA.kp AF .nil AL (Aa (pvD 0) (Aa Ad Ab))) Ad)) (Al (opD DH) (Al (opD Gb) (Al (opD Bb) (Al (opD Gb) (Ai AE (hr.mono (by decide)) rfl AG AA.kp AF .nil AL (Aa (pvD 0) (Aa Ad Ab))) Ad) Ad) Ad) Ad)))
   (A8 (Ah (i:=3) Ki.nd (Al (opD Bb) (Ai AE (hr.mono (by decide)) rfl AG AA.kp AF .nil AL (Aa (pvD 0) (Aa Ad Ab))) (Az (OK rfl) rfl T.max zg_ (Aa Ad (Aa (Al (opD0 Kg) Ad (pvD 2)) Ab)))))
   (A8 (Ah (i:=4) Ki.nd (Ai AE (hr.mono (by decide)) rfl AG AA.kp AF .nil AL (Aa (pvD 0) (Aa Ad Ab))))
   (A8 (Ah (i:=5) Ki.nd (Ai ES (hr.mono (by decide)) rfl EU C3.kp ET .nil AL (Aa (pvD 0) (Aa Ad (Aa (pvD 1) (Aa (pvD 2) (Aa (pvD 3) Ab)))))))
   (A8 (Ah (i:=6) Ki.nd (Ai IB (hr.mono (by decide)) rfl ID Fm.kp IC .nil AL (Aa (pvD 5) (Aa (pvD 0) (Aa (Al (opD0 Bw) (Al (opD0 Bw) Ad (Al (opD DH) Ad (pvD 3))) (Al (opD DH) (Al (opD DH) (pvD 2) (pvD 3)) (pvD 3))) (Aa (pvD 4) Ab))))))
   (A8 (Ah (i:=7) Ki.nd (Ai Ap (hr.mono (by decide)) rfl Ar An.kp Aq .nil (Jd (P:=P) (w:=w)) (Aa (pvD 5) (Aa (pvD 6) Ab))))
   (A8 (Ah (i:=8) Ki.nd (Ai Bd (hr.mono (by decide)) rfl Bf A2.kp Be .nil (Jd (P:=P) (w:=w)) (Aa (pvD 5) (Aa (pvD 6) Ab))))
   (A8 (CI (PW.pt (NU (Hh (ptB (Gg (Az Ez rfl T.isinstance ql_ (Aa (pvD 8) (Aa (Mn (v:=.ty "bool") rfl T.bool PyProof.Rows.boot_bool rfl) Ab)))))) (NU (ptT (AK (opN OJ) (pvD 8) (HS RP (pvD 7) Gv (AQ _)) (AQ _))) (Nx (ptT (AK (ED_ 8 (hu9 hr)) (Ai Ap (hr.mono (by decide)) rfl Ar An.kp Aq .nil (Jd (P:=P) (w:=w)) (Aa (pvD 6) (Aa (pvD 5) Ab))) (pvD 7) (AQ _)))))))
   (Ag (Ay Gu))
   AZ)
   (A8 (Ah (i:=9) Ki.nd (Az (OK rfl) rfl T.max zg_ (Aa Ad (Aa (Al (opD0 Kg) (Al (opD0 Bw) (Az (lenD Ao) (by rfl) T.len jH_ (Aa (Aj (ixTD Am) (pvD 5) Ad) Ab)) (Az (lenD Ao) (by rfl) T.len jH_ (Aa (Aj (ixTD Am) (pvD 6) Ad) Ab))) Ad) Ab))))
   (G3 (CI (ptT (AK RP (pvD 7) Gv (AQ _)))
   (Ag (CI (PW.pt (NU (ptT (AK Ss (Ai Er (hr.mono (by decide)) rfl Et Ce.kp Es .nil AL (Aa (pvD 5) (Aa (pvD 6) (Aa (pvD 9) Ab)))) Gv (AQ _))) (Nx (Hh (ptB (Gg (Ai Iy (hr.mono (by decide)) rfl IA Fl.kp Iz .nil AL (Aa (Ai KZ (hr.mono (by decide)) rfl K1 GU.kp K0 .nil (Jd (P:=P) (w:=w)) (Aa (pvD 5) (Aa (pvD 6) Ab))) Ab))))))))
   (Ag (Ay Gu))
   AZ))
   (Ag (CI (PW.pt (NU (Hh (ptB (Gg (Ai DB (hr.mono (by decide)) rfl DD BY.kp DC .nil AL (Aa (pvD 7) (Aa (pvD 2) Ab)))))) (NU (ptT (AK (opD0 Fg_) (Az (lenD Ao) (by rfl) T.len jH_ (Aa (pvD 7) Ab)) (pvD 9) (AQ _))) (Nx (ptT (AK (opE I0) (Al (opD Bb) (pvD 4) Ad) Ad (AQ _)))))))
   (Ag (Ay Gu))
   (Ag (CI (ptT (AK (ED_ 8 (hu9 hr)) (Ai Er (hr.mono (by decide)) rfl Et Ce.kp Es .nil AL (Aa (pvD 5) (Aa (pvD 6) (Aa (Az (lenD Ao) (by rfl) T.len jH_ (Aa (pvD 7) Ab)) Ab)))) (pvD 7) (AQ _)))
   (Ag (Ay Gu))
   AZ)))))
   (Ag (Ay (Ai He (hr.mono (by decide)) rfl Hg Eo.kp Hf .nil AL (Aa (pvD 5) (Aa (Al (opD Gb) (Ai AE (hr.mono (by decide)) rfl AG AA.kp AF .nil AL (Aa (pvD 0) (Aa Ad Ab))) Ad) Ab))))))))))))))))),?_⟩
  walk_at "rd"
  refine⟨a,ns,0,rfl,hs,_,rfl,fun p H1 s1 hp=>?_⟩
  have hp1:=hp.1
  have hp2:=hp.2.1
  refine AW ?_
  walk_at "rd"
  refine⟨a,ns,1,rfl,s1.seq hs,_,rfl,⟨by decide,by decide⟩,by decide,ite2 (fun _=>?_) (fun _=>?_)⟩
  ·exact⟨a,ns,1,rfl,s1.seq hs,_,rfl,⟨by decide,by decide⟩,a,ns,p,_,rfl,s1.seq hs,hp,fun H2 _=>k H2⟩
  refine AW ?_
  walk_at "rd"
  refine⟨a,ns,1,rfl,s1.seq hs,_,rfl,by decide,a,ns,1,rfl,s1.seq hs,_,rfl,⟨by decide,by decide⟩,by decide,⟨by decide,by decide⟩,.inr ⟨by decide,by decide⟩,?_⟩
  obtain⟨L,hL,hL1,hL6⟩:∃L:Nat,1+cell ns 1%3+cell ns 1 / 3%4 / 3*3=(L:Int)/\1<=L/\L<=6:=⟨(1+cell ns 1%3+cell ns 1 / 3%4 / 3*3).toNat,by lia,by lia,by lia⟩
  rw[hL]
  refine AW ?_
  walk_at "rd"
  refine⟨a,ns,2,rfl,s1.seq hs,?_⟩
  obtain⟨md,hmd,hmd2⟩:∃md:Int,(if 5-(L:Int) > 2 then 5-(L:Int) else 2)=md/\0<md/\(md=2\/md=5-L)/\2<=md:=⟨_,rfl,by split<;>lia,by split<;>lia,by split<;>lia⟩
  rw[hmd]
  refine⟨_,rfl,hmd2.1,?_⟩
  obtain⟨n,hn,hnb⟩:∃n:Nat,cell ns 2%md=(n:Int)/\(n:Int)<md:=⟨(cell ns 2%md).toNat,by have:=jJ_ (cell ns 2) (show md≠0 by lia);lia,by have:=jJ_ (cell ns 2) (show md≠0 by lia);have:=jE_ (cell ns 2) hmd2.1;lia⟩
  rw[hn]
  have hnL:n+L<=4\/n<=1:=by lia
  have hn3:n<=3:=by lia
  refine AW ?_
  walk_at "rd"
  refine⟨a,ns,3,rfl,s1.seq hs,?_⟩
  obtain⟨wy,hwy⟩:∃wy,wy=cell ns 3:=⟨_,rfl⟩
  rw[<-hwy]
  refine AW ?_
  walk_at "rd"
  refine⟨a,ns,4,p,L,n,rfl,s1.seq hs,by lia,by lia,hp1,hp2,hL1,hL6,by lia,fun h0 f0 l0 t0 H2 s2 hh0 wf0 sm0=>?_⟩
  have s12:=s1.trans s2
  obtain⟨x,hx⟩:∃x:Hs,x=⟨n,f0,t0,l0⟩:=⟨_,rfl⟩
  have hX:Ig K H2 h0 p L x:=by rw[hx];exact hh0
  have okx:x.ok p L:=by rw[hx];exact wf0
  have smx:Sm p x.t:=by rw[hx];exact sm0
  have hxd:x.d=n:=by rw[hx]
  clear hh0 wf0 sm0
  refine AW ?_
  walk_at "rd"
  have hb1:L*n*n<=6*3*3:=qz_ (qz_ hL6 hn3) hn3
  refine⟨.inl ⟨by decide,by decide⟩,.inl ⟨by lia,by lia⟩,.inr ⟨by lia,by lia⟩,h0,a,p,wy,4+2*n+L*n*n,L,ns,x,by push_cast;rfl,s12.seq hs,hX,okx,smx,hL1,hL6,by lia,by lia,fun g y H3 s3 hY oky hyd hW1=>?_⟩
  have hX3:=hX.mono s3
  have h40:x.d+y.d<=40:=by lia
  have h96:(x.d+y.d)*L<=96:=jV_ (qz_ (show x.d+y.d<=7 by lia) hL6) s!""
  have h96':(y.d+x.d)*L<=96:=by rw[Nat.add_comm];exact h96
  obtain⟨tf,tt,tl,q1,q2,q3,q4⟩:=id hX3
  obtain⟨uf,ut,ul,r1,r2,r3,r4⟩:=id hY
  refine AW ?_
  walk_at "rd"
  have em:(if (x.d:Int)+y.d-1 > 0 then (x.d:Int)+y.d-1 else 0)=((x.d+y.d-1:Nat):Int):=by split<;>lia
  have hall:(allW L (x.d+y.d-1)).length<=900:=Ga_ hL1 hL6 hnL s!""
  refine⟨h0,g,p,p,L,L,x,y,rfl,hX3,okx,hY,oky,fun _=>hp,hL1,hL6,h40,h96,fun _ hsame H4 s4=>?_,fun _ t v H4 s4 htv hD hvl=>?_,fun z=>absurd ⟨rfl,rfl⟩ z⟩
  ·refine AW ?_
   walk_at "rd"
   refine⟨h0,g,p,p,L,L,x,y,rfl,hX3.mono s4,okx,hY.mono s4,oky,fun _=>hp,hL1,hL6,h40,h96,fun _ _ H5 s5=>?_,fun _ v H5 s5 hd=>absurd (hsame v hd.1) hd.2.1,fun z=>absurd ⟨rfl,rfl⟩ z⟩
   refine AW ?_
   walk_at "rd"
   refine⟨_,_,.bl true,OS,_,Lg,?_⟩
   rw[if_neg (by decide),if_neg (by simp)]
   have s45:=s4.trans s5
   refine⟨g,h0,p,p,L,L,y,x,rfl,hY.mono s45,oky,hX3.mono s45,okx,fun _=>hp,hL1,hL6,by lia,h96',fun _ _ H6 s6=>⟨_,EqO.non,?_⟩,fun _ t v H6 s6 _ hd _=>absurd (hsame v hd.1).symm hd.2.1,fun z=>absurd ⟨rfl,rfl⟩ z⟩
   rw[if_neg (by simp)]
   have s46:=s45.trans s6
   refine AW ?_
   walk_at "rd"
   refine⟨_,s46.seqT q1,V.ref tf,rfl,tf,rfl,_,.inr (s46.seqT q2),_,s46.seqT r1,V.ref uf,rfl,uf,rfl,_,.inr (s46.seqT r2),?_⟩
   rw[jb_,jb_,okx.f.1,oky.f.1,em]
   obtain⟨R0,hR0⟩:∃R0:St->Hp->Prop,∀σ' H',R0 σ' H'↔(Same H6 H'/\∃o7 o8 o9,σ'=[some (.ref a),some (.int p),some (.int L),some (.int n),some (.int wy),some (.ref h0),some (.ref g),o7,o8,o9]):=⟨_,fun _ _=>qf_⟩
   refine AW ?_
   refine⟨R0,?_,fun σ7 H7 h7=>?_⟩
   ·walk_at "rd"
    refine⟨h0,g,p,L,x.d+y.d-1,x,y,rfl,hX3.mono s46,okx,hY.mono s46,oky,hL1,hL6,by lia,by lia,by lia,hall,.inl ⟨hsame,fun H7 s7=>?_⟩⟩
    have s47:=s46.trans s7
    show if _ then _ else _
    rw[if_neg (by simp)]
    refine⟨h0,g,p,p,L,L,x.d,y.d,x.f,y.f,x.l,y.l,x.t,y.t,rfl,hX3.mono s47,hY.mono s47,okx,oky,by lia,fun _ r H8 s8 hr8=>?_,fun z=>absurd ⟨rfl,rfl,by lia⟩ z⟩
    refine⟨r,p,L,LG p x y,rfl,hp,hr8,LH okx oky h40,hL1,hL6,by show x.d+y.d<=16;lia,fun v hv=>(OF okx oky hv).mpr (hsame v hv),fun H9 s9=>⟨_,rfl,?_⟩⟩
    rw[if_neg (by decide)]
    exact (hR0 _ _).mpr ⟨s7.trans (s8.trans s9),_,_,_,rfl⟩
   ·obtain⟨s7,o7,o8,o9,rfl⟩:=(hR0 _ _).mp h7
    walk_at "rd"
    exact⟨a,ns,1,rfl,(s12.trans (s3.trans (s46.trans s7))).seq hs,_,rfl,⟨by decide,by decide⟩,h0,_,p,L,x,rfl,hX3.mono (s46.trans s7),okx,hL1,hL6,by lia,fun H8 _=>k H8⟩
  ·have hv1:¬ (∀v,isW L v=true->x.W p v=y.W p v):=fun z=>hD.2.1 (z v hD.1)
   refine AW ?_
   walk_at "rd"
   refine⟨h0,g,p,p,L,L,x,y,rfl,hX3.mono s4,okx,hY.mono s4,oky,fun _=>hp,hL1,hL6,h40,h96,fun _ z=>absurd z hv1,fun _ v' H5 s5 hd=>?_,fun z=>absurd ⟨rfl,rfl⟩ z⟩
   refine AW ?_
   walk_at "rd"
   refine⟨_,_,.bl false,OS,_,Lg,?_⟩
   rw[if_neg (by decide),if_neg (by simp)]
   have s45:=s4.trans s5
   refine⟨g,h0,p,p,L,L,y,x,rfl,hY.mono s45,oky,hX3.mono s45,okx,fun _=>hp,hL1,hL6,by lia,h96',fun _ z=>absurd (fun v hv=>(z v hv).symm) hv1,fun _ t2 v2 H6 s6 ht2 hd2 _=>⟨_,EqO.words ht2 ((s5.trans s6).seqT htv),?_⟩,fun z=>absurd ⟨rfl,rfl⟩ z⟩
   have e2:=Df.uniq s!"" hd2.comm hD
   subst e2
   have s46:=s45.trans s6
   rw[qg_ rfl,if_neg (by decide)]
   refine AW ?_
   walk_at "rd"
   refine⟨_,s46.seqT q1,V.ref tf,rfl,tf,rfl,_,.inr (s46.seqT q2),_,s46.seqT r1,V.ref uf,rfl,uf,rfl,_,.inr (s46.seqT r2),?_⟩
   rw[jb_,jb_,okx.f.1,oky.f.1,em]
   obtain⟨R0,hR0⟩:∃R0:St->Hp->Prop,∀σ' H',R0 σ' H'↔(Same H6 H'/\∃o7 o8 o9,σ'=[some (.ref a),some (.int p),some (.int L),some (.int n),some (.int wy),some (.ref h0),some (.ref g),o7,o8,o9]):=⟨_,fun _ _=>qf_⟩
   refine AW ?_
   refine⟨R0,?_,fun σ7 H7 h7=>?_⟩
   ·walk_at "rd"
    have ht6:=(s5.trans s6).seqT htv
    refine⟨t,L,v2,rfl,ht6,hD.1,_,rfl,?_⟩
    rw[if_neg (by decide)]
    refine⟨_,.inr ht6,?_⟩
    rw[jb_,if_neg s!""]
    refine⟨by decide,?_⟩
    rw[if_neg (fun z=>hv1 (hW1 z))]
    refine⟨_,.inr ht6,?_⟩
    rw[jb_]
    refine⟨h0,g,p,L,v2.length,x,y,rfl,hX3.mono s46,okx,hY.mono s46,oky,hL1,hL6,by lia,by lia,by lia,jV_ (F7 (show v2.length<=x.d+y.d-1 by lia)) hall,.inr ⟨v2,hD,jf_ _,fun t3 H7 s7 ht3=>⟨_,EqO.words ht3 (s7.seqT ht6),?_⟩⟩⟩
    rw[qg_ rfl,if_neg (by decide)]
    exact (hR0 _ _).mpr ⟨s7,_,_,_,rfl⟩
   ·obtain⟨s7,o7,o8,o9,rfl⟩:=(hR0 _ _).mp h7
    walk_at "rd"
    exact⟨a,ns,1,rfl,(s12.trans (s3.trans (s46.trans s7))).seq hs,_,rfl,⟨by decide,by decide⟩,h0,_,p,L,x,rfl,hX3.mono (s46.trans s7),okx,hL1,hL6,by lia,fun H8 _=>k H8⟩
end
theorem all_mk {l:PySem.W.OpenLaw}{w:World}{K:α3}{h:Heap}{mg:Str->α5}{fa Hu Ep MG E3 AO B4 Dd BD R5 BZ Hw Hv EA EF Dn EC ED MR Bq EE Fc FH Co ER Ak AB AN CP EV Cp Bk Cb Cv BK Ct Ee EJ Cc CU Ed DA Dz EO By Gr Cd Ef Eg Eh Dx Bm DE FF Cf Gc_:Addr}(X:K.In h)(G:h.Ns mainGlobals mg)(hfa:mg "law"=some (.ref fa))
  {C_j3 C_j0 C_j2 C_j1:Addr}
  {Zs Zt:Option Addr} {Zu:Array (α5)} {Zv Zw Zx Zy Sg Zz:Value}
  {Ce_ Cf_:Option Addr} {Cg_:Array (α5)} {Ch_ Ci_ Cj_ Ck_ Wt Cl_:Value}
  {Dr_ Ds_:Option Addr} {Dt_:Array (α5)} {Du_ Dv_ Dw_ Dx_ YW Dy_:Value}
  {ZA ZC:Option Addr} {ZD:Array (α5)} {ZE ZF ZG ZH Sh ZI:Value}
  {MV MW:Option Addr} {MX:Array (α5)} {MY MZ M0 M3 HJ M4:Value}
  {ZJ ZK:Option Addr} {ZL:Array (α5)} {ZM ZN ZO ZP Si ZQ:Value}
  {Wu Wv:Option Addr} {Ww:Array (α5)} {Wx Wy Wz WA NO WB:Value}
  {K2 K3:Option Addr} {K4:Array (α5)} {K5 K6 K7 K8 GV K9:Value}
  {Gd_ Ge_:Option Addr} {Gf_:Array (α5)} {Gg_ Gh_ Gi_ Gj_ Cm_ Gk_:Value}
  {LN LO:Option Addr} {LP:Array (α5)} {LQ LR LS LU G1 LV:Value}
  {ZR ZS:Option Addr} {ZT:Array (α5)} {ZU ZV ZW ZX Sj ZY:Value}
  {ZZ Z0:Option Addr} {Z5:Array (α5)} {Z6 Z7 Z8 Z9 Sk Aa_:Value}
  {Tr Ts:Option Addr} {Tt:Array (α5)} {Tu Tv Tw Tx LW Tz:Value}
  {TB TC:Option Addr} {TF:Array (α5)} {TH TJ TL TM LX TN:Value}
  {Ab_ Ac_:Option Addr} {Ad_:Array (α5)} {Ae_ Af_ Ag_ Ah_ Sl Ai_:Value}
  {TQ TR:Option Addr} {TU:Array (α5)} {TV TX TY TZ LY T1:Value}
  {T2 T3:Option Addr} {T4:Array (α5)} {T5 T6 T7 T8 LZ T9:Value}
  {Dz_ DA_:Option Addr} {DB_:Array (α5)} {DC_ DD_ DE_ DF_ YX DG_:Value}
  {N5 N6:Option Addr} {N7:Array (α5)} {N8 N9 Oa Ob IJ Oc:Value}
  {Ua Ub:Option Addr} {Uc:Array (α5)} {Ud Ue Ug Uh L3 Ui:Value}
  {Aj_ Ak_:Option Addr} {Al_:Array (α5)} {Am_ An_ Ao_ Ap_ Sn Aq_:Value}
  {WD WE:Option Addr} {WG:Array (α5)} {WH WI WJ WK NQ WL:Value}
  {Uj Uk:Option Addr} {Ul:Array (α5)} {Um Uo Uq Ur L4 Us:Value}
  {Ut Uu:Option Addr} {Uv:Array (α5)} {Uw Ux Uy Uz L5 UA:Value}
  {L6 L7:Option Addr} {L8:Array (α5)} {L9 Ma Mb Mc G2 Md:Value}
  {UB UC:Option Addr} {UD:Array (α5)} {UE UG UH UI Me UJ:Value}
  {WM WN:Option Addr} {WO:Array (α5)} {WQ WR WT WU NR WV:Value}
  {Od Oe:Option Addr} {Of:Array (α5)} {Og Oh Oi Oj IK Ol:Value}
  {UK UL:Option Addr} {UM:Array (α5)} {UN UO UP UQ Mf UR:Value}
  {US UT:Option Addr} {UU:Array (α5)} {UW UX UY UZ Mg U0:Value}
  {QT QU:Option Addr} {QV:Array (α5)} {QW QX QY QZ KA Q0:Value}
  {XS XT:Option Addr} {XU:Array (α5)} {XW XX XY XZ PY X0:Value}
  {U1 U2:Option Addr} {U3:Array (α5)} {U4 U5 U6 U7 Mh U8:Value}
  {WW WX:Option Addr} {WY:Array (α5)} {WZ W0 W2 W3 NS W4:Value}
  {U9 Va:Option Addr} {Vb:Array (α5)} {Vc Vd Ve Vf Mi Vg:Value}
  {Q1 Q2:Option Addr} {Q3:Array (α5)} {Q4 Q5 Q6 Q7 KC Q8:Value}
  {Vh Vi:Option Addr} {Vj:Array (α5)} {Vk Vl Vm Vn Mj Vo:Value}
  {M5 M6:Option Addr} {M7:Array (α5)} {M8 M9 Na Nb HK Nd:Value}
  {Om Oo:Option Addr} {Oq:Array (α5)} {Ot Ou Ov Ow IL Ox:Value}
  {Q9 Ra:Option Addr} {Rb:Array (α5)} {Rc Rf Rg Rh KD Ri:Value}
  {PZ P0:Option Addr} {P4:Array (α5)} {P5 P6 P7 P8 JY P9:Value}
  {Qa Qb:Option Addr} {Qc:Array (α5)} {Qd Qe Qf Qg JZ Qh:Value}
  {Vp Vq:Option Addr} {Vr:Array (α5)} {Vs Vt Vu Vv Ml Vw:Value}
  {Qi Qj:Option Addr} {Qk:Array (α5)} {Ql Qm Qn Qo J1 Qp:Value}
  {X1 X2:Option Addr} {X3:Array (α5)} {X4 X5 X6 X7 Qq X8:Value}
  {Nf Ng:Option Addr} {Nh:Array (α5)} {Ni Nj Nk Nl HN Nm:Value}
  {Rj Rk:Option Addr} {Rl:Array (α5)} {Rm Ro Rp Rq KG Rt:Value}
  {Ru Rv:Option Addr} {Rw:Array (α5)} {Rx Ry Rz RA KH RC:Value}
  {RD RE:Option Addr} {RF:Array (α5)} {RG RH RI RJ KI RK:Value}
  {Qr Qs:Option Addr} {Qt:Array (α5)} {Qu Qv Qw Qx J2 Qy:Value}
  {IQ IS:Option Addr} {IT:Array (α5)} {IU IV IW IX Fs IY:Value}
  {Qz QA:Option Addr} {QB:Array (α5)} {QC QD QE QF J3 QG:Value}
  {W5 W6:Option Addr} {W7:Array (α5)} {W8 W9 Xa Xb NT Xc:Value}
  {Nn Np:Option Addr} {Nq:Array (α5)} {Nr Nt Nu Nv HR Nw:Value}
  {Ic_ EX_:Option Addr} {Id_:Array (α5)} {Ie_ EY_ EZ_ Fa_ Cn_ Fb_:Value}
  {tk_j1j:Tok} (q_j1j:nsIn K mainGlobals "MOST_NUMBERS"=some (some (.int 16 tk_j1j)))
  (a_j1b:nsIn K mainGlobals "inverse"=some (some (.ref Hu)))
  (l_j1b:K.lookup Hu=some ⟨Zv,Zs,.func (fnOf "inverse" "inverse" (Ax GC) (Av GC) (Af GC) .none Zw Zx Zy Zt Sg Zz),Zu⟩)
  (c_j1b:codeIn K Sg "inverse"=true)
  (k_j1b:keepIn K (.ref Hu)=true)
  (a_j1i:nsIn K mainGlobals "scaled"=some (some (.ref Ep)))
  (l_j1i:K.lookup Ep=some ⟨Ch_,Ce_,.func (fnOf "scaled" "scaled" (Ax Gi) (Av Gi) (Af Gi) .none Ci_ Cj_ Ck_ Cf_ Wt Cl_),Cg_⟩)
  (c_j1i:codeIn K Wt "scaled"=true)
  (k_j1i:keepIn K (.ref Ep)=true)
  (a_j1k:nsIn K mainGlobals "added"=some (some (.ref MG)))
  (l_j1k:K.lookup MG=some ⟨Du_,Dr_,.func (fnOf "added" "added" (Ax KN) (Av KN) (Af KN) .none Dv_ Dw_ Dx_ Ds_ YW Dy_),Dt_⟩)
  (c_j1k:codeIn K YW "added"=true)
  (k_j1k:keepIn K (.ref MG)=true)
  (a_j1c:nsIn K mainGlobals "product"=some (some (.ref E3)))
  (l_j1c:K.lookup E3=some ⟨ZE,ZA,.func (fnOf "product" "product" (Ax FP) (Av FP) (Af FP) .none ZF ZG ZH ZC Sh ZI),ZD⟩)
  (c_j1c:codeIn K Sh "product"=true)
  (k_j1c:keepIn K (.ref E3)=true)
  (a_j8:nsIn K mainGlobals "place_of_first"=some (some (.ref AO)))
  (l_j8:K.lookup AO=some ⟨MY,MV,.func (fnOf "place_of_first" "place_of_first" (Ax Bg) (Av Bg) (Af Bg) .none MZ M0 M3 MW HJ M4),MX⟩)
  (c_j8:codeIn K HJ "place_of_first"=true)
  (k_j8:keepIn K (.ref AO)=true)
  (a_j1d:nsIn K mainGlobals "left_of"=some (some (.ref B4)))
  (l_j1d:K.lookup B4=some ⟨ZM,ZJ,.func (fnOf "left_of" "left_of" (Ax Ej) (Av Ej) (Af Ej) .none ZN ZO ZP ZK Si ZQ),ZL⟩)
  (c_j1d:codeIn K Si "left_of"=true)
  (k_j1d:keepIn K (.ref B4)=true)
  (a_j14:nsIn K mainGlobals "with_base"=some (some (.ref Dd)))
  (l_j14:K.lookup Dd=some ⟨Wx,Wu,.func (fnOf "with_base" "with_base" (Ax DL) (Av DL) (Af DL) .none Wy Wz WA Wv NO WB),Ww⟩)
  (c_j14:codeIn K NO "with_base"=true)
  (k_j14:keepIn K (.ref Dd)=true)
  (a_j5:nsIn K mainGlobals "chosen_and_bases"=some (some (.ref BD)))
  (l_j5:K.lookup BD=some ⟨K5,K2,.func (fnOf "chosen_and_bases" "chosen_and_bases" (Ax Bp) (Av Bp) (Af Bp) .none K6 K7 K8 K3 GV K9),K4⟩)
  (c_j5:codeIn K GV "chosen_and_bases"=true)
  (k_j5:keepIn K (.ref BD)=true)
  (a_j1m:nsIn K mainGlobals "unit"=some (some (.ref R5)))
  (l_j1m:K.lookup R5=some ⟨Gg_,Gd_,.func (fnOf "unit" "unit" (Ax OX) (Av OX) (Af OX) .none Gh_ Gi_ Gj_ Ge_ Cm_ Gk_),Gf_⟩)
  (c_j1m:codeIn K Cm_ "unit"=true)
  (k_j1m:keepIn K (.ref R5)=true)
  (a_j6:nsIn K mainGlobals "factors_of_each"=some (some (.ref BZ)))
  (l_j6:K.lookup BZ=some ⟨LQ,LN,.func (fnOf "factors_of_each" "factors_of_each" (Ax Bv) (Av Bv) (Af Bv) .none LR LS LU LO G1 LV),LP⟩)
  (c_j6:codeIn K G1 "factors_of_each"=true)
  (k_j6:keepIn K (.ref BZ)=true)
  (a_j1e:nsIn K mainGlobals "made_of"=some (some (.ref Hw)))
  (l_j1e:K.lookup Hw=some ⟨ZU,ZR,.func (fnOf "made_of" "made_of" (Ax GD) (Av GD) (Af GD) .none ZV ZW ZX ZS Sj ZY),ZT⟩)
  (c_j1e:codeIn K Sj "made_of"=true)
  (k_j1e:keepIn K (.ref Hw)=true)
  (a_j1f:nsIn K mainGlobals "is_word"=some (some (.ref Hv)))
  (l_j1f:K.lookup Hv=some ⟨Z6,ZZ,.func (fnOf "is_word" "is_word" (Ax GF) (Av GF) (Af GF) .none Z7 Z8 Z9 Z0 Sk Aa_),Z5⟩)
  (c_j1f:codeIn K Sk "is_word"=true)
  (k_j1f:keepIn K (.ref Hv)=true)
  (a_jq:nsIn K mainGlobals "check_word"=some (some (.ref EA)))
  (l_jq:K.lookup EA=some ⟨Tu,Tr,.func (fnOf "check_word" "check_word" (Ax DM) (Av DM) (Af DM) .none Tv Tw Tx Ts LW Tz),Tt⟩)
  (c_jq:codeIn K LW "check_word"=true)
  (k_jq:keepIn K (.ref EA)=true)
  (a_jr:nsIn K mainGlobals "check_size"=some (some (.ref EF)))
  (l_jr:K.lookup EF=some ⟨TH,TB,.func (fnOf "check_size" "check_size" (Ax DO) (Av DO) (Af DO) .none TJ TL TM TC LX TN),TF⟩)
  (c_jr:codeIn K LX "check_size"=true)
  (k_jr:keepIn K (.ref EF)=true)
  (a_j1g:nsIn K mainGlobals "stepped"=some (some (.ref Dn)))
  (l_j1g:K.lookup Dn=some ⟨Ae_,Ab_,.func (fnOf "stepped" "stepped" (Ax EX) (Av EX) (Af EX) .none Af_ Ag_ Ah_ Ac_ Sl Ai_),Ad_⟩)
  (c_j1g:codeIn K Sl "stepped"=true)
  (k_j1g:keepIn K (.ref Dn)=true)
  (a_js:nsIn K mainGlobals "rows_along"=some (some (.ref EC)))
  (l_js:K.lookup EC=some ⟨TV,TQ,.func (fnOf "rows_along" "rows_along" (Ax DQ) (Av DQ) (Af DQ) .none TX TY TZ TR LY T1),TU⟩)
  (c_js:codeIn K LY "rows_along"=true)
  (k_js:keepIn K (.ref EC)=true)
  (a_jt:nsIn K mainGlobals "row_behind"=some (some (.ref ED)))
  (l_jt:K.lookup ED=some ⟨T5,T2,.func (fnOf "row_behind" "row_behind" (Ax DR) (Av DR) (Af DR) .none T6 T7 T8 T3 LZ T9),T4⟩)
  (c_jt:codeIn K LZ "row_behind"=true)
  (k_jt:keepIn K (.ref ED)=true)
  (a_j1l:nsIn K mainGlobals "worth"=some (some (.ref MR)))
  (l_j1l:K.lookup MR=some ⟨DC_,Dz_,.func (fnOf "worth" "worth" (Ax KO) (Av KO) (Af KO) .none DD_ DE_ DF_ DA_ YX DG_),DB_⟩)
  (c_j1l:codeIn K YX "worth"=true)
  (k_j1l:keepIn K (.ref MR)=true)
  (a_jc:nsIn K mainGlobals "check_as_many"=some (some (.ref Bq)))
  (l_jc:K.lookup Bq=some ⟨N8,N5,.func (fnOf "check_as_many" "check_as_many" (Ax BA) (Av BA) (Af BA) .none N9 Oa Ob N6 IJ Oc),N7⟩)
  (c_jc:codeIn K IJ "check_as_many"=true)
  (k_jc:keepIn K (.ref Bq)=true)
  (a_ju:nsIn K mainGlobals "table_less"=some (some (.ref EE)))
  (l_ju:K.lookup EE=some ⟨Ud,Ua,.func (fnOf "table_less" "table_less" (Ax DS) (Av DS) (Af DS) .none Ue Ug Uh Ub L3 Ui),Uc⟩)
  (c_ju:codeIn K L3 "table_less"=true)
  (k_ju:keepIn K (.ref EE)=true)
  (a_j1h:nsIn K mainGlobals "less_of"=some (some (.ref Fc)))
  (l_j1h:K.lookup Fc=some ⟨Am_,Aj_,.func (fnOf "less_of" "less_of" (Ax FQ) (Av FQ) (Af FQ) .none An_ Ao_ Ap_ Ak_ Sn Aq_),Al_⟩)
  (c_j1h:codeIn K Sn "less_of"=true)
  (k_j1h:keepIn K (.ref Fc)=true)
  (a_j15:nsIn K mainGlobals "sums_less"=some (some (.ref FH)))
  (l_j15:K.lookup FH=some ⟨WH,WD,.func (fnOf "sums_less" "sums_less" (Ax Eu) (Av Eu) (Af Eu) .none WI WJ WK WE NQ WL),WG⟩)
  (c_j15:codeIn K NQ "sums_less"=true)
  (k_j15:keepIn K (.ref FH)=true)
  (a_jv:nsIn K mainGlobals "basis_rows"=some (some (.ref Co)))
  (l_jv:K.lookup Co=some ⟨Um,Uj,.func (fnOf "basis_rows" "basis_rows" (Ax CV) (Av CV) (Af CV) .none Uo Uq Ur Uk L4 Us),Ul⟩)
  (c_jv:codeIn K L4 "basis_rows"=true)
  (k_jv:keepIn K (.ref Co)=true)
  (a_jw:nsIn K mainGlobals "sums_basis"=some (some (.ref ER)))
  (l_jw:K.lookup ER=some ⟨Uw,Ut,.func (fnOf "sums_basis" "sums_basis" (Ax DT) (Av DT) (Af DT) .none Ux Uy Uz Uu L5 UA),Uv⟩)
  (c_jw:codeIn K L5 "sums_basis"=true)
  (k_jw:keepIn K (.ref ER)=true)
  (a_j7:nsIn K mainGlobals "sums_difference"=some (some (.ref Ak)))
  (l_j7:K.lookup Ak=some ⟨L9,L6,.func (fnOf "sums_difference" "sums_difference" (Ax AM) (Av AM) (Af AM) .none Ma Mb Mc L7 G2 Md),L8⟩)
  (c_j7:codeIn K G2 "sums_difference"=true)
  (k_j7:keepIn K (.ref Ak)=true)
  (a_jx:nsIn K mainGlobals "sums_alike"=some (some (.ref AB)))
  (l_jx:K.lookup AB=some ⟨UE,UB,.func (fnOf "sums_alike" "sums_alike" (Ax BB) (Av BB) (Af BB) .none UG UH UI UC Me UJ),UD⟩)
  (c_jx:codeIn K Me "sums_alike"=true)
  (k_jx:keepIn K (.ref AB)=true)
  (a_j16:nsIn K mainGlobals "_law_cell"=some (some (.ref AN)))
  (l_j16:K.lookup AN=some ⟨WQ,WM,.func (fnOf "_law_cell" "_law_cell" (Ax BF) (Av BF) (Af BF) .none WR WT WU WN NR WV),WO⟩)
  (c_j16:codeIn K NR "_law_cell"=true)
  (k_j16:keepIn K (.ref AN)=true)
  (a_jd:nsIn K mainGlobals "_law_is_prime"=some (some (.ref CP)))
  (l_jd:K.lookup CP=some ⟨Og,Od,.func (fnOf "_law_is_prime" "_law_is_prime" (Ax B1) (Av B1) (Af B1) .none Oh Oi Oj Oe IK Ol),Of⟩)
  (c_jd:codeIn K IK "_law_is_prime"=true)
  (k_jd:keepIn K (.ref CP)=true)
  (a_jy:nsIn K mainGlobals "_law_prime"=some (some (.ref EV)))
  (l_jy:K.lookup EV=some ⟨UN,UK,.func (fnOf "_law_prime" "_law_prime" (Ax DU) (Av DU) (Af DU) .none UO UP UQ UL Mf UR),UM⟩)
  (c_jy:codeIn K Mf "_law_prime"=true)
  (k_jy:keepIn K (.ref EV)=true)
  (a_jz:nsIn K mainGlobals "_law_whole"=some (some (.ref Cp)))
  (l_jz:K.lookup Cp=some ⟨UW,US,.func (fnOf "_law_whole" "_law_whole" (Ax CW) (Av CW) (Af CW) .none UX UY UZ UT Mg U0),UU⟩)
  (c_jz:codeIn K Mg "_law_whole"=true)
  (k_jz:keepIn K (.ref Cp)=true)
  (a_jk:nsIn K mainGlobals "_law_number"=some (some (.ref Bk)))
  (l_jk:K.lookup Bk=some ⟨QW,QT,.func (fnOf "_law_number" "_law_number" (Ax BN) (Av BN) (Af BN) .none QX QY QZ QU KA Q0),QV⟩)
  (c_jk:codeIn K KA "_law_number"=true)
  (k_jk:keepIn K (.ref Bk)=true)
  (a_j19:nsIn K mainGlobals "_law_row"=some (some (.ref Cb)))
  (l_j19:K.lookup Cb=some ⟨XW,XS,.func (fnOf "_law_row" "_law_row" (Ax Ec) (Av Ec) (Af Ec) .none XX XY XZ XT PY X0),XU⟩)
  (c_j19:codeIn K PY "_law_row"=true)
  (k_j19:keepIn K (.ref Cb)=true)
  (a_j10:nsIn K mainGlobals "_law_house"=some (some (.ref Cv)))
  (l_j10:K.lookup Cv=some ⟨U4,U1,.func (fnOf "_law_house" "_law_house" (Ax CY) (Av CY) (Af CY) .none U5 U6 U7 U2 Mh U8),U3⟩)
  (c_j10:codeIn K Mh "_law_house"=true)
  (k_j10:keepIn K (.ref Cv)=true)
  (a_j17:nsIn K mainGlobals "_law_step"=some (some (.ref BK)))
  (l_j17:K.lookup BK=some ⟨WZ,WW,.func (fnOf "_law_step" "_law_step" (Ax C5) (Av C5) (Af C5) .none W0 W2 W3 WX NS W4),WY⟩)
  (c_j17:codeIn K NS "_law_step"=true)
  (k_j17:keepIn K (.ref BK)=true)
  (a_j11:nsIn K mainGlobals "_law_times"=some (some (.ref Ct)))
  (l_j11:K.lookup Ct=some ⟨Vc,U9,.func (fnOf "_law_times" "_law_times" (Ax CZ) (Av CZ) (Af CZ) .none Vd Ve Vf Va Mi Vg),Vb⟩)
  (c_j11:codeIn K Mi "_law_times"=true)
  (k_j11:keepIn K (.ref Ct)=true)
  (a_jl:nsIn K mainGlobals "_law_behind"=some (some (.ref Ee)))
  (l_jl:K.lookup Ee=some ⟨Q4,Q1,.func (fnOf "_law_behind" "_law_behind" (Ax C6) (Av C6) (Af C6) .none Q5 Q6 Q7 Q2 KC Q8),Q3⟩)
  (c_jl:codeIn K KC "_law_behind"=true)
  (k_jl:keepIn K (.ref Ee)=true)
  (a_j12:nsIn K mainGlobals "_law_grown"=some (some (.ref EJ)))
  (l_j12:K.lookup EJ=some ⟨Vk,Vh,.func (fnOf "_law_grown" "_law_grown" (Ax DV) (Av DV) (Af DV) .none Vl Vm Vn Vi Mj Vo),Vj⟩)
  (c_j12:codeIn K Mj "_law_grown"=true)
  (k_j12:keepIn K (.ref EJ)=true)
  (a_j9:nsIn K mainGlobals "_law_column_on"=some (some (.ref Cc)))
  (l_j9:K.lookup Cc=some ⟨M8,M5,.func (fnOf "_law_column_on" "_law_column_on" (Ax BG) (Av BG) (Af BG) .none M9 Na Nb M6 HK Nd),M7⟩)
  (c_j9:codeIn K HK "_law_column_on"=true)
  (k_j9:keepIn K (.ref Cc)=true)
  (a_je:nsIn K mainGlobals "_law_row_less"=some (some (.ref CU)))
  (l_je:K.lookup CU=some ⟨Ot,Om,.func (fnOf "_law_row_less" "_law_row_less" (Ax B2) (Av B2) (Af B2) .none Ou Ov Ow Oo IL Ox),Oq⟩)
  (c_je:codeIn K IL "_law_row_less"=true)
  (k_je:keepIn K (.ref CU)=true)
  (a_jm:nsIn K mainGlobals "_law_turned"=some (some (.ref Ed)))
  (l_jm:K.lookup Ed=some ⟨Rc,Q9,.func (fnOf "_law_turned" "_law_turned" (Ax C7) (Av C7) (Af C7) .none Rf Rg Rh Ra KD Ri),Rb⟩)
  (c_jm:codeIn K KD "_law_turned"=true)
  (k_jm:keepIn K (.ref Ed)=true)
  (a_jf:nsIn K mainGlobals "_law_another"=some (some (.ref DA)))
  (l_jf:K.lookup DA=some ⟨P5,PZ,.func (fnOf "_law_another" "_law_another" (Ax Cy) (Av Cy) (Af Cy) .none P6 P7 P8 P0 JY P9),P4⟩)
  (c_jf:codeIn K JY "_law_another"=true)
  (k_jf:keepIn K (.ref DA)=true)
  (a_jg:nsIn K mainGlobals "_law_list_by"=some (some (.ref Dz)))
  (l_jg:K.lookup Dz=some ⟨Qd,Qa,.func (fnOf "_law_list_by" "_law_list_by" (Ax Cz) (Av Cz) (Af Cz) .none Qe Qf Qg Qb JZ Qh),Qc⟩)
  (c_jg:codeIn K JZ "_law_list_by"=true)
  (k_jg:keepIn K (.ref Dz)=true)
  (a_j13:nsIn K mainGlobals "_law_mixed"=some (some (.ref EO)))
  (l_j13:K.lookup EO=some ⟨Vs,Vp,.func (fnOf "_law_mixed" "_law_mixed" (Ax DW) (Av DW) (Af DW) .none Vt Vu Vv Vq Ml Vw),Vr⟩)
  (c_j13:codeIn K Ml "_law_mixed"=true)
  (k_j13:keepIn K (.ref EO)=true)
  (a_jh:nsIn K mainGlobals "_law_is_word"=some (some (.ref By)))
  (l_jh:K.lookup By=some ⟨Ql,Qi,.func (fnOf "_law_is_word" "_law_is_word" (Ax BV) (Av BV) (Af BV) .none Qm Qn Qo Qj J1 Qp),Qk⟩)
  (c_jh:codeIn K J1 "_law_is_word"=true)
  (k_jh:keepIn K (.ref By)=true)
  (a_j1a:nsIn K mainGlobals "_law_all"=some (some (.ref Gr)))
  (l_j1a:K.lookup Gr=some ⟨X4,X1,.func (fnOf "_law_all" "_law_all" (Ax Fx) (Av Fx) (Af Fx) .none X5 X6 X7 X2 Qq X8),X3⟩)
  (c_j1a:codeIn K Qq "_law_all"=true)
  (k_j1a:keepIn K (.ref Gr)=true)
  (a_ja:nsIn K mainGlobals "_law_unlike_at"=some (some (.ref Cd)))
  (l_ja:K.lookup Cd=some ⟨Ni,Nf,.func (fnOf "_law_unlike_at" "_law_unlike_at" (Ax BI) (Av BI) (Af BI) .none Nj Nk Nl Ng HN Nm),Nh⟩)
  (c_ja:codeIn K HN "_law_unlike_at"=true)
  (k_ja:keepIn K (.ref Cd)=true)
  (a_jn:nsIn K mainGlobals "_law_closed"=some (some (.ref Ef)))
  (l_jn:K.lookup Ef=some ⟨Rm,Rj,.func (fnOf "_law_closed" "_law_closed" (Ax C8) (Av C8) (Af C8) .none Ro Rp Rq Rk KG Rt),Rl⟩)
  (c_jn:codeIn K KG "_law_closed"=true)
  (k_jn:keepIn K (.ref Ef)=true)
  (a_jo:nsIn K mainGlobals "_law_nought"=some (some (.ref Eg)))
  (l_jo:K.lookup Eg=some ⟨Rx,Ru,.func (fnOf "_law_nought" "_law_nought" (Ax C9) (Av C9) (Af C9) .none Ry Rz RA Rv KH RC),Rw⟩)
  (c_jo:codeIn K KH "_law_nought"=true)
  (k_jo:keepIn K (.ref Eg)=true)
  (a_jp:nsIn K mainGlobals "_law_beside"=some (some (.ref Eh)))
  (l_jp:K.lookup Eh=some ⟨RG,RD,.func (fnOf "_law_beside" "_law_beside" (Ax Dc) (Av Dc) (Af Dc) .none RH RI RJ RE KI RK),RF⟩)
  (c_jp:codeIn K KI "_law_beside"=true)
  (k_jp:keepIn K (.ref Eh)=true)
  (a_ji:nsIn K mainGlobals "_law_refused"=some (some (.ref Dx)))
  (l_ji:K.lookup Dx=some ⟨Qu,Qr,.func (fnOf "_law_refused" "_law_refused" (Ax CC) (Av CC) (Af CC) .none Qv Qw Qx Qs J2 Qy),Qt⟩)
  (c_ji:codeIn K J2 "_law_refused"=true)
  (k_ji:keepIn K (.ref Dx)=true)
  (a_j4:nsIn K mainGlobals "_law_refused_by_any"=some (some (.ref Bm)))
  (l_j4:K.lookup Bm=some ⟨IU,IQ,.func (fnOf "_law_refused_by_any" "_law_refused_by_any" (Ax A7) (Av A7) (Af A7) .none IV IW IX IS Fs IY),IT⟩)
  (c_j4:codeIn K Fs "_law_refused_by_any"=true)
  (k_j4:keepIn K (.ref Bm)=true)
  (a_jj:nsIn K mainGlobals "_law_strange"=some (some (.ref DE)))
  (l_jj:K.lookup DE=some ⟨QC,Qz,.func (fnOf "_law_strange" "_law_strange" (Ax CD) (Av CD) (Af CD) .none QD QE QF QA J3 QG),QB⟩)
  (c_jj:codeIn K J3 "_law_strange"=true)
  (k_jj:keepIn K (.ref DE)=true)
  (a_j18:nsIn K mainGlobals "_law_line"=some (some (.ref FF)))
  (l_j18:K.lookup FF=some ⟨W8,W5,.func (fnOf "_law_line" "_law_line" (Ax Ew) (Av Ew) (Af Ew) .none W9 Xa Xb W6 NT Xc),W7⟩)
  (c_j18:codeIn K NT "_law_line"=true)
  (k_j18:keepIn K (.ref FF)=true)
  (a_jb:nsIn K mainGlobals "_law_wide_good"=some (some (.ref Cf)))
  (l_jb:K.lookup Cf=some ⟨Nr,Nn,.func (fnOf "_law_wide_good" "_law_wide_good" (Ax BJ) (Av BJ) (Af BJ) .none Nt Nu Nv Np HR Nw),Nq⟩)
  (c_jb:codeIn K HR "_law_wide_good"=true)
  (k_jb:keepIn K (.ref Cf)=true)
  (a_j1n:nsIn K mainGlobals "law"=some (some (.ref Gc_)))
  (l_j1n:K.lookup Gc_=some ⟨Ie_,Ic_,.func (fnOf "law" "law" (Ax SW) (Av SW) (Af SW) .none EY_ EZ_ Fa_ EX_ Cn_ Fb_),Id_⟩)
  (c_j1n:codeIn K Cn_ "law"=true)
  (k_j1n:keepIn K (.ref Gc_)=true)
  (z_ValueError:nsIn K mainGlobals "ValueError"=some none)
  (z_all:nsIn K mainGlobals "all"=some none)
  (z_bool:nsIn K mainGlobals "bool"=some none)
  (z_enumerate:nsIn K mainGlobals "enumerate"=some none)
  (z_int:nsIn K mainGlobals "int"=some none)
  (z_isinstance:nsIn K mainGlobals "isinstance"=some none)
  (z_len:nsIn K mainGlobals "len"=some none)
  (z_list:nsIn K mainGlobals "list"=some none)
  (z_max:nsIn K mainGlobals "max"=some none)
  (z_range:nsIn K mainGlobals "range"=some none)
  (z_sum:nsIn K mainGlobals "sum"=some none)
  (z_tuple:nsIn K mainGlobals "tuple"=some none)
  (z_zip:nsIn K mainGlobals "zip"=some none)
  (m_j3:nsIn K mainGlobals "AskError"=some (some (.ref C_j3)))
  (m_j0:nsIn K mainGlobals "BadHouse"=some (some (.ref C_j0)))
  (m_j2:nsIn K mainGlobals "BadWord"=some (some (.ref C_j2)))
  (m_j1:nsIn K mainGlobals "NoInverse"=some (some (.ref C_j1)))
  (x_j0:PySem.W.excIn K C_j0 bmV "ValueError.__new__"=true)
  (ga_j0:PySem.W.findIn K (.ref C_j0) "__getattribute__"=some (some (.builtin "BaseException.__getattribute__")))
  (hk_j0:PySem.W.findIn K (.ref C_j0) "__getattr__"=some none)
  {cd_j0:ClassData}
  (cl_j0:PySem.W.clsIn K C_j0=some cd_j0)
  (ca_j0:PySem.W.findIn K (.ref C_j0) "__class__"=some (some (.builtin "object.__class__")))
  (mo_j0:PySem.W.mroIn K C_j0 (.type "object")=some true)
  (mb_j0:PySem.W.mroIn K C_j0 (.type "BaseException")=some true)
  (e_j0:exmOne K (.ref C_j0) (.ref C_j3)=some true)
  (v_j0:kitOne K (.ref C_j0) (.type "ValueError")=some true)
  (ee_j0:exmOne K (.ref C_j0) (.ref C_j0)=some true)
  (k_j0_j3:kitOne K (.ref C_j0) (.ref C_j3)=some true)
  (k_j0_j0:kitOne K (.ref C_j0) (.ref C_j0)=some true)
  (k_j0_j2:kitOne K (.ref C_j0) (.ref C_j2)=some false)
  (k_j0_j1:kitOne K (.ref C_j0) (.ref C_j1)=some false)
  (x_j2:PySem.W.excIn K C_j2 bmV "ValueError.__new__"=true)
  (ga_j2:PySem.W.findIn K (.ref C_j2) "__getattribute__"=some (some (.builtin "BaseException.__getattribute__")))
  (hk_j2:PySem.W.findIn K (.ref C_j2) "__getattr__"=some none)
  {cd_j2:ClassData}
  (cl_j2:PySem.W.clsIn K C_j2=some cd_j2)
  (ca_j2:PySem.W.findIn K (.ref C_j2) "__class__"=some (some (.builtin "object.__class__")))
  (mo_j2:PySem.W.mroIn K C_j2 (.type "object")=some true)
  (mb_j2:PySem.W.mroIn K C_j2 (.type "BaseException")=some true)
  (e_j2:exmOne K (.ref C_j2) (.ref C_j3)=some true)
  (v_j2:kitOne K (.ref C_j2) (.type "ValueError")=some true)
  (ee_j2:exmOne K (.ref C_j2) (.ref C_j2)=some true)
  (k_j2_j3:kitOne K (.ref C_j2) (.ref C_j3)=some true)
  (k_j2_j0:kitOne K (.ref C_j2) (.ref C_j0)=some false)
  (k_j2_j2:kitOne K (.ref C_j2) (.ref C_j2)=some true)
  (k_j2_j1:kitOne K (.ref C_j2) (.ref C_j1)=some false)
  (x_j1:PySem.W.excIn K C_j1 bmV "ValueError.__new__"=true)
  (ga_j1:PySem.W.findIn K (.ref C_j1) "__getattribute__"=some (some (.builtin "BaseException.__getattribute__")))
  (hk_j1:PySem.W.findIn K (.ref C_j1) "__getattr__"=some none)
  {cd_j1:ClassData}
  (cl_j1:PySem.W.clsIn K C_j1=some cd_j1)
  (ca_j1:PySem.W.findIn K (.ref C_j1) "__class__"=some (some (.builtin "object.__class__")))
  (mo_j1:PySem.W.mroIn K C_j1 (.type "object")=some true)
  (mb_j1:PySem.W.mroIn K C_j1 (.type "BaseException")=some true)
  (e_j1:exmOne K (.ref C_j1) (.ref C_j3)=some true)
  (v_j1:kitOne K (.ref C_j1) (.type "ValueError")=some true)
  (ee_j1:exmOne K (.ref C_j1) (.ref C_j1)=some true)
  (k_j1_j3:kitOne K (.ref C_j1) (.ref C_j3)=some true)
  (k_j1_j0:kitOne K (.ref C_j1) (.ref C_j0)=some false)
  (k_j1_j2:kitOne K (.ref C_j1) (.ref C_j2)=some false)
  (k_j1_j1:kitOne K (.ref C_j1) (.ref C_j1)=some true)
  (gs:PySem.W.specialIn K (.builtin "object.__class__") "__get__"=some (some (.builtin "getset_descriptor.__get__")))
  (tk:PySem.W.takesIn K (.builtin "object.__class__")=some true)
  : ∃fd:α6,(∀(s:Shared) (v:Value),BindsTo s fd ⟨[v],[]⟩ [("script",v)])/\∀base:Heap,K.In base->base.Ns mainGlobals mg->FnOk l.prog w K mg base CX0 11 fa fd ["script"] (Dq_ K):=by
 have e:=hfa.symm.trans (jr_ X G a_j1n)
 cases e
 have T:Txt mg:=⟨qc_ X G z_ValueError,qc_ X G z_all,qc_ X G z_bool,qc_ X G z_enumerate,qc_ X G z_int,qc_ X G z_isinstance,qc_ X G z_len,qc_ X G z_list,qc_ X G z_max,qc_ X G z_range,qc_ X G z_sum,qc_ X G z_tuple,qc_ X G z_zip⟩
 have Z:Exs K mg C_j3 C_j0 C_j2 C_j1:=⟨jr_ X G m_j3,jr_ X G m_j0,jr_ X G m_j2,jr_ X G m_j1,x_j0,⟨ga_j0,hk_j0,by rw[cl_j0];rfl,ca_j0,gs,tk,mo_j0,mb_j0⟩,e_j0,v_j0,ee_j0,k_j0_j3,k_j0_j0,k_j0_j2,k_j0_j1,x_j2,⟨ga_j2,hk_j2,by rw[cl_j2];rfl,ca_j2,gs,tk,mo_j2,mb_j2⟩,e_j2,v_j2,ee_j2,k_j2_j3,k_j2_j0,k_j2_j2,k_j2_j1,x_j1,⟨ga_j1,hk_j1,by rw[cl_j1];rfl,ca_j1,gs,tk,mo_j1,mb_j1⟩,e_j1,v_j1,ee_j1,k_j1_j3,k_j1_j0,k_j1_j2,k_j1_j1⟩
 have W:Own K mg:=⟨⟨_,jr_ X G q_j1j⟩⟩
 have Jn:=AS (st:=GC) l_j1b c_j1b k_j1b
 have Pb:=Jn.binds (ps:=["p","number"]) fun _ _ _ _ _ _ us hl=>(by obtain⟨y0,y1,rfl⟩:=len2 hl;rfl)
 have Pd:=jr_ X G a_j1b
 have E4:=AS (st:=Gi) l_j1i c_j1i k_j1i
 have Gm:=E4.binds (ps:=["p","factor","row"]) fun _ _ _ _ _ _ us hl=>(by obtain⟨y0,y1,y2,rfl⟩:=len3 hl;rfl)
 have Gn:=jr_ X G a_j1i
 have O8:=AS (st:=KN) l_j1k c_j1k k_j1k
 have Xy:=O8.binds (ps:=["p","row","other"]) fun _ _ _ _ _ _ us hl=>(by obtain⟨y0,y1,y2,rfl⟩:=len3 hl;rfl)
 have Xz:=jr_ X G a_j1k
 have FT:=AS (st:=FP) l_j1c c_j1c k_j1c
 have Hr:=FT.binds (ps:=["p","row","other"]) fun _ _ _ _ _ _ us hl=>(by obtain⟨y0,y1,y2,rfl⟩:=len3 hl;rfl)
 have Ht:=jr_ X G a_j1c
 have A0:=AS (st:=Bg) l_j8 c_j8 k_j8
 have Bi:=A0.binds (ps:=["row"]) fun _ _ _ _ _ _ us hl=>(by obtain⟨y0,rfl⟩:=len1 hl;rfl)
 have Bj:=jr_ X G a_j8
 have Ck:=AS (st:=Ej) l_j1d c_j1d k_j1d
 have Dk:=Ck.binds (ps:=["p","bases","row"]) fun _ _ _ _ _ _ us hl=>(by obtain⟨y0,y1,y2,rfl⟩:=len3 hl;rfl)
 have Dm:=jr_ X G a_j1d
 have DY:=AS (st:=DL) l_j14 c_j14 k_j14
 have Fz:=DY.binds (ps:=["p","bases","left","place"]) fun _ _ _ _ _ _ us hl=>(by obtain⟨y0,y1,y2,y3,rfl⟩:=len4 hl;rfl)
 have FA:=jr_ X G a_j14
 have Cm:=AS (st:=Bp) l_j5 c_j5 k_j5
 have E6:=Cm.binds (ps:=["p","rows","size"]) fun _ _ _ _ _ _ us hl=>(by obtain⟨y0,y1,y2,rfl⟩:=len3 hl;rfl)
 have E7:=jr_ X G a_j5
 have V7:=AS (st:=OX) l_j1m c_j1m k_j1m
 have BR_:=V7.binds (ps:=["size","place"]) fun _ _ _ _ _ _ us hl=>(by obtain⟨y0,y1,rfl⟩:=len2 hl;rfl)
 have BS_:=jr_ X G a_j1m
 have CO:=AS (st:=Bv) l_j6 c_j6 k_j6
 have FD:=CO.binds (ps:=["p","rows","some","size"]) fun _ _ _ _ _ _ us hl=>(by obtain⟨y0,y1,y2,y3,rfl⟩:=len4 hl;rfl)
 have FE:=jr_ X G a_j6
 have Jp:=AS (st:=GD) l_j1e c_j1e k_j1e
 have Pk:=Jp.binds (ps:=["p","rows","parts","size"]) fun _ _ _ _ _ _ us hl=>(by obtain⟨y0,y1,y2,y3,rfl⟩:=len4 hl;rfl)
 have Pl:=jr_ X G a_j1e
 have Jo:=AS (st:=GF) l_j1f c_j1f k_j1f
 have Pg:=Jo.binds (ps:=["letters","word"]) fun _ _ _ _ _ _ us hl=>(by obtain⟨y0,y1,rfl⟩:=len2 hl;rfl)
 have Ph:=jr_ X G a_j1f
 have FX:=AS (st:=DM) l_jq c_jq k_jq
 have Jr:=FX.binds (ps:=["letters","word"]) fun _ _ _ _ _ _ us hl=>(by obtain⟨y0,y1,rfl⟩:=len2 hl;rfl)
 have Js:=jr_ X G a_jq
 have F4:=AS (st:=DO) l_jr c_jr k_jr
 have JE:=F4.binds (ps:=["size"]) fun _ _ _ _ _ _ us hl=>(by obtain⟨y0,rfl⟩:=len1 hl;rfl)
 have JF:=jr_ X G a_jr
 have DZ:=AS (st:=EX) l_j1g c_j1g k_j1g
 have E9:=DZ.binds (ps:=["house","row","letter"]) fun _ _ _ _ _ _ us hl=>(by obtain⟨y0,y1,y2,rfl⟩:=len3 hl;rfl)
 have Fb:=jr_ X G a_j1g
 have FY:=AS (st:=DQ) l_js c_js k_js
 have Ju:=FY.binds (ps:=["house","word"]) fun _ _ _ _ _ _ us hl=>(by obtain⟨y0,y1,rfl⟩:=len2 hl;rfl)
 have Jv:=jr_ X G a_js
 have FZ:=AS (st:=DR) l_jt c_jt k_jt
 have Jx:=FZ.binds (ps:=["house","word"]) fun _ _ _ _ _ _ us hl=>(by obtain⟨y0,y1,rfl⟩:=len2 hl;rfl)
 have Jy:=jr_ X G a_jt
 have PL:=AS (st:=KO) l_j1l c_j1l k_j1l
 have XN:=PL.binds (ps:=["house","word"]) fun _ _ _ _ _ _ us hl=>(by obtain⟨y0,y1,rfl⟩:=len2 hl;rfl)
 have XO:=jr_ X G a_j1l
 have BC:=AS (st:=BA) l_jc c_jc k_jc
 have CM:=BC.binds (ps:=["house","other"]) fun _ _ _ _ _ _ us hl=>(by obtain⟨y0,y1,rfl⟩:=len2 hl;rfl)
 have CN:=jr_ X G a_jc
 have F0:=AS (st:=DS) l_ju c_ju k_ju
 have JA:=F0.binds (ps:=["table","other"]) fun _ _ _ _ _ _ us hl=>(by obtain⟨y0,y1,rfl⟩:=len2 hl;rfl)
 have JC:=jr_ X G a_ju
 have F5:=AS (st:=FQ) l_j1h c_j1h k_j1h
 have Hz:=F5.binds (ps:=["house","other"]) fun _ _ _ _ _ _ us hl=>(by obtain⟨y0,y1,rfl⟩:=len2 hl;rfl)
 have HD:=jr_ X G a_j1h
 have GU:=AS (st:=Eu) l_j15 c_j15 k_j15
 have K0:=GU.binds (ps:=["house","other"]) fun _ _ _ _ _ _ us hl=>(by obtain⟨y0,y1,rfl⟩:=len2 hl;rfl)
 have K1:=jr_ X G a_j15
 have C0:=AS (st:=CV) l_jv c_jv k_jv
 have EH:=C0.binds (ps:=["house"]) fun _ _ _ _ _ _ us hl=>(by obtain⟨y0,rfl⟩:=len1 hl;rfl)
 have EI:=jr_ X G a_jv
 have F9:=AS (st:=DT) l_jw c_jw k_jw
 have JR:=F9.binds (ps:=["house"]) fun _ _ _ _ _ _ us hl=>(by obtain⟨y0,rfl⟩:=len1 hl;rfl)
 have JS:=jr_ X G a_jw
 have An:=AS (st:=AM) l_j7 c_j7 k_j7
 have Aq:=An.binds (ps:=["house","other"]) fun _ _ _ _ _ _ us hl=>(by obtain⟨y0,y1,rfl⟩:=len2 hl;rfl)
 have Ar:=jr_ X G a_j7
 have A2:=AS (st:=BB) l_jx c_jx k_jx
 have Be:=A2.binds (ps:=["house","other"]) fun _ _ _ _ _ _ us hl=>(by obtain⟨y0,y1,rfl⟩:=len2 hl;rfl)
 have Bf:=jr_ X G a_jx
 have AA:=AS (st:=BF) l_j16 c_j16 k_j16
 have AF:=AA.binds (ps:=["script","k"]) fun _ _ _ _ _ _ us hl=>(by obtain⟨y0,y1,rfl⟩:=len2 hl;rfl)
 have AG:=jr_ X G a_j16
 have D0:=AS (st:=B1) l_jd c_jd k_jd
 have GL:=D0.binds (ps:=["number"]) fun _ _ _ _ _ _ us hl=>(by obtain⟨y0,rfl⟩:=len1 hl;rfl)
 have GN:=jr_ X G a_jd
 have Ga:=AS (st:=DU) l_jy c_jy k_jy
 have JV:=Ga.binds (ps:=["cell"]) fun _ _ _ _ _ _ us hl=>(by obtain⟨y0,rfl⟩:=len1 hl;rfl)
 have JW:=jr_ X G a_jy
 have C2:=AS (st:=CW) l_jz c_jz k_jz
 have EL:=C2.binds (ps:=["found"]) fun _ _ _ _ _ _ us hl=>(by obtain⟨y0,rfl⟩:=len1 hl;rfl)
 have EM:=jr_ X G a_jz
 have Br:=AS (st:=BN) l_jk c_jk k_jk
 have BQ:=Br.binds (ps:=["script","k","p"]) fun _ _ _ _ _ _ us hl=>(by obtain⟨y0,y1,y2,rfl⟩:=len3 hl;rfl)
 have BR:=jr_ X G a_jk
 have B0:=AS (st:=Ec) l_j19 c_j19 k_j19
 have CS:=B0.binds (ps:=["script","at","many","p"]) fun _ _ _ _ _ _ us hl=>(by obtain⟨y0,y1,y2,y3,rfl⟩:=len4 hl;rfl)
 have CT:=jr_ X G a_j19
 have C3:=AS (st:=CY) l_j10 c_j10 k_j10
 have ET:=C3.binds (ps:=["script","at","p","letters","many"]) fun _ _ _ _ _ _ us hl=>(by obtain⟨y0,y1,y2,y3,y4,rfl⟩:=len5 hl;rfl)
 have EU:=jr_ X G a_j10
 have B5:=AS (st:=C5) l_j17 c_j17 k_j17
 have Dh:=B5.binds (ps:=["p","row","table"]) fun _ _ _ _ _ _ us hl=>(by obtain⟨y0,y1,y2,rfl⟩:=len3 hl;rfl)
 have Di:=jr_ X G a_j17
 have Cu:=AS (st:=CZ) l_j11 c_j11 k_j11
 have D7:=Cu.binds (ps:=["p","one","two"]) fun _ _ _ _ _ _ us hl=>(by obtain⟨y0,y1,y2,rfl⟩:=len3 hl;rfl)
 have D8:=jr_ X G a_j11
 have Fh:=AS (st:=C6) l_jl c_jl k_jl
 have Im:=Fh.binds (ps:=["house","word"]) fun _ _ _ _ _ _ us hl=>(by obtain⟨y0,y1,rfl⟩:=len2 hl;rfl)
 have Io:=jr_ X G a_jl
 have F6:=AS (st:=DV) l_j12 c_j12 k_j12
 have JH:=F6.binds (ps:=["house","script","at"]) fun _ _ _ _ _ _ us hl=>(by obtain⟨y0,y1,y2,rfl⟩:=len3 hl;rfl)
 have JI:=jr_ X G a_j12
 have BL:=AS (st:=BG) l_j9 c_j9 k_j9
 have Dr:=BL.binds (ps:=["p","row","i","j","times"]) fun _ _ _ _ _ _ us hl=>(by obtain⟨y0,y1,y2,y3,y4,rfl⟩:=len5 hl;rfl)
 have Ds:=jr_ X G a_j9
 have D3:=AS (st:=B2) l_je c_je k_je
 have GP:=D3.binds (ps:=["p","row","times","other"]) fun _ _ _ _ _ _ us hl=>(by obtain⟨y0,y1,y2,y3,rfl⟩:=len4 hl;rfl)
 have GQ:=jr_ X G a_je
 have Fe:=AS (st:=C7) l_jm c_jm k_jm
 have Ij:=Fe.binds (ps:=["house","i","j","times"]) fun _ _ _ _ _ _ us hl=>(by obtain⟨y0,y1,y2,y3,rfl⟩:=len4 hl;rfl)
 have Ik:=jr_ X G a_jm
 have Em:=AS (st:=Cy) l_jf c_jf k_jf
 have Hc:=Em.binds (ps:=["house","script","at"]) fun _ _ _ _ _ _ us hl=>(by obtain⟨y0,y1,y2,rfl⟩:=len3 hl;rfl)
 have Hd:=jr_ X G a_jf
 have El:=AS (st:=Cz) l_jg c_jg k_jg
 have G9:=El.binds (ps:=["p","found","many"]) fun _ _ _ _ _ _ us hl=>(by obtain⟨y0,y1,y2,rfl⟩:=len3 hl;rfl)
 have Ha:=jr_ X G a_jg
 have F8:=AS (st:=DW) l_j13 c_j13 k_j13
 have JN:=F8.binds (ps:=["p","rows","amounts","size"]) fun _ _ _ _ _ _ us hl=>(by obtain⟨y0,y1,y2,y3,rfl⟩:=len4 hl;rfl)
 have JO:=jr_ X G a_j13
 have BY:=AS (st:=BV) l_jh c_jh k_jh
 have DC:=BY.binds (ps:=["found","letters"]) fun _ _ _ _ _ _ us hl=>(by obtain⟨y0,y1,rfl⟩:=len2 hl;rfl)
 have DD:=jr_ X G a_jh
 have Gs:=AS (st:=Fx) l_j1a c_j1a k_j1a
 have Ka:=Gs.binds (ps:=["house","most"]) fun _ _ _ _ _ _ us hl=>(by obtain⟨y0,y1,rfl⟩:=len2 hl;rfl)
 have Kb:=jr_ X G a_j1a
 have Ce:=AS (st:=BI) l_ja c_ja k_ja
 have Es:=Ce.binds (ps:=["one","two","most"]) fun _ _ _ _ _ _ us hl=>(by obtain⟨y0,y1,y2,rfl⟩:=len3 hl;rfl)
 have Et:=jr_ X G a_ja
 have Fi:=AS (st:=C8) l_jn c_jn k_jn
 have Iq:=Fi.binds (ps:=["house","words","rows","amounts"]) fun _ _ _ _ _ _ us hl=>(by obtain⟨y0,y1,y2,y3,rfl⟩:=len4 hl;rfl)
 have Ir:=jr_ X G a_jn
 have Fl:=AS (st:=C9) l_jo c_jo k_jo
 have Iz:=Fl.binds (ps:=["house"]) fun _ _ _ _ _ _ us hl=>(by obtain⟨y0,rfl⟩:=len1 hl;rfl)
 have IA:=jr_ X G a_jo
 have Fm:=AS (st:=Dc) l_jp c_jp k_jp
 have IC:=Fm.binds (ps:=["one","script","at","way"]) fun _ _ _ _ _ _ us hl=>(by obtain⟨y0,y1,y2,y3,rfl⟩:=len4 hl;rfl)
 have ID:=jr_ X G a_jp
 have Dy:=AS (st:=CC) l_ji c_ji k_ji
 have FN:=Dy.binds (ps:=["deed","one","two"]) fun _ _ _ _ _ _ us hl=>(by obtain⟨y0,y1,y2,rfl⟩:=len3 hl;rfl)
 have FO:=jr_ X G a_ji
 have Bn:=AS (st:=A7) l_j4 c_j4 k_j4
 have Cr:=Bn.binds (ps:=["deed","one","two"]) fun _ _ _ _ _ _ us hl=>(by obtain⟨y0,y1,y2,rfl⟩:=len3 hl;rfl)
 have Cs:=jr_ X G a_j4
 have Eo:=AS (st:=CD) l_jj c_jj k_jj
 have Hf:=Eo.binds (ps:=["one","cell"]) fun _ _ _ _ _ _ us hl=>(by obtain⟨y0,y1,rfl⟩:=len2 hl;rfl)
 have Hg:=jr_ X G a_jj
 have FG:=AS (st:=Ew) l_j18 c_j18 k_j18
 have Iv:=FG.binds (ps:=["p","last"]) fun _ _ _ _ _ _ us hl=>(by obtain⟨y0,y1,rfl⟩:=len2 hl;rfl)
 have Iw:=jr_ X G a_j18
 have Dt:=AS (st:=BJ) l_jb c_jb k_jb
 have Ge:=Dt.binds (ps:=["script","p","cell"]) fun _ _ _ _ _ _ us hl=>(by obtain⟨y0,y1,y2,rfl⟩:=len3 hl;rfl)
 have Gf:=jr_ X G a_jb
 have If_:=AS (st:=SW) l_j1n c_j1n k_j1n
 have Ix_:=If_.binds (ps:=["script"]) fun _ _ _ _ _ _ us hl=>(by obtain⟨y0,rfl⟩:=len1 hl;rfl)
 have Iy_:=jr_ X G a_j1n
 refine⟨fnOf "law" "law" (Ax SW) (Av SW) (Af SW) .none EY_ EZ_ Fa_ EX_ Cn_ Fb_,fun s v=>.of_eq rfl,fun base _ _=>?_⟩
 have O9:=Zi (P:=l.prog) (w:=w) (base:=base) Jn T W Z
 have Gk:=BN_ (P:=l.prog) (w:=w) (base:=base) E4 T W Z
 have Xx:=De_ (P:=l.prog) (w:=w) (base:=base) O8 T W Z
 have Ho:=Zj (P:=l.prog) (w:=w) (base:=base) FT T W Z
 have Bh:=MF (P:=l.prog) (w:=w) (base:=base) A0 T W Z
 have Dj:=Zl (P:=l.prog) (w:=w) (base:=base) Ck T W Z Gk E4 Gm Gn Xx O8 Xy Xz
 have Fy:=V4 (P:=l.prog) (w:=w) (base:=base) DY T W Z O9 Jn Pb Pd Gk E4 Gm Gn Dj Ck Dk Dm
 have E5:=KR (P:=l.prog) (w:=w) (base:=base) Cm T W Z Bh A0 Bi Bj Dj Ck Dk Dm Fy DY Fz FA
 have BP_:=FV_ (P:=l.prog) (w:=w) (base:=base) V7 T W Z
 have FC:=Lq (P:=l.prog) (w:=w) (base:=base) CO T W Z Bh A0 Bi Bj Dj Ck Dk Dm E5 Cm E6 E7 BP_ V7 BR_ BS_
 have Pj:=Zk (P:=l.prog) (w:=w) (base:=base) Jp T W Z Ho FT Hr Ht
 have Pf:=Zn (P:=l.prog) (w:=w) (base:=base) Jo T W Z
 have Jq:=S4 (P:=l.prog) (w:=w) (base:=base) FX T W Z Pf Jo Pg Ph
 have JD:=S8 (P:=l.prog) (w:=w) (base:=base) F4 T W Z
 have E8:=Zo (P:=l.prog) (w:=w) (base:=base) DZ T W Z Pj Jp Pk Pl
 have Jt:=S5 (P:=l.prog) (w:=w) (base:=base) FY T W Z Jq FX Jr Js E8 DZ E9 Fb
 have Jw:=S6 (P:=l.prog) (w:=w) (base:=base) FZ T W Z Jt FY Ju Jv
 have XM:=Dg_ (P:=l.prog) (w:=w) (base:=base) PL T W Z Ho FT Hr Ht Jw FZ Jx Jy
 have CL:=N1 (P:=l.prog) (w:=w) (base:=base) BC T W Z
 have Jz:=S9 (P:=l.prog) (w:=w) (base:=base) F0 T W Z
 have Hx:=Zp (P:=l.prog) (w:=w) (base:=base) F5 T W Z Gk E4 Gm Gn Jz F0 JA JC
 have KZ:=Wa (P:=l.prog) (w:=w) (base:=base) GU T W Z JD F4 JE JF CL BC CM CN Hx F5 Hz HD
 have EG:=Tc (P:=l.prog) (w:=w) (base:=base) C0 T W Z Bh A0 Bi Bj Dj Ck Dk Dm Fy DY Fz FA E8 DZ E9 Fb
 have JQ:=Td (P:=l.prog) (w:=w) (base:=base) F9 T W Z FC CO FD FE E8 DZ E9 Fb EG C0 EH EI
 have Ap:=LI (P:=l.prog) (w:=w) (base:=base) An T W Z XM PL XN XO CL BC CM CN Hx F5 Hz HD EG C0 EH EI
 have Bd:=Tq (P:=l.prog) (w:=w) (base:=base) A2 T W Z Ap An Aq Ar
 have AE:=Wc (P:=l.prog) (w:=w) (base:=base) AA T W Z
 have GK:=N2 (P:=l.prog) (w:=w) (base:=base) D0 T W Z
 have JU:=Tf (P:=l.prog) (w:=w) (base:=base) Ga T W Z GK D0 GL GN
 have EK:=Th (P:=l.prog) (w:=w) (base:=base) C2 T W Z
 have BP:=QN (P:=l.prog) (w:=w) (base:=base) Br T W Z AE AA AF AG
 have CQ:=XD (P:=l.prog) (w:=w) (base:=base) B0 T W Z BP Br BQ BR
 have ES:=Tj (P:=l.prog) (w:=w) (base:=base) C3 T W Z CQ B0 CS CT
 have De:=We (P:=l.prog) (w:=w) (base:=base) B5 T W Z
 have D4:=Ti (P:=l.prog) (w:=w) (base:=base) Cu T W Z
 have Il:=QO (P:=l.prog) (w:=w) (base:=base) Fh T W Z De B5 Dh Di
 have JG:=Tn (P:=l.prog) (w:=w) (base:=base) F6 T W Z AE AA AF AG BP Br BQ BR CQ B0 CS CT
 have Dq:=MQ (P:=l.prog) (w:=w) (base:=base) BL T W Z
 have GO:=N4 (P:=l.prog) (w:=w) (base:=base) D3 T W Z
 have Ii:=QP (P:=l.prog) (w:=w) (base:=base) Fe T W Z Dq BL Dr Ds GO D3 GP GQ
 have Hb:=Py (P:=l.prog) (w:=w) (base:=base) Em T W Z AE AA AF AG BP Br BQ BR JG F6 JH JI Ii Fe Ij Ik
 have G8:=PJ (P:=l.prog) (w:=w) (base:=base) El T W Z EK C2 EL EM
 have JL:=To (P:=l.prog) (w:=w) (base:=base) F8 T W Z
 have DB:=PD (P:=l.prog) (w:=w) (base:=base) BY T W Z EK C2 EL EM
 have J9:=XJ (P:=l.prog) (w:=w) (base:=base) Gs T W Z De B5 Dh Di
 have Er:=MS (P:=l.prog) (w:=w) (base:=base) Ce T W Z D4 Cu D7 D8 J9 Gs Ka Kb
 have Ip:=QQ (P:=l.prog) (w:=w) (base:=base) Fi T W Z De B5 Dh Di G8 El G9 Ha JL F8 JN JO
 have Iy:=QR (P:=l.prog) (w:=w) (base:=base) Fl T W Z JQ F9 JR JS D4 Cu D7 D8 Il Fh Im Io Ip Fi Iq Ir
 have IB:=QS (P:=l.prog) (w:=w) (base:=base) Fm T W Z AE AA AF AG ES C3 ET EU Hb Em Hc Hd
 have FL:=PM (P:=l.prog) (w:=w) (base:=base) Dy T W Z Ap An Aq Ar Bd A2 Be Bf
 have Cq:=IP (P:=l.prog) (w:=w) (base:=base) Bn T W Z Ap An Aq Ar Bd A2 Be Bf
 have He:=PN (P:=l.prog) (w:=w) (base:=base) Eo T W Z Ap An Aq Ar Bd A2 Be Bf FL Dy FN FO Cq Bn Cr Cs
 have Iu:=Wq (P:=l.prog) (w:=w) (base:=base) FG T W Z
 have Gd:=MU (P:=l.prog) (w:=w) (base:=base) Dt T W Z Ap An Aq Ar Bd A2 Be Bf AE AA AF AG CQ B0 CS CT DB BY DC DD Iu FG Iv Iw
 have Iw_:=Ib_ (P:=l.prog) (w:=w) (base:=base) If_ T W Z KZ GU K0 K1 Ap An Aq Ar Bd A2 Be Bf AE AA AF AG JU Ga JV JW ES C3 ET EU DB BY DC DD Er Ce Es Et Iy Fl Iz IA IB Fm IC ID He Eo Hf Hg Gd Dt Ge Gf
 exact Iw_
theorem walk {l:PySem.W.OpenLaw}{q:Program}{loose:List Str}{XP:(Str->α5)->Heap->Prop}{YP:World->Heap->Prop}{d:DefRec}{K:Params->α3}(hn:l.most=some 63)(hdf:d.params.defaults=[])
  (hY:∀(w:World) (h:Heap),YP w h->(K w.params).In h)
  (F:∀(w:World) (mg:Str->α5) (fa:Addr) (h:Heap),(K w.params).In h->h.Ns mainGlobals mg->mg d.name=some (.ref fa) ->
   ∃fd:α6,(∀(s:Shared) (u:Value),BindsTo s fd ⟨[u],[]⟩ [("script",u)])/\∀base:Heap,(K w.params).In base->base.Ns mainGlobals mg->FnOk l.prog w (K w.params) mg base CX0 11 fa fd ["script"] (Dq_ (K w.params))):
  PySem.W.WalkO q loose XP YP l.row.toRowW d [] (fun f vs=>PySem.call f vs):=
 L2.walk_of (n:=63) (k:=11) (x := "script") (CX:=fun _=>CX0) (sp:=fun w=>Dq_ (K w.params)) hn (by decide) hdf ⟨rfl,by decide,by decide⟩ hY F (fun _ _ a ns hl _ hS=>⟨a,ns,rfl,hS,hl,fun _=>rfl⟩) fun _ _ _ _ _ z=>z
end Mine
structure PySem.W.Fast:Prop where (tw4221011501021697510 tw11031839737219568306 tw11408121561576591199 tw8220230409055978452 tw447115655670762358 tw900955160573981977 tw17894626276648373891 tw9980604770204400704 tw12764561153707295834 tw1345920772512823146 tw16050796428793006507 tw3525656999661486354 tw15022948894686329563 tw1102165216823020939 tw10128758718598462504 tw18198046793839168889 tw16176325101156106108 tw13892365121192380945 tw403529903036052096 tw13318848717550367252 tw768432784452710698 tw16599852787635309539 tw16847621418089995125 tw13652436627604126610 tw9117700255232241219 tw17963578100252939933 tw11362665297773514020 tw14635040071671997727 tw2290203492615732523 tw10782858613180506316 tw15433028366756006564 tw3846832299396816334 tw11787225844884259719 tw352875145632138266 tw7775176641403309301 tw3969943414618260595 tw6790617419611945098 tw5632897985029490982 tw17209899630262517079 tw12873879562690759619 tw16635267790985953130 tw17944909853864967743 tw4490551542483902734 tw14549992451525904999 tw3978707867368636337 tw14219448553336203873 tw15679795976547401821 tw3355321334694148202 tw1355365851741632629 tw17629083876781728313 tw4819738963910560852 tw10042259825580506197 tw17969650174233958188 tw14033737540992787282 tw18323839662496190234 tw16050375735721710369 tw5366010469116202809 tw12006006976425450469 tw15737897292131110198 tw1805130198416808105 tw8651250141164466447 tw13757045784243140182 tw4620468527393435766 tw2312458152858470297 tw8334957066142812704 tw12095025250518618681 tw11038959981228274068 tw5177574246743817123 tw4474312730526703187 tw5250294643036724920 tw635305842562809098 tw716553357558825608 tw8572135430701801634 tw1578694542601247497 tw4084972700879379814 tw13341122403098624912 tw12637849096392748579 tw8424805411983105474 tw15020800842820132554 tw15808611002363387835 tw9826504788518783528 tw420114012726994556 tw15759158396383728817 tw12265385379082879228 tw17890116078464262738 tw17930924832725566835 tw6069186424168300724 tw4709163482147556462 tw1128382577789510401 tw3873289956751446277 tw3953517775051748552 tw13004969323735496184 tw13956635406188988787 tw7361447774788117862 tw5765500513520695160 tw5986620954643395174 tw10687135109985987398 tw7762230228070429401 tw6855044934801388284 tw2794902976636467543 tw9236650400159178223 tw12652316135912930299 tw7343324967857916278 tw13127429912008665655 tw5890712305154543852 tw15109889018865883434 tw7660220806187814051 tw12354720892175433196 tw13689250415435300597 tw10489146758218957635 tw8694074514623000225 tw16523314125058261910 tw18156777290444680800 tw15576271266589027867 tw510292654893852098 tw11278477042812401295 tw7183864839776963484 tw15662538071400506755 tw8854986052492243951 tw9705195946497251862 tw12506528423812115689 tw12424355023455939616 tw5940709495810971041 tw8767281416339751301 tw16190191235098330132 tw14888459716359387447 tw2565855273636421591 tw10166238878311417162 tw5480768569834876765 tw7945234268890838227 tw17307356383116161800 tw11419542645285248746 tw2287057951915905607 tw13245842023536287687 tw1820877949335340418 tw12513513577119793125 tw4137572053442333372 tw5550448800789023066 tw4556478797948176610 tw7486724308618016133 tw10535103134523191952 tw959785535900571888 tw4447449580296501941 tw36716198584840547 tw16160201402154405118 tw11420573704969309063 tw3587529804324597111 tw18290230349926441843 tw14390883484011515539 tw7939354551004207336 tw7453796595894015157 tw8013838502009187326 tw14791384921522279905 tw17229121498587331704 tw7462895417046575853 tw94105392187991685 tw4598065402121403756 tw607514543444801089 tw4598576066209345962 tw8072997097484998122 tw9646396585947243926 tw1591230712405985463 tw4884448187190037760 tw15672024670521841020 tw17295093041283848421 tw5041242738169523514 tw9723290318341844746 tw7594064314264473682 tw9687162339445969875 tw13852080239079797884 tw16285300233740730791 tw18410265274788016901 tw1456919964245080382 tw12003959610975791488 tw5962263926490558875 tw2817434915014760844 tw8907735816550004655 tw4555412535134473394 tw17905551620571968789 tw2957720662396606527 tw14949182972144036706 tw7741330713818947156 tw2758630657270407042 tw3836432470614017150 tw6625880733140231015 tw1709960088330758295 tw3422519780907847399 tw5359952862117814935 tw530248170455377514 tw2592070184587462493 tw12369014800266311502 tw18053802966580222845 tw14981191854727328924 tw9336363222719333196 tw11456893163746652608 tw5277368748078047867 tw15222819268052423943 tw17318044293660134121 tw7876825794958665605 tw13819736269605129419 tw17285500786852636154 tw3020542354735572519 tw11247203277085506457 tw6582508691852418274 tw544238843428301331 tw1449139214709594361 tw15797201106409965314 tw2434981231643550302 tw6029792943276388168 tw6033867186939305473 tw1618234629475556109 tw5253303397953269633 tw16273605481621514086 tw16899292948365571799 tw14225533112931303627 tw13022446139247034393 tw5200794405841070323 tw15884586998701344074 tw6661446165249871247 tw9309866180377553073 tw5818720065130198178 tw10615016502751111465 tw3394223805973689378 tw14644521692246782000 tw10415137444301094110 tw16701149483569336110 tw12917910128689360759 tw4807611999590270800 tw15750901211190159435 tw4924682013613708642 tw15789029126073795053 tw17399321432703992548 tw6670543104068116313 tw6031243589920751294 tw3717056640225090188 tw5163221441683175256 tw6363742688192949984 tw12510847306066632605 tw8740818482760548809 tw3540949769436689520 tw1859863223593369993 tw18283342921622585151 tw5563674146678153908 tw7469144830379671650 tw18295565138386861808 tw8313179112147384030 tw14385697614585605995 tw18052941341169610912 tw15735139248097008637 tw6503240052668596852 tw7925278149339268475 tw8909801596128677705 tw8494550733119072694 tw13032422269550674550 tw5286846964401075088 tw15595561651656865911 tw11495403626206016455 tw58116863965364955 tw8825233369012729363 tw10667108895013799503 tw17668809664836092338 tw17198774989831870289 tw15677294568433281940 tw12157080511712271999 tw11338963244063366460 tw17862182980893687490 tw16562890658370447147 tw17849803174194746233 tw7874623119051257338 tw16759391205837347581 tw17887083127935285569 tw74615997648759169 tw5407423411911853065 tw1177619903870290551 tw17142274373020506059 tw3064044919437040763 tw4840107960455260015 tw13364307501710005835 tw7669941014565242043 tw16268643581563719416 tw2335659649853844498 tw16686224896222114094 tw2152195766798620485 tw17151005948964506151 tw869010080295886080 tw8103069915033788212 tw13343889441749081760 tw17066632326487709837 tw7017594066441779966 tw7868463577006832015 tw4601171287732697149 tw14359287768873003891 tw8094062874631463415 tw15760517957232797410 tw16175414363792410974 tw5114289869857304849 tw6651418403011554062 tw911905385483373072 tw932400017840942488 tw12800403520492724162 tw7344720783780129397 tw11544626178051188256 tw12503278147138353120 tw16094463432636013829 tw3643242439946669068 tw7417172746891986550 tw16672682726282757118 tw327537324732102902 tw7301401309541209185 tw10150166480353076994 tw11708509813557372482 tw11396986357674183681 tw13129557482436938164 tw18403477865838489845 tw3247927059629640597 tw17580293747281128960 tw6437312072662868651 tw1894315269840565020 tw847330882824639661 tw16454104926625403699 tw3489502151142624379 tw320448138937350175 tw14651589345623804527 tw17662346072067546851 tw1011514456669707490 tw2314268259674647650 tw13051732389363926980 tw12487378072282420207 tw15000734246542741508 tw15694130962980252346 tw9135945907488112122 tw13822632209382442332 tw9210442793149105095 tw6267523728982751044 tw12126151043477416129 tw11978392011961349274 tw6376864442801426811 tw11391328382187051924 tw3868130425454113154 tw17810165178125840822 tw8914237489664610556 tw5070891456367622173 tw11919598998939617447 tw1910796884946750845 tw4460400640598356796 tw7690919776621608716 tw1061933829670908558 tw12385538018100555836 tw15848701319827997004 tw10941805643911654145 tw926451996254884541 tw10080789907698659995 tw15783696547565598175 tw585511663265742871 tw15639995152697283644 tw10872867823707077892 tw163348032723814527 tw6007581372420328495 tw7454647937571032726 tw17837825543973785278 tw14494228076178558642 tw8697001003961609713 tw10012772307441151532 tw13225529921591539810 tw15807151680270078247 tw9943127514391745067 tw6398277683489345654 tw13133920784358924732 tw16404834477467900301 tw12849717687439933829 tw14396795005312274333 tw6401526720377736824 tw14921070642802340291 tw6818073413162551585 tw6320150771738126876 tw13402228869321550485 tw15641109794467726379 tw11820760112962170639 tw17607218114156721963 tw13514505807592281426 tw16127038042398810490 tw8310604907650034337 tw13514537692043264314 tw3042758553112672711 tw12548511786974057046 tw8628001438944551557 tw15453043961789489915 tw1378414863153304589 tw15698796114647164835 tw11174180153699510299 tw1451995771183203574 tw11022009539762126737 tw11775756828673355323 tw11490670666144723443 tw1272130000856250266 tw7271530895780417852 tw16843287531572470563 tw554321971981762980 tw10312751630928887839 tw17522313545100831784 tw15746216188342515391 tw14581657511766694484 tw13621805695759238692 tw12517336092790434529 tw7068085705150874356 tw5721879488795659720 tw12735329732034860149 tw18060590063299046083 tw8679528774491060412 tw5382281794465430497 tw5353382777453551482 tw5146420142559681919 tw12278729637345129042 tw14527607415884155365 tw2245874386585180568 tw818624939774522614 tw2398877091099918537 tw5558222554951012835 tw5640989932821582322 tw6815784217564826536 tw12478232028904370784 tw11541718692793560150 tw14684833901969768877 tw6924541701046064290 tw3205291868071708784 tw17277771391113937515 tw7191726700074762040 tw7398049459722875906 tw13109465196069543319 tw4022352593639594347 tw10035298921374831843 tw14796857387363005228 tw4454174777388781810 tw6819499077513453915 tw17364536395920404488 tw9530053919932305014 tw6972468882105524241 tw5507776750034454807 tw11052814659597045747 tw16244986022105517740 tw14642988712784168375 tw9913599667013440908 tw11298411632735523831 tw6071382363492448706 tw4097924885330367330 tw12708368194794475338 tw5401713200132526261 tw7689649674362009488 tw6832608344112065561 tw1038831418243713721 tw15858727493369034758 tw17922053754858222177 tw9670884869810843644:True)
open PySem PySem.W PyProof.Rows
set_option maxRecDepth 100000 in
set_option maxHeartbeats 0 in
theorem PySem.Challenge.cw_guessroom_k68_whole_difference_holds : PySem.Challenge.rw_guessroom_k68_whole_difference.Holds := by
  w_on; o_law; k_head; (case hw => w_witness2)
  k_fill
  refine Mine.walk (l := PySem.Challenge.rw_guessroom_k68_whole_difference) rfl rfl (fun w h Y => PySem.W.kIn_of Y) ?F
  case F =>
    intro w mg fa h KX G hmg
    refine' Mine.all_mk KX G hmg ?q_j1j ?a_j1b ?l_j1b ?c_j1b ?k_j1b ?a_j1i ?l_j1i ?c_j1i ?k_j1i ?a_j1k ?l_j1k ?c_j1k ?k_j1k ?a_j1c ?l_j1c ?c_j1c ?k_j1c ?a_j8 ?l_j8 ?c_j8 ?k_j8 ?a_j1d ?l_j1d ?c_j1d ?k_j1d ?a_j14 ?l_j14 ?c_j14 ?k_j14 ?a_j5 ?l_j5 ?c_j5 ?k_j5 ?a_j1m ?l_j1m ?c_j1m ?k_j1m ?a_j6 ?l_j6 ?c_j6 ?k_j6 ?a_j1e ?l_j1e ?c_j1e ?k_j1e ?a_j1f ?l_j1f ?c_j1f ?k_j1f ?a_jq ?l_jq ?c_jq ?k_jq ?a_jr ?l_jr ?c_jr ?k_jr ?a_j1g ?l_j1g ?c_j1g ?k_j1g ?a_js ?l_js ?c_js ?k_js ?a_jt ?l_jt ?c_jt ?k_jt ?a_j1l ?l_j1l ?c_j1l ?k_j1l ?a_jc ?l_jc ?c_jc ?k_jc ?a_ju ?l_ju ?c_ju ?k_ju ?a_j1h ?l_j1h ?c_j1h ?k_j1h ?a_j15 ?l_j15 ?c_j15 ?k_j15 ?a_jv ?l_jv ?c_jv ?k_jv ?a_jw ?l_jw ?c_jw ?k_jw ?a_j7 ?l_j7 ?c_j7 ?k_j7 ?a_jx ?l_jx ?c_jx ?k_jx ?a_j16 ?l_j16 ?c_j16 ?k_j16 ?a_jd ?l_jd ?c_jd ?k_jd ?a_jy ?l_jy ?c_jy ?k_jy ?a_jz ?l_jz ?c_jz ?k_jz ?a_jk ?l_jk ?c_jk ?k_jk ?a_j19 ?l_j19 ?c_j19 ?k_j19 ?a_j10 ?l_j10 ?c_j10 ?k_j10 ?a_j17 ?l_j17 ?c_j17 ?k_j17 ?a_j11 ?l_j11 ?c_j11 ?k_j11 ?a_jl ?l_jl ?c_jl ?k_jl ?a_j12 ?l_j12 ?c_j12 ?k_j12 ?a_j9 ?l_j9 ?c_j9 ?k_j9 ?a_je ?l_je ?c_je ?k_je ?a_jm ?l_jm ?c_jm ?k_jm ?a_jf ?l_jf ?c_jf ?k_jf ?a_jg ?l_jg ?c_jg ?k_jg ?a_j13 ?l_j13 ?c_j13 ?k_j13 ?a_jh ?l_jh ?c_jh ?k_jh ?a_j1a ?l_j1a ?c_j1a ?k_j1a ?a_ja ?l_ja ?c_ja ?k_ja ?a_jn ?l_jn ?c_jn ?k_jn ?a_jo ?l_jo ?c_jo ?k_jo ?a_jp ?l_jp ?c_jp ?k_jp ?a_ji ?l_ji ?c_ji ?k_ji ?a_j4 ?l_j4 ?c_j4 ?k_j4 ?a_jj ?l_jj ?c_jj ?k_jj ?a_j18 ?l_j18 ?c_j18 ?k_j18 ?a_jb ?l_jb ?c_jb ?k_jb ?a_j1n ?l_j1n ?c_j1n ?k_j1n ?z_ValueError ?z_all ?z_bool ?z_enumerate ?z_int ?z_isinstance ?z_len ?z_list ?z_max ?z_range ?z_sum ?z_tuple ?z_zip ?m_j3 ?m_j0 ?m_j2 ?m_j1 ?x_j0 ?ga_j0 ?hk_j0 ?cl_j0 ?ca_j0 ?mo_j0 ?mb_j0 ?e_j0 ?v_j0 ?ee_j0 ?k_j0_j3 ?k_j0_j0 ?k_j0_j2 ?k_j0_j1 ?x_j2 ?ga_j2 ?hk_j2 ?cl_j2 ?ca_j2 ?mo_j2 ?mb_j2 ?e_j2 ?v_j2 ?ee_j2 ?k_j2_j3 ?k_j2_j0 ?k_j2_j2 ?k_j2_j1 ?x_j1 ?ga_j1 ?hk_j1 ?cl_j1 ?ca_j1 ?mo_j1 ?mb_j1 ?e_j1 ?v_j1 ?ee_j1 ?k_j1_j3 ?k_j1_j0 ?k_j1_j2 ?k_j1_j1 ?gs ?tk
    (case q_j1j|a_j1b|l_j1b|c_j1b|k_j1b|a_j1i|l_j1i|c_j1i|k_j1i|a_j1k|l_j1k|c_j1k|k_j1k|a_j1c|l_j1c|c_j1c|k_j1c|a_j8|l_j8|c_j8|k_j8|a_j1d|l_j1d|c_j1d|k_j1d|a_j14|l_j14|c_j14|k_j14|a_j5|l_j5|c_j5|k_j5|a_j1m|l_j1m|c_j1m|k_j1m|a_j6|l_j6|c_j6=>k_is)
    (case k_j6|a_j1e|l_j1e|c_j1e|k_j1e|a_j1f|l_j1f|c_j1f|k_j1f|a_jq|l_jq|c_jq|k_jq|a_jr|l_jr|c_jr|k_jr|a_j1g|l_j1g|c_j1g|k_j1g|a_js|l_js|c_js|k_js|a_jt|l_jt|c_jt|k_jt|a_j1l|l_j1l|c_j1l|k_j1l|a_jc|l_jc|c_jc|k_jc|a_ju|l_ju|c_ju=>k_is)
    (case k_ju|a_j1h|l_j1h|c_j1h|k_j1h|a_j15|l_j15|c_j15|k_j15|a_jv|l_jv|c_jv|k_jv|a_jw|l_jw|c_jw|k_jw|a_j7|l_j7|c_j7|k_j7|a_jx|l_jx|c_jx|k_jx|a_j16|l_j16|c_j16|k_j16|a_jd|l_jd|c_jd|k_jd|a_jy|l_jy|c_jy|k_jy|a_jz|l_jz|c_jz=>k_is)
    (case k_jz|a_jk|l_jk|c_jk|k_jk|a_j19|l_j19|c_j19|k_j19|a_j10|l_j10|c_j10|k_j10|a_j17|l_j17|c_j17|k_j17|a_j11|l_j11|c_j11|k_j11|a_jl|l_jl|c_jl|k_jl|a_j12|l_j12|c_j12|k_j12|a_j9|l_j9|c_j9|k_j9|a_je|l_je|c_je|k_je|a_jm|l_jm|c_jm=>k_is)
    (case k_jm|a_jf|l_jf|c_jf|k_jf|a_jg|l_jg|c_jg|k_jg|a_j13|l_j13|c_j13|k_j13|a_jh|l_jh|c_jh|k_jh|a_j1a|l_j1a|c_j1a|k_j1a|a_ja|l_ja|c_ja|k_ja|a_jn|l_jn|c_jn|k_jn|a_jo|l_jo|c_jo|k_jo|a_jp|l_jp|c_jp|k_jp|a_ji|l_ji|c_ji=>k_is)
    (case k_ji|a_j4|l_j4|c_j4|k_j4|a_jj|l_jj|c_jj|k_jj|a_j18|l_j18|c_j18|k_j18|a_jb|l_jb|c_jb|k_jb|a_j1n|l_j1n|c_j1n|k_j1n|z_ValueError|z_all|z_bool|z_enumerate|z_int|z_isinstance|z_len|z_list|z_max|z_range|z_sum|z_tuple|z_zip|m_j3|m_j0|m_j2|m_j1=>k_is)
    (case x_j0=>k_exc)
    (case ga_j0|hk_j0|cl_j0|ca_j0|mo_j0|mb_j0=>k_is)
    (case e_j0=>kts_exm)
    (case v_j0=>kit_is)
    (case ee_j0=>kts_exm)
    (case k_j0_j3|k_j0_j0|k_j0_j2|k_j0_j1=>kit_is)
    (case x_j2=>k_exc)
    (case ga_j2|hk_j2|cl_j2|ca_j2|mo_j2|mb_j2=>k_is)
    (case e_j2=>kts_exm)
    (case v_j2=>kit_is)
    (case ee_j2=>kts_exm)
    (case k_j2_j3|k_j2_j0|k_j2_j2|k_j2_j1=>kit_is)
    (case x_j1=>k_exc)
    (case ga_j1|hk_j1|cl_j1|ca_j1|mo_j1|mb_j1=>k_is)
    (case e_j1=>kts_exm)
    (case v_j1=>kit_is)
    (case ee_j1=>kts_exm)
    (case k_j1_j3|k_j1_j0|k_j1_j2|k_j1_j1=>kit_is)
    (case gs|tk=>k_is)
