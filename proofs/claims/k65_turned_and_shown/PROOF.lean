import PyProof.Rows.All
import Wide.All
import OpenK.AllK
import PySem.Challenge.RW_yardkeep_k65_turned_and_shown
set_option Elab.async false
set_option linter.all false
set_option maxRecDepth 100000
set_option maxHeartbeats 4000000
open PySem.W (Frag kitOne keepIn findIn nsIn mg_of fnOf codeIn)
set_option compiler.extract_closed false
set_option genSizeOf false
set_option hygiene false in
local macro_rules|`(tactic|rfl')=>`(tactic|intro d6 A mD s H vs Q E hr h)
local macro_rules|`(tactic|lk)=>`(tactic|decide)
local macro_rules|`(tactic|left)=>`(tactic|decide +kernel)
open Lean in
local macro_rules|`(lay_quick $i*)=>do
 let g s:=mkIdent (.mkSimple s!"tw{(Name.str `PySem.Challenge.cw_yardkeep_k65_turned_and_shown_holds s).hash}")
 return mkNullNode (<-(i.map (g ·.getId.toString)++(Array.range 1075).map fun k=>g s!"o_{k+43}").mapM fun x=>`(def $x :=True))
local macro_rules(kind:=Lean.Parser.Command.declaration)|x=>do
 if x.getPos?.isNone then Lean.Macro.throwUnsupported
 let n<-`(noncomputable def a:=1)
 return (if [`Lean.Parser.Command.definition,`Lean.Parser.Command.abbrev].contains x[1].getKind&&x[0].getArgs.all (·.isNone) then x.setArg 0 n.raw[0] else x).rewriteBottomUp (·.setInfo .none)
set_option bootstrap.genMatcherCode false
abbrev lS:=@List
abbrev lT:=PySem.Str
abbrev lU:=PySem.Addr
abbrev lV:=PySem.Value
abbrev lW:=PySem.Shared
abbrev lX:=@Option
abbrev lY:=PySem.W.Frag
abbrev lZ:=PySem.Stmt
abbrev ma:=PySem.Heap
abbrev md:=PySem.World
abbrev me:=PySem.Expr
abbrev mh:=PySem.Program
abbrev mi:=PySem.Around
abbrev mj:=PySem.FuncData
def mO:=@List.length_map
def nS:=@PySem.Heap.get?_push_of_some
def mT:=@PySem.wpAny_bind
def nw:=@List.map_append
def mZ:=@List.mem_map
def nR:=@List.getElem?_map
def nW:=@Option.map_eq_some_iff
def nJ:=@PySem.Paired.length
def oE:=@List.getElem?_eq_getElem
def oj:=@List.length_append
def nH:=@Nat.le_refl
def nQ:=@PySem.Heap.lt_size
def nI:=@PySem.wpAny_pure
def pr:=@List.getElem?_eq_some_iff
def oG:=@PySem.Heap.get?_push_size
def ou:=@List.take_add_one
def oz:=@List.size_toArray
def nZ:=@decide_eq_true
def nV:=@List.mem_cons
def oy:=@List.length_take
def pe:=@List.mem_cons_of_mem
def nU:=@Nat.ne_of_lt
def oM:=@List.mem_cons_self
def oh:=@List.map_cons
def ow:=@decide_eq_false
def oW:=@Bool.false_ne_true
def nG:=@PyProof.Rows.wpS_bind
def pE:=@List.mem_of_getElem?
def oA:=@List.mem_append
def pU:=@PySem.Str.length_append
def oF:=@Option.some.inj
def mV:=@if_neg
def pP:=@List.forall_mem_cons
def mY:=@if_pos
def nK:=@PyProof.Rows.wpS_pure
def pD:=@of_decide_eq_true
def pC:=@List.append_assoc
def oo:=@Nat.le_trans
def pi:=@List.length_cons
def pq:=@List.take_length
def ri:=@PySem.F.excBase_ValueError
def pM:=@Nat.lt_of_lt_of_le
def qm:=@List.mem_append_right
def pQ:=@List.mem_singleton
def rR:=@PyProof.Rows.boot_isinstance
def qg:=@Int.emod_lt_of_pos
def pG:=@PySem.PassesOwn.never
def oO:=@List.map_map
def tI:=@List.getD_eq_getElem?_getD
def pZ:=@List.nodup_cons
def pY:=@Int.emod_nonneg
def qj:=@List.append_nil
def qG:=@List.nodup_append
def qv:=@Bool.and_eq_true
def rH:=@PySem.mem_of_lookup
def qi:=@List.Perm.refl
def tF:=@List.take_of_length_le
def sN:=@Nat.sub_succ_lt_self
def tW:=@PySem.Heap.get?_update_other
def su:=@beq_eq_false_iff_ne
def pJ:=@Nat.zero_le
def qx:=@PySem.wpAny_holding
def rS:=@List.filter_cons
def rO:=@List.lookup_cons
def sH:=@Array.getElem_mem
def rF:=@Bool.eq_iff_iff
def rE:=@PySem.W.kia_one
def uV:=@List.getElem?_eq_none
def ub:=@Array.length_toList
def oN:=@congrArg
def qT:=@Nat.lt_irrefl
def ug:=@Bool.false_eq_true
def pT:=@PySem.wpAny_mono
def uD:=@Array.toList_append
def tU:=@PySem.wpAny_truthy_bool
def wY:=@List.extract_eq_take_drop
def vD:=@List.length_dropLast
def vO:=@PySem.Calls.callWith_builtin
def yH:=@PyProof.Rows.callWith_type1
def tD:=@List.of_mem_zip
def wj:=@Array.getElem?_toList
def rj:=@Nat.lt_trans
def wF:=@List.perm_append_comm
def vZ:=@PyProof.Rows.boot_str
def uZ:=@PySem.wpAny_Call_Name_kw
def tY:=@List.mem_filter
def zg:=@List.drop_eq_getElem_cons
def uW:=@List.mem_nil_iff
def ui:=@List.mem_flatMap
def wp:=@List.getElem_of_mem
def vJ:=@PySem.wpAny_newObj_type
def xx:=@List.length_filter_le
def xf:=@List.take_append_drop
def rP:=@PyProof.Rows.wpS_forRange
def yn:=@PyProof.Rows.boot_sorted
def wT:=@PyProof.Rows.boot_int
def oY:=@Ne.symm
def tN:=@PySem.Heap.size_push
def tX:=@List.nodup_nil
def yl:=@PySem.F.plainAttrs_dict
def yO:=@PySem.F.plainAttrs_list
def wn:=@List.filter_append
def xh:=@Array.toList_extract
def xP:=@PyProof.Rows.boot_dict
def qV:=@True.intro
def xE:=@Option.some_ne_none
def wZ:=@PySem.W.KT.app_list
def rG:=@beq_iff_eq
def wW:=@PySem.Code.quiet_builtin
def wE:=@List.all_eq_true
def xR:=@PySem.Heap.get?_none_of_le
def yD:=@List.mem_of_mem_take
def Ah:=@List.length_eq_zero_iff
def Dl:=@PyProof.Rows.slot_tuple_getitem
def wM:=@PySem.wpAny_pyIter_list
def sO:=@PySem.sizeLine_eq
def sQ:=@Nat.le_succ
def yQ:=@List.flatMap_append
def vS:=@PySem.wpAny_loadPart'
def zt:=@PyProof.Rows.boot_list
def Bf:=@PyProof.Rows.boot_bool
def CZ:=@List.getElem?_append_right
def BF:=@Array.getElem?_eq_some_iff
def wN:=@List.not_mem_nil
def uI:=@Nat.le_of_lt
def yR:=@List.mem_filterMap
def yL:=@PySem.Calls.spliced_cons
def uB:=@List.map_nil
def yp:=@PySem.tupleKind_room_in1
def AI:=@List.mem_append_left
def zM:=@Array.mem_toList_iff
def zP:=@PySem.W.looks_findIn
def zF:=@PySem.Calls.evalArgs_plain
def AX:=@List.getElem?_of_mem
def wU:=@PySem.wpAny_passesOwn
def yJ:=@decide_eq_true_eq
def BR:=@PySem.F.slot_dict_values
def Bx:=@PySem.F.slot_list_getattribute
def ym:=@List.foldl_append
def vn:=@PySem.codeAny_mono
def vC:=@PySem.call_meetsIn
def Dr:=@PySem.wpAny_getItem_str_slice
def Dq:=@PySem.wpAny_Call_method0_late
def wG:=@List.map_take
def zy:=@List.map_congr_left
def Bs:=@List.eraseIdx_cons_succ
def yc:=@List.length_drop
def AO:=@PySem.F.slot_list_pop
def BB:=@List.Perm.append_right
def DC:=@List.getElem?_dropLast
def Cw:=@PyProof.Rows.boot_repr
def zU:=@PySem.W.callWith_K
def rD:=@if_false
def HQ:=@List.dropLast_concat_getLast
def wm:=@Nat.le_of_eq
def DD:=@List.length_singleton
def yw:=@List.find?_cons
def CS:=@PySem.Heap.get?_update_self
def Do:=@PySem.Obj.isFreed_of_fields
def yT:=@PySem.codeAny_builtin
def Dv:=@List.getElem?_toArray
def BN:=@List.Perm.append_left
def Aw:=@PySem.Calls.spliced_nil
def uT:=@PySem.wpAny_call
def zX:=@Int.toNat_natCast
def xF:=@List.any_cons
def AW:=@PySem.wpAny_loadPart_at
def uN:=@PySem.wpAny_rule
def Dp:=@PySem.wpAny_newFunctionEnv
def BL:=@PySem.codeAny_call_builtin
def DZ:=@List.getElem?_append_left
def Gq:=@PySem.Calls.call_function_entry
def Ay:=@Nat.lt_succ_self
def Ae:=@beq_self_eq_true
def sy:=@PyProof.Rows.wpS_mono
def zE:=@List.map_reverse
def wa:=@Sum.inr.inj
def Cd:=@PySem.evalArgs_none
def Cv:=@List.length_reverse
def DM:=@PySem.BindsTo.of_defaults
def xA:=@Nat.ne_of_gt
def EW:=@Option.isSome_iff_exists
def xk:=@PySem.wpAny_typeOf
def zr:=@List.cons.injEq
def CN:=@PySem.W.of_hideAll
def Au:=@PySem.wpAny_execs_nil
def Iw:=@List.getElem?_replicate
def Ab:=@PySem.SeqAt.EqAt.same
def An:=@Bool.or_eq_true
def Cb:=@PySem.Obj.data_mapFields
def tH:=@or_false
def zl:=@Prod.mk.injEq
def AH:=@List.filter_nil
def FQ:=@List.getElem?_set_self
def Eg:=@PySem.wpAny_pyNext_list_item
def Ik:=@PySem.W.cellsFrom_some
def BM:=@List.flatMap_cons
def Le:=@PySem.plainObj_wpAny_Assign_Attribute
def xl:=@PySem.wpAny_field
def Mq:=@List.eraseIdxIfInBounds_toArray
def DA:=@bne_self_eq_false
def Pa:=@Array.getElem?_setIfInBounds_ne
def BK:=@List.reverse_cons
def DN:=@List.reverse_perm
def Cm:=@List.length_range
def AT:=@List.mem_range
def zC:=@List.Perm.swap
def Ev:=@PySem.wpAny_pyNext_list_end
def Ec:=@PySem.W.methodCall_KW
def EA:=@PySem.F.slot_dict_get
def yk:=@Nat.lt_or_ge
def Em:=@PySem.wpAny_notOrdered_dict
def GF:=@PySem.F.type_list_pop
def BV:=@PySem.wpAny_eqBool_str
def Ck:=@PySem.wpAny_execs_cons
def CD:=@PySem.wpAny_call_entry
def CW:=@Nat.succ_le_succ
def DH:=@List.nil_sublist
def FE:=@List.getElem?_set_ne
def GZ:=@PySem.Around.frames_deeper
def Fu:=@PySem.SeqAt.EqAt.bool_bool
def FY:=@PySem.F.slot_dict_update
def Ir:=@PySem.Around.under_plainId
def Iu:=@Array.toList_reverse
def zu:=@PySem.wpAny_standAt
def xH:=@PySem.typeIs_str
def Fm:=@PySem.W.hideAll_get
def Hn:=@List.filterMap_cons
def Fp:=@PySem.W.plainGet_of
def EB:=@PySem.W.looks_clsIn
def sP:=@if_true
def DO:=@PySem.post_val_or_str
def FP:=@PySem.W.KeqHits.hit
def Eb:=@PySem.W.codeHd_of_K
def DB:=@List.Perm.trans
def Bu:=@List.range_succ
def NZ:=@PySem.wpAny_richCompare_same_room
def Cz:=@Nat.not_lt_zero
def Gc:=@Nat.mul_le_mul_left
def Js:=@PySem.Calls.Name_function_global
def NN:=@PySem.wpAny_newFunctionEnv_cells
def Kq:=@PySem.F.args_dict_values_1
def Qr:=@Array.toList_setIfInBounds
def PH:=@Array.perm_iff_toList_perm
def EL:=@Nat.lt_of_le_of_lt
def Gz:=@Option.isNone_none
def GD:=@Nat.pos_of_ne_zero
def Jo:=@PySem.F.slot_dict_delitem
def KN:=@PySem.F.entry_dict_values
def Ld:=@List.getLast?_eq_some_iff
def LJ:=@List.getLast?_eq_getElem?
def JJ:=@Classical.byContradiction
def Ek:=@PySem.slot_list_getitem
def IZ:=@PySem.wpAny_getItem_list_slice
def yj:=@PySem.call_meets
def Ih:=@Option.isSome_map
def Hh:=@PySem.wpAny_Call_method
def LC:=@PySem.wpAny_comprehension_free
def Ny:=@PySem.F.type_dict_values
def ET:=@Nat.lt_succ_of_lt
def Eh:=@List.Pairwise.map
def NP:=@PySem.F.args_tuple_add_2
def Ie:=@Array.toList_push
def OU:=@List.sublist_append_left
def Nm:=@PySem.F.args_dict_get_3
def Px:=@PySem.F.slot_dict_items
def IS:=@PySem.F.attr_ValueError
def Jc:=@decide_eq_false_iff_not
def zV:=@List.not_lt
def KI:=@PySem.F.entry_tuple_add
def uU:=@PyProof.Rows.wpS_get
def JP:=@PyProof.Rows.boot_tuple
def Ii:=@decide_eq_decide
def Eo:=@List.getElem_mem
def Ip:=@List.drop_length
def GP:=@PySem.W.kat_cons
def Ox:=@PySem.F.entry_dict_get
def OV:=@PySem.W.funFrames_hide
def Lq:=@PySem.F.slot_tuple_add
def Nt:=@List.append_eq_nil_iff
def GG:=@List.nil_append
def Jq:=@List.length_replicate
def PR:=@PySem.F.slot_list_append
def EJ:=@List.length_nil
def MF:=@PySem.F.slot_dict_pop
def Bw:=@PySem.Txt.slice_le
def Bj:=@Nat.add_zero
def ON:=@List.contains_iff_mem
def FK:=@PySem.W.kat_yes
def Mx:=@PySem.F.slot_tuple_lt
def FR:=@List.sum_append
def Be:=@PyProof.Rows.wpS_modify
def xC:=@PyProof.Rows.wpS_lift
def MP:=@PySem.W.hideAll_none
def ME:=@PySem.W.kla_callFunE
def PJ:=@PySem.W.kla_codeExpr
def Of:=@PySem.W.KatTups.cons
def Na:=@Nat.mul_le_mul_right
def GH:=@PySem.wpAny_loadPart
def Gr:=@PySem.wpAny_setField
def Fe:=@List.drop_zero
def Er:=@PySem.boot_len
def Gp:=@PySem.W.kat_go
def GX:=@PySem.W.kat_no
def OD:=@PySem.W.findObj_own
def BP:=@PySem.Paired.snoc
def Nb:=@PySem.W.looks_mroIn
def KF:=@List.take_succ_cons
def Qk:=@PySem.W.KatTups.nil
def KD:=@PySem.W.codeRec_of
def Hc:=@List.all_cons
def Ht:=@Bool.false_or
def MO:=@PySem.W.check_slot
def ED:=@List.cons.inj
def DV:=@List.take_add
def Jx:=@Array.size_extract
def Ei:=@Bool.not_true
def Ij:=@List.map_drop
def DJ:=@PySem.Walks.list
def Ib:=@getElem?_pos
def yG:=@Or.inl
def yy:=@Or.inr
open Prod(fst snd)
section
local macro_rules|`(tactic|show $t)=>`(tactic|exact $t)
local macro_rules|`(#v[$a])=>`(($a).heap.objs.size)
local macro_rules|`(#[$a])=>`(⟨$a⟩)|`(#[$a,$b,*])=>`(⟨$a,$b,*⟩)
namespace L2
open PySem PySem.Spec PyProof.Rows
abbrev nj:=Sum Int lT
def vT:nj->lV->Bool
 | .inl k,v=>Value.isInt k v
 | .inr x,v=>Value.isStrOf x v
def Yjb(w:md):nj->Int
 | .inl k=>hashInt k
 | .inr x=>hashStr w x
theorem Xg:∀{k:nj}{v:lV},vT k v=true->(∃i t,k=Sum.inl i/\v=Value.int i t)\/(∃x t,k=Sum.inr x/\v=Value.str x t)
 | .inl i,v,h=>by
  obtain⟨t,e⟩:=Value.isInt_shape (k:=i) (v:=v) h;show .inl #[i,t,rfl,e]
 | .inr x,v,h=>by
  obtain⟨t,e⟩:=Value.isStrOf_shape (x:=x) (v:=v) h;show .inr #[x,t,rfl,e]
def XZ(i:Int)(t:Tok):vT (.inl i) (.int i t)=true:=by simp[vT,Value.isInt]
def RM(x:lT)(t:Tok):vT (.inr x) (.str x t)=true:=by simp[vT,Value.isStrOf]
def Ua(a b:Int):decide ((Sum.inl a:nj)=Sum.inl b)=(a ==b):=by
 by_cases e:a=b
 ·subst e;simp
 ·have h:¬(Sum.inl a:nj)=Sum.inl b:=λq=>e<|Sum.inl.inj q
  rw[ow h];show(su.mpr e).symm
def ZA(a b:lT):decide ((Sum.inr a:nj)=Sum.inr b)=decide (a=b):=by
 by_cases e:a=b
 ·subst e;simp
 ·have h:¬(Sum.inr a:nj)=Sum.inr b:=λq=>e<|wa q
  rw[ow h,ow e]
def YC(a:Int)(b:lT):decide ((Sum.inl a:nj)=Sum.inr b)=false:=ow (λq=>nomatch q)
def WM(a:lT)(b:Int):decide ((Sum.inr a:nj)=Sum.inl b)=false:=ow (λq=>nomatch q)
def Zy(prog:mh)(w:md):PySem.KeyKind prog w nj where
 is:=vT
 hash:=Yjb w
 inj:=λv a b q r=>by
  rcases Xg q with⟨i,t,rfl,rfl⟩|⟨x,t,rfl,rfl⟩
  ·rcases Xg r with⟨j,u,rfl,e⟩|⟨y,u,rfl,e⟩
   ·injection e with z _;rw[z]
   ·show nomatch e
  ·rcases Xg r with⟨j,u,rfl,e⟩|⟨y,u,rfl,e⟩
   ·show nomatch e
   ·injection e with z _;rw[z]
 byValue:=λk v h=>by
  rcases Xg h with⟨i,t,rfl,rfl⟩|⟨x,t,rfl,rfl⟩<;>rfl
 pyHash:=λs h=>by
  rcases Xg s with⟨i,t,rfl,rfl⟩|⟨x,t,rfl,rfl⟩
  ·show wpAny_pyHash_int h
  ·show wpAny_pyHash_str h
 eqBool:=λp s h=>by
  rcases Xg p with⟨i,t,rfl,rfl⟩|⟨x,t,rfl,rfl⟩
  ·rcases Xg s with⟨j,u,rfl,rfl⟩|⟨y,u,rfl,rfl⟩
   ·rw[Ua]at h;show wpAny_eqBool_int h
   ·rw[YC]at h;show SeqAt.EqAt.int_str i t y u _ _ _ _ h
  ·rcases Xg s with⟨j,u,rfl,rfl⟩|⟨y,u,rfl,rfl⟩
   ·rw[WM]at h;show SeqAt.EqAt.str_int x t j u _ _ _ _ h
   ·rw[ZA]at h;show BV h
 «strs» :=λk x t v h=>by
  rcases Xg h with⟨i,u,rfl,e⟩|⟨y,u,rfl,e⟩
  ·show nomatch e
  ·injection e with z _
   subst z;cases v<;>rfl
def RC(prog:mh)(w:md)(i:Int)(t:Tok):(Zy prog w).is (.inl i) (.int i t)=true:=XZ i t
def Tq(prog:mh)(w:md)(x:lT)(t:Tok):(Zy prog w).is (.inr x) (.str x t)=true:=RM x t
inductive V where
 | non|bl (b:Bool)|int (i:Int)|str (x:Str)|byt (b:Array UInt8)|flt (b:UInt64)|ref (a:Addr)|ty (n:String)
 deriving DecidableEq
def Yd:V->lV->Prop
 | .non,u=>u=Value.none
 | .bl b,u=>u=Value.bool b
 | .int i,u=>∃t,u=Value.int i t
 | .str x,u=>∃t,u=Value.str x t
 | .byt b,u=>∃t,u=Value.bytes b t
 | .flt b,u=>∃t,u=Value.float b t
 | .ref a,u=>u=Value.ref a
 | .ty n,u=>u=Value.type n
abbrev Z8:lS V->lS lV->Prop:=Paired Yd
def Z8.length(r:Z8 xs us):xs.length=us.length:=nJ r
theorem Z8.get:∀{xs:lS V}{us:lS lV}{i:Nat}{x:V},Z8 xs us->xs[i]? =some x->∃u,us[i]? =some u/\Yd x u
 | _,_,_,_,.nil,e=>by simp at e
 | _,_,0,_,.cons r _,e=>by simp at e;subst e;show#[_,rfl,r]
 | _,_,i+1,x,.cons _ t,e=>by
  obtain⟨u,z,y⟩:=Z8.get (i:=i) (x:=x) t (by simpa using e);show#[u,by simpa using z,y]
theorem Z8.set(r:Yd x u):∀{xs:lS V}{us:lS lV}(i:Nat),Z8 xs us->Z8 (xs.set i x) (us.set i u)
 | _,_,_,.nil=>.nil
 | _,_,0,.cons _ t=>.cons r t
 | _,_,i+1,.cons q t=>.cons q<|Z8.set r i t
theorem Z8.append:∀{xs z:lS V}{us y:lS lV},Z8 xs us->Z8 z y->Z8 (xs++z) (us++y)
 | _,_,_,_,.nil,s=>s
 | _,_,_,_,.cons r t,s=>.cons r<|Z8.append t s
theorem Z8.take:∀{xs:lS V}{us:lS lV}(n:Nat),Z8 xs us->Z8 (xs.take n) (us.take n)
 | _,_,0,_=>.nil
 | _,_,_+1,.nil=>.nil
 | _,_,n+1,.cons r t=>.cons r<|Z8.take n t
theorem Z8.drop:∀{xs:lS V}{us:lS lV}(n:Nat),Z8 xs us->Z8 (xs.drop n) (us.drop n)
 | _,_,0,r=>r
 | _,_,_+1,.nil=>.nil
 | _,_,n+1,.cons _ t=>Z8.drop n t
def pS:lX V->lX lV->Prop
 | some v,some u=>Yd v u
 | none,none=>True
 | _,_=>False
def KV{z:Type}:lS (z×V)->lS (z×lV)->Prop:=Paired λ(p:z×V) (q:z×lV)=>p.1=q.1/\Yd p.2 q.2
def kV:nj->V
 | .inl i=>.int i
 | .inr x=>.str x
inductive HO where
  | lst (xs:List V)
  | tup (xs:List V)
  | dK (kvs:List (nj×V))|dT (kvs:List (List nj×V))
  | set (S:Int->Bool) (n:Nat)
  | ins (C dx:Addr) (fs:List (Str×V))
  | own (x:Addr)
  | xd (fs:List (Str×V))
  | met (f x:Addr)
  | rng (lo hi:Int)
  | frz (o:Obj) (u:HO)
  | tbl (ps:Array Value)
  | ext (φ:Heap->Prop)
abbrev Hp:=lU->lX HO
def mM(H:Hp)(a:lU)(o:HO):Hp:=λb=>if b=a then some o else H b
def Zc :mM H a o a=some o:=by unfold mM;rw[mY rfl]
def Zd(h:b≠a):mM H a o b=H b:=by unfold mM;rw[mV h]
def Hq :mM (mM H a o) a u=mM H a u:=by
 funext b;unfold mM;split<;>rfl
def Ks{H:Hp}{a b:lU}{o u:HO}(h:H a=some o)(h':H b=some u)(d:o≠u):a≠b:=by
 intro e;subst e;rw[h]at h';show d<|oF h'
def Zf{H:Hp}{a b:lU}{o:HO}(h:H a=some o)(h':H b=none):a≠b:=by
 intro e;subst e;rw[h]at h';cases h'
def GY(z:Obj)(c y:lU):Prop:=∀h:ma,h.get? c=some z->PySem.W.CodeHd h c y
def Xk(z:lS (Nat×Nat×lT)):Array lV:=(z.flatMap λp=>[rawInt p.1,rawInt p.2.1,.str p.2.2 0]).toArray
def rn(fs:lS (Nat×Nat×lT×lU)):Array lV:=(fs.flatMap λf=>[rawInt f.1,rawInt f.2.1,.ref f.2.2.2]).toArray
def Qu{m n:Nat}(h:rawInt m=rawInt n):m=n:=by
 unfold rawInt at h
 injection h with h
 lia
def Su:∀{y z:lS (Nat×Nat×lT)},Xk y=Xk z->y=z:=by
 intro y z h;have h:(y.flatMap λp=>[rawInt p.1,rawInt p.2.1,Value.str p.2.2 0])=z.flatMap λp=>[rawInt p.1,rawInt p.2.1,Value.str p.2.2 0]:=by
  unfold Xk at h;simpa using h
 induction y generalizing z with
 | nil=>cases z with
  | nil=>rfl
  | cons m r=>simp at h
 | cons l r w=>cases z with
  | nil=>simp at h
  | cons m u =>
   simp only[BM,List.cons_append,GG,zr]at h;obtain⟨s,q,o,x⟩:=h;obtain⟨n,j,i⟩:=l;obtain⟨g,e,d⟩:=m;have c:n=g:=Qu s;have a:j=e:=Qu q;have Y:i=d:=by injection o
   have U:r=u:=by first|show w (oN List.toArray x) x|show w<|oN List.toArray x
   rw[c,a,Y,U]
theorem QO:∀{z:lS (Nat×Nat×lT)},Xk z≠ (List.toArray [Value.none])
 | [],h=>by simp[Xk]at h
 | _ ::_,h=>by simp[Xk]at h
theorem GJ:∀fs:lS (Nat×Nat×lT×lU),TriplesOk (rn fs).toList
 | []=>trivial
 | f ::fs=>by
  have:=GJ fs;unfold rn at this ⊢;simpa[TriplesOk,rawInt]using this
theorem Lp :∀{fs:lS (Nat×Nat×lT×lU)},codeAmong pos (rn fs).toList=some cv->∃f∈fs,cv=.ref f.2.2.2/\f.1=pos.line/\f.2.1=pos.col
 | [],h=>by simp[rn,codeAmong]at h
 | f ::fs,h=>by
  have e:(rn<|f ::fs).toList=rawInt f.1 ::rawInt f.2.1 ::Value.ref f.2.2.2 ::(rn fs).toList:=by simp[rn]
  rw[e]at h;have h:(if((f.1:Int) ==(pos.line:Int) && (f.2.1:Int) ==(pos.col:Int))=true then some (Value.ref f.2.2.2)else codeAmong pos (rn fs).toList)=some cv:=h;split at h
  ·rename_i z;simp only[qv,rG]at z;show#[f,oM,(oF h).symm,by lia,by lia]
  ·obtain⟨g,y,r⟩:=Lp h;show#[g,pe _ y,r]
def Sl(fs:lS (Nat×Nat×lT×lU))(f:Nat×Nat×lT×lU):rn (fs++[f])=rn fs++ (List.toArray [rawInt f.1,rawInt f.2.1,.ref f.2.2.2]):=by
 unfold rn;simp
section
variable (P:mh) (w:md)
def Yb(H:Hp)(h:ma)(a:lU):HO->Prop
 | .lst s=>s.length<=sizeLine/\∃(l:lS lV)(n:Nat),Z8 s l/\h.get? a=some {cls:=.type "list",data:=.seq l.toArray n}
 | .tup s=>s.length<=sizeLine/\∃l:lS lV,Z8 s l/\IsTup h a l.toArray
 | .dK y=>y.length<=sizeLine/\(a ==sysModules)=false/\∃j,KV y j/\h.DictOf (Zy P w) a j
 | .dT y=>y.length<=sizeLine/\(a ==sysModules)=false/\∃s:lS (lS nj×lU×lV),
   Paired (λ(p:lS nj×V) (q:lS nj×lU×lV)=>p.1=q.1/\H q.2.1=some (.tup<|p.1.map kV)/\Yd p.2 q.2.2) y s/\
   ∃o z x,h.get? a=some o/\o.ExactDict/\o.data=.dict z x/\z.toList=s.map (entryOfKey<|tupleKind<|Zy P w)/\(s.map (·.1)).Nodup
 | .set S n=>h.SetOf (intKind P w) a S n
 | .ins C z fs=>H z=some (.own a)/\fs.length<=1000/\z≠a/\h.get? a=some (PySem.W.instObj C z)/\
   ∃r,h.Ns1 z r/\(∀f,pS (fs.lookup f)<|r f)/\PySem.Within r (fs.map (·.1))
 | .own _=>∃o,h.get? a=some o
 | .xd fs=>∃r,h.Ns1 a r/\∀f,pS (fs.lookup f) (r f)
 | .rng lo z=>∃t u v,h.get? a=some {cls:=.type "range",data:=.fields (List.toArray [.int lo t,.int z u,.int 1 v])}
 | .frz o u=>h.get? a=some o/\Yb H h a u
 | .tbl i=>∃z:Array lV,h.get? a=some {cls:=.none,data:=.fields z}/\(i=(List.toArray [.none])/\TriplesOk z.toList\/∃(x:lS (Nat×Nat×lT)) (fs:lS (Nat×Nat×lT×lU)),i=Xk x/\(x.map λp=>(p.1,p.2.1)).Nodup/\z=rn fs/\
   ∀f∈fs,((f.1,f.2.1,f.2.2.1):Nat×Nat×lT)∈x/\∃(q:Obj)(j:Array lV)(e:Nat)(g:lU),H f.2.2.2=some (.frz q<|.own a)/\q.data=.fields j/\j[1]? =some (.str f.2.2.1 e)/\H g=some (.tbl<|List.toArray [.none])/\GY q f.2.2.2 g)
 | .met f x=>h.get? a=some (PySem.W.methodObj (.ref f)<|.ref x)
 | .ext z=>z h/\(∃o,h.get? a=some o)/\∀x q:ma,z x->(∀o,x.get? a=some o->q.get? a=some o)->z q
def ol(H:Hp)(h:ma):Prop:=∀a o,H a=some o->Yb P w H h a o
end
section
def Yb.lt(x:Yb P w H h a o):a<h.objs.size:=by
 cases o with
 | lst r=>obtain⟨_,_,_,_,e⟩:=x;show nQ e
 | tup r=>obtain⟨_,_,_,p⟩:=x;show p.lt
 | dK s=>obtain⟨_,_,_,_,o,_,_,e,_⟩:=x;show nQ e
 | dT s=>obtain⟨_,_,_,_,o,_,_,e,_⟩:=x;show nQ e
 | set S n=>obtain⟨o,_,_,_,e,_⟩:=x;show nQ e
 | ins C z fs=>obtain⟨_,_,_,e,_⟩:=x;show nQ e
 | own y=>obtain⟨_,e⟩:=x;show nQ e
 | xd fs=>obtain⟨_,⟨_,_,_,e,_⟩,_⟩:=x;show nQ e
 | rng lo z=>obtain⟨_,_,_,e⟩:=x;show nQ e
 | frz z u=>obtain⟨e,_⟩:=x;show nQ e
 | tbl z =>
  obtain⟨_,e,_⟩:=x;show nQ e
 | met f y=>show nQ (show h.get? a=some _ from x)
 | ext z=>obtain⟨_,⟨_,e⟩,_⟩:=x;show nQ e
theorem Paired.mapP{z y:Type}{F G:z->y->Prop}:∀{l₁:lS z}{l₂:lS y},Paired F l₁ l₂->(∀a b,F a b->G a b)->Paired G l₁ l₂
 | _,_,.nil,_=>.nil
 | _,_,.cons r t,f=>.cons (f _ _ r)<|Paired.mapP t f
def Yb.stay(x:Yb P w H h a o)(k:∀b u,(b=a\/H b=some (.own a))->h.get? b=some u->h'.get? b=some u)
  (J:∀b,H b=some (.own a)->g b=some (.own a)) (I:∀b xs,H b=some (.tup xs)->g b=some (.tup xs))
  (G:∀b o,H b=some (.frz o<|.own a)->g b=some (.frz o<|.own a):=by first|show λ_ _ q=>q|(intro b o q;rw[Zd (Zf q<|by assumption)];show q))
  (E:∀b ps,H b=some (.tbl ps)->g b=some (.tbl ps):=by first|show λ_ _ q=>q|(intro b o q;rw[Zd (Zf q<|by assumption)];show q)):Yb P w g h' a o:=by
 induction o with
 | lst xs=>obtain⟨y,Y,n,r,e⟩:=x;show#[y,Y,n,r,k _ _ (.inl rfl) e]
 | tup xs=>obtain⟨y,Y,r,l,e,c⟩:=x;show#[y,Y,r,l,k _ _ (.inl rfl) e,c]
 | dK U=>obtain⟨y,s,Q,r,l,j,i,e,c⟩:=x;show#[y,s,Q,r,l,j,i,k _ _ (.inl rfl) e,c]
 | dT U =>
  obtain⟨y,s,xs,r,l,j,i,e,c⟩:=x;show#[y,s,xs,Paired.mapP r λp q y=>#[y.1,I _ _ y.2.1,y.2.2],l,j,i,k _ _ (.inl rfl) e,c]
 | set S n=>obtain⟨l,j,i,t,e,c⟩:=x;show#[l,j,i,t,k _ _ (.inl rfl) e,c]
 | ins C D fs =>
  obtain⟨d,y,z,e,N,⟨M,j,i,L,c⟩,r⟩:=x;show#[J _ d,y,z,k _ _ (.inl rfl) e,N,#[M,j,i,k _ _ (.inr d) L,c],r]
 | own s=>obtain⟨l,e⟩:=x;show#[l,k _ _ (.inl rfl) e]
 | xd fs=>obtain⟨N,⟨M,j,i,e,c⟩,r⟩:=x;show#[N,#[M,j,i,k _ _ (.inl rfl) e,c],r]
 | rng lo z=>obtain⟨t,u,v,e⟩:=x;show#[t,u,v,k _ _ (.inl rfl) e]
 | frz l u z=>obtain⟨e,q⟩:=x;show#[k _ _ (.inl rfl) e,z q]
 | tbl ps =>
  obtain⟨z,e,q⟩:=x;show#[z,k a _ (.inl rfl) e,q.imp_right λ⟨d,fs,D,L,C,q⟩=>#[d,fs,D,L,C,λf B=>let⟨A,oc,Q,tt,Pn,f1,f2,f3,f4,f5⟩:=q f B;#[A,oc,Q,tt,Pn,G _ _ f1,f2,f3,E _ _ f4,f5]]]
 | met f s =>
  have e:h.get? a=some (PySem.W.methodObj (.ref f)<|.ref s):=x;change h'.get? a=some (PySem.W.methodObj (.ref f)<|.ref s);show k a _ (.inl rfl) e
 | ext z=>obtain⟨p,⟨o,e⟩,st⟩:=x;show#[st _ _ p λo q=>k _ _ (.inl rfl) q,#[o,k _ _ (.inl rfl) e],st]
def ol.lt(x:ol P w H h)(e:H a=some o):a<h.objs.size:=(x a o e).lt
def ol.fresh(x:ol P w H h)(e:h.objs.size<=a):H a=none:=by
 cases q:H a with
 | none=>rfl
 | some u=>show absurd (pM (x.lt q) e)<|qT _
def ol.kept(x:ol P w H h)(k:∀b u,h.get? b=some u->h'.get? b=some u):ol P w H h':=λa o e =>
 (x a o e).stay (λb u _ q=>k b u q) (λ_ q=>q) λ_ _ q=>q
def ol.laid(x:ol P w H h)(k:∀b u,h.get? b=some u->h'.get? b=some u)(s:h.objs.size<=a)(new:Yb P w (mM H a o) h' a o):ol P w (mM H a o) h':=λb u e=>by
 have z:=x.fresh s
 by_cases y:b=a
 ·subst y;rw[Zc]at e;cases e;show new
 ·rw[Zd y]at e;show(x b u e).stay (λc v _ q=>k c v q) (λc q=>by rw[Zd (Zf q z)];show q) λc r q=>by rw[Zd (Zf q z)];show q
end
def Rd(H:Hp)(a:lU)(u:HO):Prop:=H a=some u\/∃o,H a=some (.frz o u)
def Rd.ok(r:Rd H a u)(x:ol P w H h):Yb P w H h a u:=by
 rcases r with r|⟨o,r⟩
 ·show x a u r
 ·obtain⟨_,q⟩:=x a _ r;show q
def zx:lX HO->Prop
 | some (.lst _)=>True
 | some (.dK _)=>True
 | some (.dT _)=>True
 | some (.set _ _)=>True
 | some (.ins _ _ _)=>True
 | some (.ext _)=>True
 | _=>False
section
def ol.write(ok:ol P w H h)(p:zx (H x))(he:e=x\/H e=some (.own x))(k:∀b u,b≠e->h.get? b=some u->h'.get? b=some u)(a:∃u,h'.get? e=some u)
  (new:Yb P w (mM H x o') h' x o'):ol P w (mM H x o') h':=λb u q=>by
 have n:∀c y,H c=some (.own y)->c≠x:=λc y r z=>by subst z;rw[r]at p;show p
 have l:∀c i,H c=some (.tup i)->c≠x:=λc i r z=>by subst z;rw[r]at p;show p
 have j:∀c o y,H c=some (.frz o<|.own y)->c≠x:=λc o y r z=>by subst z;rw[r]at p;show p
 by_cases g:b=x
 ·subst g;rw[Zc]at q;cases q;show new
 ·rw[Zd g]at q
  by_cases s:b=e
  ·have d:H b=some (.own x):=by
    rcases he with z|z
    ·show absurd (s.trans z) g
    ·rw[s];show z
   rw[q]at d;cases d;obtain⟨v,Y⟩:=a;show#[v,by rw[s];show Y]
  ·refine(ok b u q).stay (λc v d r=>k c v ?_ r) (λc r=>by rw[Zd (n c b r)];show r) (λc i r=>by rw[Zd (l c i r)];show r) (λc o r=>by rw[Zd (j c o b r)];show r) (λc Y r=>by rw[Zd λz=>by subst z;rw[r]at p;show p];show r);rcases d with rfl|d
   ·show s
   ·rintro rfl;rcases he with z|z
    ·show n c b d z
    ·rw[d]at z;cases z;show g rfl
end
structure Un(fs ex:List Addr)(H H':Hp)(h h':Heap):Prop where
 keep:∀b o,h.get? b=some o->H b=none->b∉fs->b∉ex->h'.get? b=some o
 slot:∀b o,h.get? b=some o->H b=none->b∈fs->b∉ex->∃sl,h'.get? b=some {o with slots:=sl}
 free:∀b o,h.get? b=some o->H b=none->b∉ex->H' b=none
 there:∀b o,h.get? b=some o->b∉ex->∃o',h'.get? b=some o'
 tups:∀b xs,H b=some (.tup xs)->H' b=some (.tup xs)
 frzs:∀b o u,H b=some (.frz o u)->H' b=some (.frz o u)
 tbls:∀b ps,H b=some (.tbl ps)->∃more,H' b=some (.tbl<|ps++more)
section
def Un.any(u:Un fs x H r h w)(q:h.get? b=some ob)(n:H b=none)(z:b∉x):∃s,w.get? b=some {ob with slots:=s}:=by
 by_cases y:b∈fs
 ·show u.slot b ob q n y z
 ·show#[ob.slots,u.keep b ob q n y z]
def Un.kept(k:∀b u,h.get? b=some u->h'.get? b=some u):Un fs y H H h h' :=
 #[λb z q _ _ _=>k b z q,λb z q _ _ _=>#[z.slots,k b z q],λ_ _ _ n _=>n,λb z q _=>#[z,k b z q],λ_ _ q=>q,λ_ _ _ q=>q,λ_ x q=>#[#[],by rw[q];simp]]
def Un.refl:Un fs z H H h h:=Un.kept λ_ _ q=>q
def Un.laid(k:∀b u,h.get? b=some u->h'.get? b=some u)(y:h.objs.size<=a)(z:H a=none):Un fs w H (mM H a o) h h' where
 keep:=λb u q _ _ _=>k b u q
 slot:=λb u q _ _ _=>#[u.slots,k b u q]
 free:=λb u q n _=>by rw[Zd (nU<|pM (nQ q) y)];show n
 there:=λb u q _=>#[u,k b u q]
 tups:=λb x q=>by rw[Zd (Zf q z)];show q
 frzs:=λb u x q=>by rw[Zd (Zf q z)];show q
 tbls:=λb s q=>#[#[],by rw[Zd (Zf q z),q];simp]
def Un.write(w:zx (H x))(he:e=x\/H e=some (.own x))(k:∀b u,b≠e->h.get? b=some u->h'.get? b=some u)(s:∃u,h'.get? e=some u):Un fs g H (mM H x o) h h':=by
 have l:∀b,H b=none->b≠x:=λb n z=>by subst z;rw[n]at w;show w
 have j:∀b,H b=none->b≠e:=λb n z=>by
  subst z;rcases he with r|r
  ·show l b n r
  ·rw[n]at r;cases r
 have p:∀b u,H b=some u->¬zx (some u)->b≠x:=λb u q nm z=>by subst z;rw[q]at w;show nm w
 refine#[λb u q n _ _=>k b u (j b n) q,λb u q n _ _=>#[u.slots,k b u (j b n) q],λb u q n _=>by rw[Zd (l b n)];show n,λb u q _=>?_,
  λb i q=>by rw[Zd (p b _ q λz=>z)];show q,λb u i q=>by rw[Zd (p b _ q λz=>z)];show q,λb d q=>#[#[],by rw[Zd (p b _ q λz=>z),q];simp]]
 by_cases y:b=e
 ·subst y;show s
 ·show#[u,k b u y q]
end
def tQ(h:ma)(H:Hp):lS lU:=(List.range h.objs.size).filter λa=>(H a).isSome
def vj(h:ma)(H:Hp):ma:=PySem.W.hideAll h<|tQ h H
def Sx(h:ma)(H:Hp):(vj h H).objs.size=h.objs.size:=PySem.W.hideAll_size _ _
def Zzr(e:h.get? b=some o)(n:H b=none):(vj h H).get? b=some o :=
 Fm _ e λz=>by
  have q:(H b).isSome=true:=(tY.mp z).2;rw[n]at q;simp at q
def Vh(e:(vj h H).get? b=some o):h.get? b=some o/\H b=none:=by
 have y:h.get? b=some o:=CN (tQ h H) e;refine#[y,?_];cases q:H b with
 | none=>rfl
 | some x =>
  have w:b∈tQ h H:=tY.mpr #[AT.mpr<|nQ y,by simp[q]];have z:(vj h H).get? b=none:=MP (tQ h H) w;rw[z]at e;cases e
def Ycv(g h:ma)(L:lU):lS (lU×Obj):=(List.range h.objs.size).filterMap λa=>if a=L\/(g.get? a).isSome=true then none else(h.get? a).map λo=>(a,o)
def Zt(g h:ma)(L d:lU):lS (lU×Obj):=(Ycv g h L).filter λp=>decide<|p.1≠d
def Jm(x:lT->lX lV)(h:ma):Prop:=∃y z,x "__builtins__"=some (.ref y)/\y≠builtinsNs/\h.get? y=some z/\z.cls=.type "module"/\z.dict=some builtinsNs/\z.data=.plain
structure Mod(K:Frag)(mg:Str->Option Value)(mG:Heap):Prop where
 kin:K.In mG
 glob:mG.Ns mainGlobals mg
 blt:∃mb,mG.Ns builtinsNs mb/\∀x:Str,x≠ "__name__"->mb x=bootBuiltins x
 nolimit:mG.NoLimit
 bm:Jm mg mG
structure Cx where
 prog:Program
 w:World
 K:Frag
 mg:Str->Option Value
 mG:Heap
 A:Around
 N:List Str
 ml:Shared
 mo:Hp
 env:Env
 mD:List Env
 stack:List Env
 ex:List Addr
 fn:Str->Bool
 calm:Bool
 pn:List (Addr×Obj)
 xe:Value->Shared->Prop
def oi(l:lS Env):lS lU:=l.filterMap (·.frame)
abbrev Cx.fs(X:Cx):lS lU:=oi X.mD
def Dt(z:Scope)(x:lT):Prop:=z.names.lookup x=some .local\/z.names.lookup x=some .cell\/z.names.lookup x=some .free
def vd(z:Scope)(x:lT):Prop:=z.names.lookup x=some .local\/z.names.lookup x=some .cell
def Yiq(env:Env)(h:ma)(m:lT->lX lV)(x:lT)(u:lV):Prop :=
 (env.kindOf x=some .local/\m x=some u)\/((env.kindOf x=some .cell\/env.kindOf x=some .free)/\∃c,env.cells.lookup x=some c/\h.IsCell c (some u))
structure Cx.Ok(X:Cx):Prop where
 mod:Mod X.K X.mg X.mG
 kind:X.env.scope.kind=.function
 glob:X.env.globals=mainGlobals
 blt:X.env.builtins=builtinsNs
 above:X.ml.heap.objs.size<=X.env.locals
 inj:∀x y c,X.env.cells.lookup x=some c->X.env.cells.lookup y=some c->x=y
 has:∀x,(X.env.kindOf x=some .cell\/X.env.kindOf x=some .free)->∃c,X.env.cells.lookup x=some c
 cab:∀x c,X.fn x=true->X.env.cells.lookup x=some c->X.ml.heap.objs.size<=c
 hd:X.calm=true->X.A.handled=none
 frames:X.A.frames=some X.stack
 stk:X.stack=X.mD\/(X.stack=X.env ::X.mD/\X.env.frame=some X.env.locals)
 exf:∀b∈X.ex,b≠X.env.locals/\∀x c,X.env.cells.lookup x=some c->c≠b
 bs:∀b o,X.mG.get? b=some o->X.ml.heap.get? b=some o/\X.mo b=none
 bsz:X.mG.objs.size<=X.ml.heap.objs.size
 noex:∀b o,X.mG.get? b=some o->b∉X.ex
 exfs:∀b∈X.ex,b∉X.fs
 funs:X.ml.heap.FunFrames X.mG X.mD
 frf:∀b∈X.fs,X.mo b=none
structure mK(X:Cx)(c7:List (Addr×Obj))(σ:List (Option V))(H:Hp)(s:Shared):Prop where
 ok:X.Ok
 os:s.os=X.ml.os
 bare:AllBare s.gens
 mG:Un X.fs X.ex X.mo H X.ml.heap s.heap
 loc:∃m,s.heap.Ns X.env.locals m/\∀(i:Nat)(x:Str)(v:V),X.N[i]? =some x->σ[i]? =some (some v)->Dt X.env.scope x->∃u,Yd v u/\Yiq X.env s.heap m x u
 cell:∀x c,X.env.cells.lookup x=some c->∃v,s.heap.IsCell c v
 free:H X.env.locals=none
 freeC:∀x c,X.env.cells.lookup x=some c->H c=none
 pin:∀p∈X.pn++c7,s.heap.get? p.1=some p.2/\H p.1=none/\p.1≠X.env.locals/\p.1∉X.fs/\∀v,p.2.data≠.cell v
 hok:ol X.prog X.w H s.heap
 len:σ.length=X.N.length
variable {X:Cx}
def Cx.Ok.nofr(ok:X.Ok)(e:X.mG.get? b=some o):b∉X.fs:=λz=>by
 have:=(ok.funs.mem z).1;rw[e]at this;cases this
def mK.bs(I:mK X y z H s):∀b o,X.mG.get? b=some o->s.heap.get? b=some o/\H b=none:=λb o e =>
 #[I.mG.keep b o (I.ok.bs b o e).1 (I.ok.bs b o e).2 (I.ok.nofr e) (I.ok.noex b o e),I.mG.free b o (I.ok.bs b o e).1 (I.ok.bs b o e).2 (I.ok.noex b o e)]
def mK.bk(I:mK X y z H s):∀b o,X.mG.get? b=some o->s.heap.get? b=some o:=λb o e=>(I.bs b o e).1
def mK.mod(I:mK X y z H s):Mod X.K X.mg X.mG:=I.ok.mod
def mK.kIn(I:mK X y z H s):X.K.In s.heap:=I.ok.mod.kin.keeps I.bk
def mK.fr(I:mK X x z H s):∃m,Fr X.mG X.env.locals s.heap m :=
 let⟨m,y,_⟩:=I.loc
 #[m,y,I.bk,oo I.ok.bsz I.ok.above]
def mK.lt(I:mK X x z H s):X.env.locals<#v[s]:=let⟨_,y,_⟩:=I.loc;y.lt
def mK.sz(I:mK X y z H s):X.ml.heap.objs.size<=#v[s]:=oo I.ok.above<|uI I.lt
def mK.nofs(I:mK X w z H s)(h:#v[s]<=a):a∉X.fs:=λy=>by
 obtain⟨_,o,x,_⟩:=I.ok.funs.mem y;show absurd (pM (nQ x)<|oo I.sz h)<|qT _
def mK.cne(I:mK X q z H s):∀x c,X.env.cells.lookup x=some c->c≠X.env.locals:=λx c e y=>by
 obtain⟨v,o,u,hd⟩:=I.cell x c e;obtain⟨m,⟨p,o,n,r,w,_⟩,_⟩:=I.loc;rw[y,r]at u;cases u;rw[w]at hd;cases hd
def mK.funs(I:mK X d z H s):s.heap.FunFrames X.mG X.mD:=by
 have all:∀(l:lS Env),(∀b∈oi l,b∈X.fs)->X.ml.heap.FunFrames X.mG l->s.heap.FunFrames X.mG l:=by
  intro l
  induction l with
  | nil=>intro _ _;trivial
  | cons env r p =>
   intro q n;obtain⟨j,⟨L,o,x,i,h,hd⟩,g⟩:=n;have w:L∈X.fs:=q L (by unfold oi;rw[Hn,x];show oM);obtain⟨c,e⟩:=I.mG.slot L o h (I.ok.frf L w) w λy=>I.ok.exfs L y w
   show#[j,#[L,_,x,i,e,hd],p (λb u=>q b (by unfold oi;rw[Hn,x];show pe _ u)) g]
 show all X.mD (λ_ u=>u) I.ok.funs
def mK.stack(I:mK X w z H s):s.heap.FunFrames X.mG X.stack:=by
 rcases I.ok.stk with e|⟨e,y⟩
 ·rw[e];show I.funs
 ·rw[e];obtain⟨m,x,_⟩:=I.loc;refine .cons (by rw[I.ok.kind];decide) y x ?_ I.funs;show xR<|oo I.ok.bsz I.ok.above
def mK.stkSub(I:mK X w z H s):∀b∈oi X.stack,b∈X.env.locals ::X.fs:=λb y=>by
 rcases I.ok.stk with e|⟨e,x⟩
 ·rw[e]at y;show pe _ y
 ·rw[e]at y;unfold oi at y;rw[Hn,x]at y;show y
def mK.stkFree(I:mK X u z H s):∀b∈oi X.stack,H b=none:=λb x=>by
 rcases nV.mp (I.stkSub b x)with e|x
 ·rw[e];show I.free
 ·obtain⟨_,o,w,_⟩:=I.ok.funs.mem x;show I.mG.free b o w (I.ok.frf b x) λy=>I.ok.exfs b y x
def mK.step{g':Array GenState}{t':Nat}{d':Drawn}{ch:lS lU}(I:mK X B z H s)
  (Q:∀b∈ch,(b∈X.ex\/X.ml.heap.objs.size<=b)/\b≠X.env.locals/\(∀x c,X.env.cells.lookup x=some c->c≠b)/\∀p∈X.pn++B,p.1≠b)
  (keep:∀b o,b≠X.env.locals->b∉X.fs->b∉ch->s.heap.get? b=some o->H b=none->h'.get? b=some o)
  (slot:∀b o,b≠X.env.locals->b∈X.fs->b∉ch->s.heap.get? b=some o->H b=none->∃D,h'.get? b=some {o with slots:=D}) (free:∀b o,b∉ch->s.heap.get? b=some o->H b=none->N b=none)
  (there:∀b o,b∉ch->s.heap.get? b=some o->∃o',h'.get? b=some o')
  (M:∀b xs,H b=some (.tup xs)->N b=some (.tup xs)) (L:∀b o u,H b=some (.frz o u)->N b=some (.frz o u)) (J:∀b ps,H b=some (.tbl ps)->∃more,N b=some (.tbl<|ps++more))
  (ns:∀m,s.heap.Ns X.env.locals m->h'.Ns X.env.locals m) (C:ol X.prog X.w N h') (hg:AllBare g') :
  mK X B z N {s with heap:=h',gens:=g',drawn:=d',toks:=t'}:=by
 have G:∀b o,X.ml.heap.get? b=some o->b≠X.env.locals:=λb o e=>nU<|pM (nQ e) I.ok.above
 have g:∀b o,X.ml.heap.get? b=some o->b∉X.ex->b∉ch:=λb o e w Y=>by
  rcases(Q b Y).1 with y|y
  ·show w y
  ·show absurd (pM (nQ e) y)<|qT _
 have j:∀x c,X.env.cells.lookup x=some c->∀v,s.heap.IsCell c v->h'.IsCell c v:=λx c e v ⟨o,U,hd⟩=>by
  have h:c∉ch:=λy=>(Q c y).2.2.1 x c e rfl
  by_cases A:c∈X.fs
  ·obtain⟨D,q⟩:=slot c o (I.cne x c e) A h U<|I.freeC x c e;show#[_,q,hd]
  ·show#[o,keep c o (I.cne x c e) A h U<|I.freeC x c e,hd]
 refine#[I.ok,I.os,hg,#[λb o e n Y w=>?_,λb o e n Y w=>?_,λb o e n w=>?_,λb o e w=>?_,λb xs e=>M b xs<|I.mG.tups b xs e,λb o xs e=>L b o xs<|I.mG.frzs b o xs e,λb ps e=>?_],?_,λx c e=>?_,?_,λx c e=>?_,λp hp=>?_,C,I.len]
 ·show keep b o (G b o e) Y (g b o e w) (I.mG.keep b o e n Y w)<|I.mG.free b o e n w
 ·obtain⟨D,a⟩:=I.mG.slot b o e n Y w;obtain⟨r,E⟩:=slot b _ (G b o e) Y (g b o e w) a<|I.mG.free b o e n w;show#[r,E]
 ·obtain⟨o',a⟩:=I.mG.there b o e w;show free b o' (g b o e w) a<|I.mG.free b o e n w
 ·obtain⟨o',a⟩:=I.mG.there b o e w;show there b o' (g b o e w) a
 ·obtain⟨r,a⟩:=I.mG.tbls b ps e;obtain⟨q,E⟩:=J b _ a;show#[r++q,by rw[E,Array.append_assoc]]
 ·obtain⟨m,q,d⟩:=I.loc;refine#[m,ns m q,λi x v a E e3=>?_];obtain⟨u,r,l⟩:=d i x v a E e3;refine#[u,r,?_];rcases l with l|⟨k,c,e,y⟩
  ·show .inl l
  ·show .inr #[k,c,e,j x c e _ y]
 ·obtain⟨v,y⟩:=I.cell x c e;show#[v,j x c e v y]
 ·obtain⟨m,⟨o,_,_,U,_⟩,_⟩:=I.loc;show free _ o (λy=>(Q _ y).2.1 rfl) U I.free
 ·obtain⟨v,o,U,hd⟩:=I.cell x c e;show free c o (λy=>(Q c y).2.2.1 x c e rfl) U<|I.freeC x c e
 ·obtain⟨e,n,r,q,d⟩:=I.pin p hp;have h:p.1∉ch:=λy=>(Q p.1 y).2.2.2 p hp rfl
  show#[keep p.1 p.2 r q h e n,free p.1 p.2 h e n,r,q,d]
def mK.un{t':Nat}(I:mK X l z H s)(u:Un X.fs [] H q s.heap h')(x:ol X.prog X.w q h'):mK X l z q {s with heap:=h',toks:=t'}:=by
 obtain⟨m,⟨o,y,i,p,r⟩,_⟩:=id I.loc;obtain⟨y,j⟩:=u.any p I.free (by simp);show I.step (g':=s.gens) (d':=s.drawn) (ch:=[]) (λ_ y=>nomatch y) (λb o _ w _ e n=>u.keep b o e n w<|by simp) (λb o _ w _ e n=>u.slot b o e n w<|by simp) (λb o _ e n=>u.free b o e n<|by simp) (λb o _ e=>u.there b o e<|by simp) u.tups u.frzs u.tbls (λd i=>by
  obtain⟨c,h,y,r,g⟩:=i;rw[p]at r;cases r;show#[_,h,y,j,g]) x I.bare
def mK.call{g':Array GenState}{t':Nat}{d':Drawn}{ch:lS lU}(I:mK X j z H s)(u:Un (oi X.stack) ch H i s.heap h')(q:ol X.prog X.w i h')(a:AllBare g')
  (h:∀b∈ch,(b∈X.ex\/X.ml.heap.objs.size<=b)/\b≠X.env.locals/\(∀x c,X.env.cells.lookup x=some c->c≠b)/\∀p∈X.pn++j,p.1≠b) :
  mK X j z i {s with heap:=h',gens:=g',drawn:=d',toks:=t'}:=by
 obtain⟨m,⟨o,d,Y,g,r⟩,_⟩:=id I.loc;obtain⟨r,l⟩:=u.any g I.free λy=>(h _ y).2.1 rfl
 show I.step (ch:=ch) h (λb o l r w e n=>u.keep b o e n (λy=>(nV.mp<|I.stkSub b y).elim l r) w) (λb o _ _ w e n=>u.any e n w) (λb o w e n=>u.free b o e n w) (λb o w e=>u.there b o e w) u.tups u.frzs u.tbls (λN Y=>by
  obtain⟨M,U,r,d,Q⟩:=Y;rw[g]at d;cases d;show#[_,U,r,l,Q]) q a
def mK.turned{t':Nat}{it:lU}(I:mK X j z H s)(k:∀b o,b≠it->s.heap.get? b=some o->h'.get? b=some o)(h:H it=none)(i:it≠X.env.locals)
  (g:it∈X.ex\/X.ml.heap.objs.size<=it) (d:∀x c,X.env.cells.lookup x=some c->c≠it) (a:∀p∈X.pn++j,p.1≠it):mK X j z H {s with heap:=h',toks:=t'}:=by
 have l:∀b u,H b=some u->b≠it:=λb u e y=>by rw[y,h]at e;cases e
 refine I.step (g':=s.gens) (d':=s.drawn) (ch:=[it]) (λb Y=>?_) (λb o _ _ w e _=>k b o (λy=>w<|by simp[y]) e) (λb o _ _ w e _=>#[o.slots,k b o (λy=>w<|by simp[y]) e]) (λ_ _ _ _ n=>n)
  (λb o w e=>#[o,k b o (λy=>w<|by simp[y]) e]) (λ_ _ e=>e) (λ_ _ _ e=>e) (λb r e=>#[#[],by rw[e];simp]) (λm U=>?_) (λb u e=>?_) I.bare
 ·have e:b=it:=by simpa using Y
  subst e;show#[g,i,d,a]
 ·obtain⟨o,q,n,Q,r⟩:=U;show#[o,q,n,k _ o (oY i) Q,r]
 ·refine(I.hok b u e).stay (λc v w q=>k c v ?_ q) (λ_ q=>q) λ_ _ q=>q
  rcases w with y|y
  ·rw[y];show l b u e
  ·show l c _ y
def mK.tok(I:mK X y z H s)(t:Nat):mK X y z H {s with toks:=t}:=I.un (h':=s.heap) (t':=t) Un.refl I.hok
def mK.kept(I:mK X y z H s)(k:∀b u,s.heap.get? b=some u->h'.get? b=some u):mK X y z H {s with heap:=h',toks:=t'}:=I.un (Un.kept k)<|I.hok.kept k
def mK.laid(I:mK X x z H s)(k:∀b u,s.heap.get? b=some u->h'.get? b=some u)(y:#v[s]<=a)(new:Yb X.prog X.w (mM H a o) h' a o) :
  mK X x z (mM H a o) {s with heap:=h',toks:=t'}:=I.un (Un.laid k y<|I.hok.fresh y)<|I.hok.laid k y new
def mK.write(I:mK X r z H s)(w:zx (H x))(he:e=x\/H e=some (.own x))(k:∀b u,b≠e->s.heap.get? b=some u->h'.get? b=some u)(y:∃u,h'.get? e=some u)
  (new:Yb X.prog X.w (mM H x o) h' x o):mK X r z (mM H x o) {s with heap:=h',toks:=t'}:=I.un (Un.write w he k y)<|I.hok.write w he k y new
def mK.weak(I:mK X u z H s)(r:y.length=z.length)(w:∀(i:Nat) v,y[i]? =some (some v)->z[i]? =some (some v)):mK X u y H s :=
 #[I.ok,I.os,I.bare,I.mG,let⟨m,q,p⟩:=I.loc;#[m,q,λi x v o n l=>p i x v o (w i v n) l],I.cell,I.free,I.freeC,I.pin,I.hok,r.trans I.len]
def mK.pins_of(I:mK X u z H s)(h:∀p∈x,s.heap.get? p.1=some p.2/\H p.1=none/\p.1≠X.env.locals/\p.1∉X.fs/\∀v,p.2.data≠.cell v):mK X x z H s :=
 #[I.ok,I.os,I.bare,I.mG,I.loc,I.cell,I.free,I.freeC,λp w=>(oA.mp w).elim (λy=>I.pin p<|AI _ y) (h p),I.hok,I.len]
def JE{N:lS lT}(z:N.Nodup){i j:Nat}{x:lT}(a:N[i]? =some x)(b:N[j]? =some x):i=j:=by
 obtain⟨u,y⟩:=pr.mp a;obtain⟨u,w⟩:=pr.mp b;show(List.getElem_inj z).mp (y.trans w.symm)
def YD{M:Model}{A:mi}{E:lV->lW->Prop}{i:Nat}{x:lT}{v:V}{u:lV}{Q:Unit->lW->Prop}(I:mK X c7 z H s)(hN:X.N.Nodup)(B:X.N[i]? =some x)(U:vd X.env.scope x)(r:Yd v u)
  (h:∀s',mK X c7 (z.set i<|some v) H s'->(∃a,Heap.SameBut a s.heap s'.heap/\(a=X.env.locals\/X.env.cells.lookup x=some a))->Q () s') (hf:X.fn x=true\/X.env.scope.names.lookup x=some .local:=by first|show .inl rfl|show .inr rfl|assumption):wpAny M A (storeName X.env x u) Q E s:=by
 obtain⟨m,hn,hl⟩:=id I.loc;have hcls:(X.env.scope.kind ==.class || (X.env.scope.kind ==.module && X.env.locals !=X.env.globals))=false:=by rw[I.ok.kind];rfl
 have L:i<z.length:=by rw[I.len];show(pr.mp B).1
 have cne:=I.cne;have S5:∀{a:lU}{C:ma},(∃o,s.heap.get? a=some o/\H a=none)->Heap.SameBut a s.heap C->ol X.prog X.w H C:=λ{a C} ha l b ob e=>by
  obtain⟨_,_,A8⟩:=ha;refine(I.hok b ob e).stay (λc w' Y q=>(l.2 c ?_).trans q) (λ_ q=>q) λ_ _ q=>q
  rintro rfl;rcases Y with rfl|Y
  ·rw[A8]at e;cases e
  ·rw[A8]at Y;cases Y
 rcases U with J|J
 ·refine wpAny_storeName_local J hn (λC U6 l=>?_) hcls;obtain⟨oL,_,_,hoL,_⟩:=id hn;refine h _ #[I.ok,I.os,I.bare,#[λb o e n G U=>?_,λb o e n G U=>?_,I.mG.free,λb o e U=>?_,I.mG.tups,I.mG.frzs,I.mG.tbls],#[_,U6,λj y v' g N e3=>?_],λy c e=>?_,I.free,I.freeC,λp hp=>?_,S5 #[oL,hoL,I.free] l,by simpa using I.len] #[_,l,.inl rfl]
  ·show(l.2 b<|nU<|pM (nQ e) I.ok.above).trans (I.mG.keep b o e n G U)
  ·obtain⟨sl,g⟩:=I.mG.slot b o e n G U;show#[sl,(l.2 b<|nU<|pM (nQ e) I.ok.above).trans g]
  ·obtain⟨o',g⟩:=I.mG.there b o e U;show#[o',(l.2 b<|nU<|pM (nQ e) I.ok.above).trans g]
  ·by_cases D:j=i
   ·subst D;rw[B]at g;cases g;rw[FQ L]at N;cases N;show#[u,r,.inl #[J,by simp]]
   ·rw[FE (oY D)]at N;obtain⟨u',r',q⟩:=hl j y v' g N e3;refine#[u',r',?_];rcases q with⟨k,e⟩|⟨k,c,e,w⟩
    ·refine .inl #[k,?_];have:y≠x:=λe=>D<|JE hN g<|e ▸ B
     simp[this,e]
    ·show .inr #[k,c,e,w.sameBut l<|cne y c e]
  ·obtain⟨w',w⟩:=I.cell y c e;show#[w',w.sameBut l<|cne y c e]
  ·obtain⟨e,n,ne,nf,d⟩:=I.pin p hp;show#[(l.2 p.1 ne).trans e,n,ne,nf,d]
 ·have N1:X.fn x=true:=by
   rcases hf with w|w
   ·show w
   ·rw[w]at J;cases J
  obtain⟨c,Y⟩:=I.ok.has x<|.inl J;obtain⟨w',w⟩:=I.cell x c Y;refine wpAny_storeName_cell I.ok.kind J Y w λC P5 l=>?_;obtain⟨oc,hoc,hocd⟩:=id w;refine h {s with heap:=C} #[I.ok,I.os,I.bare,#[λb o e n G U=>?_,λb o e n G U=>?_,I.mG.free,λb o e U=>?_,I.mG.tups,I.mG.frzs,I.mG.tbls],#[m,hn.sameBut l<|oY<|cne x c Y,λj y v' g N e3=>?_],λy c' e=>?_,I.free,I.freeC,λp hp=>?_,S5 #[oc,hoc,I.freeC x c Y] l,by simpa using I.len] #[c,l,.inr Y]
  ·show(l.2 b<|nU<|pM (nQ e)<|I.ok.cab x c N1 Y).trans (I.mG.keep b o e n G U)
  ·obtain⟨sl,g⟩:=I.mG.slot b o e n G U;show#[sl,(l.2 b<|nU<|pM (nQ e)<|I.ok.cab x c N1 Y).trans g]
  ·obtain⟨o',g⟩:=I.mG.there b o e U;show#[o',(l.2 b<|nU<|pM (nQ e)<|I.ok.cab x c N1 Y).trans g]
  ·by_cases D:j=i
   ·subst D;rw[B]at g;cases g;rw[FQ L]at N;cases N;show#[u,r,.inr #[.inl J,c,Y,P5]]
   ·rw[FE (oY D)]at N;obtain⟨u',r',q⟩:=hl j y v' g N e3;refine#[u',r',?_];rcases q with q|⟨k,c',e,z'⟩
    ·show .inl q
    ·refine .inr #[k,c',e,z'.sameBut l ?_];rintro rfl;show D<|JE hN g<|I.ok.inj _ _ _ e Y ▸ B
  ·by_cases hcc:c'=c
   ·subst hcc;show#[_,P5]
   ·obtain⟨w2,z2⟩:=I.cell y c' e;show#[w2,z2.sameBut l hcc]
  ·obtain⟨e,n,ne,nf,d⟩:=I.pin p hp;refine#[(l.2 p.1 ?_).trans e,n,ne,nf,d];intro q;rw[q,hoc]at e;have q':oc=p.2:=oF e;show d w' (by rw[<-q'];show hocd)
def Gu{E:lV->lW->Prop}{Q:Unit->lW->Prop}(I:mK X y z H s)(w:X.N.Nodup)(q:X.N[i]? =some x)(p:vd X.env.scope x)(r:Yd v u)
  (h:∀s',mK X y (z.set i<|some v) H s'->Q () s') (o:X.fn x=true\/X.env.scope.names.lookup x=some .local:=by first|show .inl rfl|show .inr rfl|assumption):wpAny M A (storeName X.env x u) Q E s :=
 YD I w q p r (λs' n _=>h s' n) o
def mK.call'(I:mK X w z H s)(q:s'.os=s.os)(u:Un (oi X.stack) ch H r s.heap s'.heap)(y:ol X.prog X.w r s'.heap)(o:AllBare s'.gens)
  (n:∀b∈ch,(b∈X.ex\/X.ml.heap.objs.size<=b)/\b≠X.env.locals/\(∀x c,X.env.cells.lookup x=some c->c≠b)/\∀p∈X.pn++w,p.1≠b):mK X w z r s':=by
 obtain⟨g,l,j,i,h⟩:=s';have e:h=s.os:=q;subst e;show I.call (g':=l) (t':=i) (d':=j) u y o n
abbrev XK:=lV->lX lU->Hp->Prop
abbrev St:=lS<|lX V
abbrev VK:=V->Hp->Prop
abbrev TE:=St->Hp->VK->Prop
abbrev TT:=St->Hp->(Bool->Hp->Prop)->Prop
abbrev TA:=St->Hp->(lS V->Hp->Prop)->Prop
structure pV where
 nx:St->Hp->Prop
 rt:VK
 bk:St->Hp->Prop:=λ_ _=>False
 ct:St->Hp->Prop:=λ_ _=>False
abbrev TS:=pV->St->Hp->Prop
def EP(X:Cx)(x:lS (lU×Obj))(z:St)(Q:VK)(u:lV)(s':lW):Prop:=∃v y,mK X x z y s'/\Yd v u/\Q v y
def TP(X:Cx)(x:lS (lU×Obj))(z:St)(Q:Bool->Hp->Prop)(b:Bool)(s':lW):Prop:=∃y,mK X x z y s'/\Q b y
def AP(X:Cx)(w:lS (lU×Obj))(z:St)(Q:lS V->Hp->Prop)(us:lS lV)(s':lW):Prop:=∃y x,mK X w z x s'/\Z8 y us/\Q y x
def SP(X:Cx)(x:lS (lU×Obj))(D:pV)(f:Flow)(s':lW):Prop :=
 match f with
 | .next=>∃z y,mK X x z y s'/\D.nx z y
 | .brk=>∃z y,mK X x z y s'/\D.bk z y
 | .cont=>∃z y,mK X x z y s'/\D.ct z y
 | .ret u=>∃v z y,mK X x z y s'/\Yd v u/\D.rt v y
def PE(X:Cx)(e:me)(t:TE):Prop :=
 ∀(y:lS (lU×Obj)) (s:lW) (z:St) (H:Hp) (Q:VK),mK X y z H s->t z H Q->wpAny (model X.prog X.w) X.A (eval e X.env) (EP X y z Q) X.xe s
def PT(X:Cx)(e:me)(t:TT):Prop :=
 ∀(y:lS (lU×Obj)) (s:lW) (z:St) (H:Hp) (Q:Bool->Hp->Prop),mK X y z H s->t z H Q->wpAny (model X.prog X.w) X.A (isTrue e X.env<|eval e X.env) (TP X y z Q) X.xe s
def PW(X:Cx)(e:me)(t:TT):Prop :=
 ∀(x:Sem lV)(y:lS (lU×Obj)) (s:lW) (z:St) (H:Hp) (Q:Bool->Hp->Prop),mK X y z H s->t z H Q->wpAny (model X.prog X.w) X.A (isTrue e X.env x) (TP X y z Q) X.xe s
def PW.pt(h:PW X e t):PT X e t:=h _
def PA(X:Cx)(w:lS me)(t:TA):Prop :=
 ∀(y:Pos)(x:lS (lU×Obj)) (s:lW) (z:St) (H:Hp) (Q:lS V->Hp->Prop),mK X x z H s->t z H Q->wpAny (model X.prog X.w) X.A (spliced<|backTo y<|starEach w X.env) (AP X x z Q) X.xe s
def PS(X:Cx)(st:lZ)(t:TS):Prop :=
 ∀(y:lS (lU×Obj)) (s:lW) (z:St) (H:Hp) (D:pV),mK X y z H s->t D z H->wpAny (model X.prog X.w) X.A (exec st X.env) (SP X y D) X.xe s
def qL(X:Cx)(st:lS lZ)(t:TS):Prop :=
 ∀(y:lS (lU×Obj)) (s:lW) (z:St) (H:Hp) (D:pV),mK X y z H s->t D z H->wpAny (model X.prog X.w) X.A (execs st X.env) (SP X y D) X.xe s
def ng{z:Type}{t:Sem z}{Q y:z->lW->Prop}{E:lV->lW->Prop}(h:wpAny M A t Q E s)(w:∀a s,Q a s->y a s):wpAny M A t y E s:=pT h w λ_ _ x=>x
section
variable {X:Cx}
def FO(n:PE X a l)(j:PE X b i){R:V->V->Hp->Prop}(I:mK X p z H s)(h:l z H λx o=>i z o λw r=>R x w r)
  {y:Type} {Q:y->lW->Prop} {f:lV->lV->Sem y}
  (g:∀v u q x w r,mK X p z r q->Yd x v->Yd w u->R x w r->wpAny (model X.prog X.w) X.A (f v u) Q X.xe q) :
  wpAny (model X.prog X.w) X.A (eval a X.env) (λv e=>wpAny (model X.prog X.w) X.A (eval b X.env) (λu d=>wpAny (model X.prog X.w) X.A (f v u) Q X.xe d) X.xe e) X.xe s:=by
 refine ng (n p s z H _ I h) λv c ⟨x,o,Y,U,N⟩=>?_
 refine ng (j p c z o _ Y N) λu q ⟨w,r,M,L,J⟩=>?_
 show g v u q x w r M U L J
def oB:V->(Bool->Prop)->Prop
 | .bl c,k=>k c
 | _,_=>False
def oB.out{x:V}{k:Bool->Prop}(h:oB x k):∃c,x=.bl c/\k c:=by cases x<;>first|show#[_,rfl,h]|show False.elim h
def oB.t{b:Bool}{k:Bool->Prop}(e:b=true)(h:k true):oB (.bl b) k:=by subst e;show h
def oB.f{b:Bool}{k:Bool->Prop}(e:b=false)(h:k false):oB (.bl b) k:=by subst e;show h
def oI:V->(Int->Prop)->Prop
 | .int i,k=>k i
 | _,_=>False
def oI.out{x:V}{k:Int->Prop}(h:oI x k):∃i,x=.int i/\k i:=by cases x<;>first|show#[_,rfl,h]|show False.elim h
def oC:lS V->(V->lS V->Prop)->Prop
 | v ::r,k=>k v r
 | [],_=>False
theorem oC.out:∀{l:lS V}{k:V->lS V->Prop},oC l k->∃v r,l=v ::r/\k v r
 | _ ::_,_,h=>#[_,_,rfl,h]
def oV:lX (lX V)->(V->Prop)->Prop
 | some (some v),k=>k v
 | _,_=>False
def oV.of{o:lX (lX V)}{k:V->Prop}{v:V}(e:o=some (some v))(h:k v):oV o k:=by subst e;show h
theorem oV.out:∀{o:lX (lX V)}{k:V->Prop},oV o k->∃v,o=some (some v)/\k v
 | some (some _),_,h=>#[_,rfl,h]
 | some none,_,h=>nomatch h
 | none,_,h=>nomatch h
def ro(i:Nat):TE:=λz H Q=>oV z[i]? λv=>Q v H
def tC(v:V):TE:=λ_ H Q=>Q v H
def Yft(p:X.N[i]? =some x)(o:Dt X.env.scope x)(hd:(x ==("__debug__":lT))=false:=by lk)(n:(x ==("__classdict__":lT))=false:=by lk):PE X (.Name x pos) (ro i):=by
 intro j s z H Q I h;obtain⟨v,e,h⟩:=oV.out h;obtain⟨m,g,d⟩:=I.loc;obtain⟨u,r,l⟩:=d i x v p e o;have fin:EP X j z Q u s:=#[v,H,I,r,h]
 rcases l with⟨w,a⟩|⟨w,c,q,y⟩
 ·show wpAny_Name (wpAny_loadName_local I.ok.kind w g a fin) hd
 ·rcases w with w|w
  ·show wpAny_Name (wpAny_loadName_cell I.ok.kind w q y fin) hd
  ·show wpAny_Name (wpAny_loadName_free I.ok.kind w q y fin n) hd
def Ze{i j pos}:PE X (.Constant (.int i) j pos) (tC<|.int i):=λ_ _ _ H _ I h=>wpAny_Constant_int #[.int i,H,I.tok _,#[_,rfl],h]
def qM{b j pos}:PE X (.Constant (.bool b) j pos) (tC<|.bl b):=λ_ _ _ H _ I h=>Constant_bool #[.bl b,H,I,rfl,h]
def rV{j pos}:PE X (.Constant .none j pos) (tC .non):=λ_ _ _ H _ I h=>Constant_none #[.non,H,I,rfl,h]
def Zg{x j pos}:PE X (.Constant (.str x) j pos) (tC<|.str x):=λ_ _ _ H _ I h=>Calls.Constant_str #[.str x,H,I.tok _,#[_,rfl],h]
def Gl(X:Cx)(x:lT):Prop:=X.env.kindOf x=some .globalImplicit
def xJ{E:lV->lW->Prop}{Q:lV->lW->Prop}(I:mK X r z H s)(y:Gl X x)(w:X.mg x=some u)(h:Q u s)
  (hd:(x ==("__debug__":lT))=false:=by lk):wpAny (model X.prog X.w) X.A (eval (.Name x pos) X.env) Q E s :=
 Js I.ok.kind y (Calls.loadGlobal_global (by rw[I.ok.glob];show I.mod.glob.keeps I.bk) w h) hd
def ww{E:lV->lW->Prop}{Q:lV->lW->Prop}(I:mK X n z H s)(y:Gl X x)(w:X.mg x=none)(r:bootBuiltins x=some u)(h:Q u s)
  (q:x≠ "__name__":=by lk) (hd:(x ==("__debug__":lT))=false:=by lk):wpAny (model X.prog X.w) X.A (eval (.Name x pos) X.env) Q E s:=by
 obtain⟨l,p,o⟩:=I.mod.blt;show Js I.ok.kind y (Calls.loadGlobal_builtin (by rw[I.ok.glob];show I.mod.glob.keeps I.bk) w (by rw[I.ok.blt];show p.keeps I.bk) ((o x q).trans r) h) hd
def X4(z:Gl X x)(y:X.mg x=some u)(r:Yd v u)(hd:(x ==("__debug__":lT))=false:=by lk):PE X (.Name x pos) (tC v) :=
 λ_ _ _ H _ I h=>xJ I z y #[v,H,I,r,h] hd
def Pu(z:Gl X x)(y:X.mg x=none)(w:bootBuiltins x=some u)(r:Yd v u)(s:x≠ "__name__":=by lk)(hd:(x ==("__debug__":lT))=false:=by lk):PE X (.Name x pos) (tC v) :=
 λ_ _ _ H _ I h=>ww I z y w #[v,H,I,r,h] s hd
variable {a b:me} {ta tb:TE} {pos:Pos}
def tB(t:TE):TT:=λz H Q=>t z H λx y=>oB x λc=>Q c y
def Yo(h:PE X e t)(he:∀y,isTrue e X.env y=(do let v <-y;standAt e.pos;holding [v] (truthy v)):=by intro _;rfl):PT X e (tB t):=by
 intro w s z H Q I u;refine isTrue_plain (ng (h w s z H _ I u) λv l ⟨x,r,p,o,n⟩=>?_)<|he _;obtain⟨d,rfl,q⟩:=oB.out n;cases o;show tU #[r,p,q]
variable {tA tB':TT} {Zt:lS me}
def Yiz(t u:TT):TT:=λz H Q=>t z H λc y=>if c=true then u z y Q else Q false y
def Tw(t u:TT):TT:=λz H Q=>t z H λc y=>if c=true then Q true y else u z y Q
def TW(t:TT):TT:=λz H Q=>t z H λc y=>Q (!c) y
def vc(y:PT X a tA):PW X (.BoolOp .And [a] pos) tA:=by
 intro w x s z H Q I h;refine isTrue_and<|ng (y x s z H Q I h) λc u e=>?_;cases c with
 | true=>show isTrue_and_nil e
 | false=>show e
def rJ(y:PT X a tA):PW X (.BoolOp .Or [a] pos) tA:=by
 intro w x s z H Q I h;refine isTrue_or<|ng (y x s z H Q I h) λc u e=>?_;cases c with
 | false=>show isTrue_or_nil e
 | true=>show e
def uC(r:PT X a tA)(q:PW X (.BoolOp .And (b ::Zt) pos) tB'):PW X (.BoolOp .And (a ::b ::Zt) pos) (Yiz tA tB'):=by
 intro p y s z H Q I h;refine isTrue_and<|ng (r y s z H _ I h) λc o ⟨x,w,u⟩=>?_;cases c with
 | true=>show q p y o z x Q w u
 | false=>show#[x,w,u]
def qp(r:PT X a tA)(q:PW X (.BoolOp .Or (b ::Zt) pos) tB'):PW X (.BoolOp .Or (a ::b ::Zt) pos) (Tw tA tB'):=by
 intro p y s z H Q I h;refine isTrue_or<|ng (r y s z H _ I h) λc o ⟨x,w,u⟩=>?_;cases c with
 | true=>show#[x,w,u]
 | false=>show q p y o z x Q w u
def Y9(y:PT X a tA):PT X (.UnaryOp .Not a pos) (TW tA):=by
 intro x s z H Q I h;show isTrue_not<|y x s z H (λc w=>Q (!c) w) I h
def Ui(ta tb:TE):TE:=λz H Q=>ta z H λx y=>oB x λc=>if c=true then tb z y Q else Q (.bl false) y
def WX(ta tb:TE):TE:=λz H Q=>ta z H λx y=>oB x λc=>if c=true then Q (.bl true) y else tb z y Q
def xX{op}(h:PE X a t):PE X (.BoolOp op [a] pos) t:=λy s z H Q I x=>BoolOp_one<|h y s z H Q I x
def xt(q:PE X a ta)(p:PE X (.BoolOp .And (b ::Zt) pos) tb):PE X (.BoolOp .And (a ::b ::Zt) pos) (Ui ta tb):=by
 intro w s z H Q I h;refine BoolOp_and<|ng (q w s z H _ I h) λv o ⟨x,u,r,n,y⟩=>?_;obtain⟨c,rfl,y⟩:=oB.out y;cases n;refine tU ?_;cases c with
 | true=>show p w o z u Q r y
 | false=>show#[.bl false,u,r,rfl,y]
def YJ(q:PE X a ta)(p:PE X (.BoolOp .Or (b ::Zt) pos) tb):PE X (.BoolOp .Or (a ::b ::Zt) pos) (WX ta tb):=by
 intro w s z H Q I h;refine BoolOp_or<|ng (q w s z H _ I h) λv o ⟨x,u,r,n,y⟩=>?_;obtain⟨c,rfl,y⟩:=oB.out y;cases n;refine tU ?_;cases c with
 | false=>show p w o z u Q r y
 | true=>show#[.bl true,u,r,rfl,y]
def TF(t:TT)(ta tb:TE):TE:=λz H Q=>t z H λc y=>if c=true then ta z y Q else tb z y Q
def W5(q:PT X c tA)(p:PE X a ta)(o:PE X b tb):PE X (.IfExp c a b pos) (TF tA ta tb):=by
 intro y s z H Q I h;refine wpAny_IfExp<|ng (q y s z H _ I h) λd x ⟨w,u,r⟩=>?_;cases d with
 | true=>show p y x z w Q u r
 | false=>show o y x z w Q u r
end
def SqL(K:lY)(H:Hp)(a:lU)(xs:lS V):Prop :=
 Rd H a (.lst xs)\/
  ∃(o:Obj)(z:Array lV)(n:Nat),K.lookup a=some o/\o.cls=.type "list"/\o.dict=none/\o.data=.seq z n/\z.size<=sizeLine/\Z8 xs z.toList
def SqT(K:lY)(H:Hp)(a:lU)(xs:lS V):Prop :=
 Rd H a (.tup xs)\/
  ∃(o:Obj)(z:Array lV)(n:Nat),K.lookup a=some o/\o.cls=.type "tuple"/\o.data=.seq z n/\z.size<=sizeLine/\Z8 xs z.toList
def Yiy:lV->lX V
 | .none=>some .non
 | .bool b=>some (.bl b)
 | .int i _=>some (.int i)
 | .str x _=>some (.str x)
 | .bytes b _=>some (.byt b)
 | .float b _=>some (.flt b)
 | .ref a=>some (.ref a)
 | .type n=>some (.ty n)
 | _=>none
def Yd.abs(r:Yd x u):Yiy u=some x:=by
 cases x with
 | non=>cases r;rfl
 | bl _=>cases r;rfl
 | int _=>obtain⟨t,rfl⟩:=r;rfl
 | str _=>obtain⟨t,rfl⟩:=r;rfl
 | byt _=>obtain⟨t,rfl⟩:=r;rfl
 | flt _=>obtain⟨t,rfl⟩:=r;rfl
 | ref _=>cases r;rfl
 | ty _=>cases r;rfl
def Yd.inj(r:Yd x u)(q:Yd y u):x=y:=oF<|r.abs.symm.trans q.abs
def Z8.inj{xs z:lS V}{us:lS lV}(h:Z8 xs us)(h':Z8 z us):xs=z:=by
 induction h generalizing z with
 | nil=>cases h';rfl
 | cons r t y=>cases h' with
  | cons x w=>rw[r.inj x,y w]
def SqL.of{K:lY}(h:H a=some (.lst xs)):SqL K H a xs:=.inl<|.inl h
def SqT.of{K:lY}(h:H a=some (.tup xs)):SqT K H a xs:=.inl<|.inl h
def mK.list(I:mK X p z H s)(h:SqL X.K H a xs):∃x:lS lV,Z8 xs x/\PlainL s.heap a x.toArray/\xs.length<=sizeLine:=by
 rcases h with h|⟨o,x,n,w,u,hd,q,y,r⟩
 ·obtain⟨y,x,n,r,e⟩:=h.ok I.hok;show#[x,r,#[_,n,e,rfl,rfl,rfl],y]
 ·refine#[x.toList,r,#[o,n,I.kIn a o w,u,hd,by simpa using q],?_];have e:=r.length;simp only[ub]at e;lia
def mK.tuple(I:mK X l z H s)(h:SqT X.K H a xs):∃x:lS lV,Z8 xs x/\IsTup s.heap a x.toArray/\xs.length<=sizeLine:=by
 rcases h with h|⟨o,x,n,w,u,q,y,r⟩
 ·obtain⟨y,x,r,p⟩:=h.ok I.hok;show#[x,r,p,y]
 ·refine#[x.toList,r,#[o,I.kIn a o w,u,n,by simpa using q],?_];have e:=r.length;simp only[ub]at e;lia
def mK.list_inj(I:mK X j z H s)(h:SqL X.K H a xs)(h':SqL X.K H a u):xs=u:=by
 obtain⟨q,r,⟨o,n,e,_,_,d⟩,_⟩:=I.list h;obtain⟨y,p,⟨o,n,x,_,_,w⟩,_⟩:=I.list h';rw[e]at x;cases x;rw[d]at w
 injection w with l _
 have:q=y:=by simpa using oN Array.toList l
 subst this;show r.inj p
def mK.tuple_inj(I:mK X j z H s)(h:SqT X.K H a xs)(h':SqT X.K H a u):xs=u:=by
 obtain⟨q,r,⟨o,e,_,n,d⟩,_⟩:=I.tuple h;obtain⟨y,p,⟨o,x,_,n,w⟩,_⟩:=I.tuple h';rw[e]at x;cases x;rw[d]at w
 injection w with l _
 have:q=y:=by simpa using oN Array.toList l
 subst this;show r.inj p
abbrev Cx.wish(X:Cx)(E:lV->lW->Prop):Cx:={X with xe:=E}
abbrev Cx.nox(X:Cx):Cx:=X.wish λ_ _=>False
def Cx.Ok.wish{X:Cx}(ok:X.Ok)(E:lV->lW->Prop):(X.wish E).Ok :=
 #[ok.mod,ok.kind,ok.glob,ok.blt,ok.above,ok.inj,ok.has,ok.cab,ok.hd,ok.frames,ok.stk,ok.exf,ok.bs,ok.bsz,ok.noex,ok.exfs,ok.funs,ok.frf]
def Cx.Ok.unwish{X:Cx}{E:lV->lW->Prop}(ok:(X.wish E).Ok):X.Ok :=
 #[ok.mod,ok.kind,ok.glob,ok.blt,ok.above,ok.inj,ok.has,ok.cab,ok.hd,ok.frames,ok.stk,ok.exf,ok.bs,ok.bsz,ok.noex,ok.exfs,ok.funs,ok.frf]
section
variable {E:lV->lW->Prop}
def mK.wish(I:mK X y z H s)(E:lV->lW->Prop):mK (X.wish E) y z H s:=#[I.ok.wish E,I.os,I.bare,I.mG,I.loc,I.cell,I.free,I.freeC,I.pin,I.hok,I.len]
def mK.unwish(I:mK (X.wish E) y z H s):mK X y z H s:=#[I.ok.unwish,I.os,I.bare,I.mG,I.loc,I.cell,I.free,I.freeC,I.pin,I.hok,I.len]
def SP.unwish(h:SP (X.wish E) x D f s'):SP X x D f s':=by
 cases f with
 | next=>obtain⟨z,y,I,q⟩:=h;show#[z,y,I.unwish,q]
 | brk=>obtain⟨z,y,I,q⟩:=h;show#[z,y,I.unwish,q]
 | cont=>obtain⟨z,y,I,q⟩:=h;show#[z,y,I.unwish,q]
 | ret u=>obtain⟨v,z,y,I,r,q⟩:=h;show#[v,z,y,I.unwish,r,q]
def qL.nox{st:lS lZ}{t:TS}(h:qL X.nox st t):qL X st t:=λx s z H D I w =>
 pT (h x s z H D (I.wish _) w) (λ_ _ q=>q.unwish) λ_ _ y=>False.elim y
end
section
variable {st:lZ} {Zt:lS lZ} {t u:TS} {e:me} {te:TE} {pos:Pos}
def VN:TS:=λD z H=>D.nx z H
def Yjc(t u:TS):TS:=λD z H=>t {D with nx:=u D} z H
def Zj:qL X [] VN:=λ_ _ z H _ I h=>Au #[z,H,I,h]
def Zzd(w:PS X st t)(r:qL X Zt u):qL X (st ::Zt) (Yjc t u):=by
 intro x s z H D I h;refine Ck<|ng (w x s z H {D with nx:=u D} I h) λf p q=>?_;cases f with
 | next =>
  obtain⟨y,o,n,q⟩:=q;show r x p y o D n q
 | ret v=>show q
 | brk=>show q
 | cont=>show q
def Ybc(y:PS X st t):qL X [st] t:=by
 intro x s z H D I h;refine Ck<|ng (y x s z H D I h) λf w q=>?_;cases f with
 | next=>show Au q
 | ret v=>show q
 | brk=>show q
 | cont=>show q
def UR:TS:=λD z H=>D.ct z H
def Ztu:PS X (.Continue pos) UR:=λ_ _ z H _ I h=>wpAny_Continue #[z,H,I,h]
def mK.quiet(I:mK X y z H s):interactive X.env=false:=by simp[interactive,I.ok.kind]
def Ygu(te:TE):TS:=λD z H=>te z H λ_ y=>D.nx z y
def Z1(he:PE X e te)(y:swapsWith e none pos.line X.env=pure false:=by rfl):PS X (.Expr e pos) (Ygu te):=by
 intro w s z H D I h;show wpAny_Expr_any (ng (he w s z H _ I h) λv o ⟨x,r,q,n,p⟩=>#[z,r,q,p]) I.quiet y
def Sj(te:TE):TS:=λD z H=>te z H D.rt
def Zl(he:PE X e te):PS X (.Return (some e) pos) (Sj te):=by
 intro y s z H D I h;show wpAny_Return_some<|ng (he y s z H _ I h) λv o ⟨x,w,r,q,p⟩=>#[x,z,w,r,q,p]
def Yhb:TS:=λD _ H=>D.rt .non H
def QK:PS X (.Return none pos) Yhb:=λ_ _ z H _ I h=>wpAny_Return_none #[.non,z,H,I,rfl,h]
def Yix(c:TT)(t u:TS):TS:=λD z H=>c z H λb y=>if b=true then t D z y else u D z y
def Zu(p:PT X c o)(n:qL X a t)(l:qL X b u):PS X (.If c a b pos) (Yix o t u):=by
 intro y s z H D I h;refine wpAny_If<|ng (p y s z H _ I h) λd x ⟨w,r,q⟩=>?_;cases d with
 | true=>show n y x z w D r q
 | false=>show l y x z w D r q
end
abbrev TG:=V->St->Hp->(St->Hp->Prop)->Prop
abbrev xz:=lS V->St->Hp->(St->Hp->Prop)->Prop
def PG(X:Cx)(r:me)(t:TG):Prop :=
 ∀(x:lS (lU×Obj)) (s:lW) (z:St) (H:Hp) (v:V) (u:lV) (Q:St->Hp->Prop),mK X x z H s->Yd v u->t v z H Q->
  wpAny (model X.prog X.w) X.A (assign r X.env u) (λ_ q=>∃y w,mK X x y w q/\Q y w) X.xe s
def yx(X:Cx)(ts:lS me)(t:xz):Prop :=
 ∀(x:lS (lU×Obj)) (s:lW) (z:St) (H:Hp) (w:lS V) (u:lS lV) (Q:St->Hp->Prop),mK X x z H s->Z8 w u->t w z H Q->
  wpAny (model X.prog X.w) X.A (assignInOrder ((assignEach ts X.env).map (·.2)) u) (λ_ q=>∃y r,mK X x y r q/\Q y r) X.xe s
def qX(i:Nat):TG:=λv z H Q=>Q (z.set i<|some v) H
def Hw(y:X.N.Nodup)(w:X.N[i]? =some x)(q:vd X.env.scope x)(p:X.fn x=true\/X.env.scope.names.lookup x=some .local:=by first|show .inl rfl|show .inr rfl|assumption):PG X (.Name x pos) (qX i):=by
 intro n s z H v u Q I r h;show wpAny_assign_Name<|Gu I y w q r (λl o=>#[_,H,o,h]) p
def Op:xz:=λy z H Q=>y=[]/\Q z H
def Fk(t:TG)(u:xz):xz:=λx z H Q=>oC x λv r=>t v z H λy w=>u r y w Q
def Xz:yx X [] Op:=by
 intro y s z H x w Q I r h;obtain⟨e,h⟩:=h;subst e;cases r;show assignInOrder_nil #[z,H,I,h]
def Z3(q:PG X e t)(p:yx X y u)
  (o:(assignEach (e ::y) X.env).map (·.2)=assign e X.env ::(assignEach y X.env).map (·.2):=by rfl):yx X (e ::y) (Fk t u):=by
 intro w s z H c a Q I r h;obtain⟨v,x,n,h⟩:=oC.out h;subst n;cases r with
 | cons r l =>
  rw[o];refine assignInOrder_cons<|ng (q w s z H _ _ _ I r h) λ_ j ⟨x,i,g,d⟩=>?_;show p w j x i _ _ Q g l d
inductive GT(S:Hp->Addr->List V->Prop)(n:Nat)(H:Hp)(k:List V->Prop):V->Prop
 | mk {a xs}:S H a xs->xs.length=n->k xs->GT S n H k (.ref a)
def EO(K:lY)(n:Nat)(t:xz):TG:=λv z H Q=>GT (SqT K) n H (λy=>t y z H Q) v
def tL(p:X.calm=true)(h:yx X y t)
  (l:(assignEach y X.env).length=n:=by rfl) (j:(assignEach y X.env).findIdx? (·.1)=none:=by rfl):PG X (.Tuple y k pos) (EO X.K n t):=by
 intro w s z H v u Q I r x;obtain@⟨a,i,g,d,x⟩:=x;cases r;obtain⟨a,q,c,M⟩:=I.tuple g;refine assign_Tuple_tuple (I.ok.hd p) c (by simp[l,<-d,q.length]) j λY U=>?_
 have N:mK X w z H {s with heap:=Y}:=I.kept (t':=s.toks) λb o e=>U b o (nU<|nQ e) e
 show h w _ z H i _ Q N (by simpa using q) x
def zL(y:TE)(g:TG):TS:=λD z H=>y z H λx w=>g x z w D.nx
def KP(he:PE X e u)(r:PG X y g)(p:swapsWithSole [y] e pos.line X.env=pure false:=by rfl)(o:swappedStores [y] e X.env=pure none:=by rfl)
  (n:(assignEach [y] X.env).map (·.2)=[assign y X.env]:=by rfl):PS X (.Assign [y] e pos) (zL u g):=by
 intro w s z H D I h;refine wpAny_Assign_stores (ng (he w s z H _ I h) λv l ⟨x,j,i,d,c⟩=>?_) p o;rw[n];show ng (r w l z j x v _ i d c) λ_ a q=>q
def Ud(w:X.N.Nodup)(u:X.N[i]? =some x)(r:vd X.env.scope x)(he:PE X e q)(p:swapsWith e (some<|.Name x o) pos.line X.env=pure false:=by rfl)(n:X.fn x=true\/X.env.scope.names.lookup x=some .local:=by first|show .inl rfl|show .inr rfl|assumption) :
  PS X (.Assign [.Name x o] e pos) (zL q<|qX i):=by
 intro l s z H D I h;refine wpAny_Assign_Name (ng (he l s z H _ I h) λv a ⟨y,j,g,d,c⟩=>?_) p;show Gu g w u r d (λa y=>#[_,j,y,c]) n
structure It where
 go:Nat->Hp->Prop
 yld:Nat->Hp->V->Hp->Prop
 stop:Nat->Hp->Prop
def sV(X:Cx)(z:lS (lU×Obj))(H:Hp)(b:lU):Prop :=
 H b=none/\b≠X.env.locals/\b∉X.fs/\(b∈X.ex\/X.ml.heap.objs.size<=b)/\(∀x c,X.env.cells.lookup x=some c->c≠b)/\∀p∈X.pn++z,p.1≠b
def mK.fpOk(I:mK X u z H s)(w:#v[s]<=b)(r:o b=none):sV X u o b:=by
 refine#[r,xA<|pM I.lt w,I.nofs w,.inr<|oo I.sz w,λx c e y=>?_,λp n y=>?_]
 ·obtain⟨v,q⟩:=I.cell x c e;show absurd (pM q.lt (by rw[y];show w))<|qT _
 ·show absurd (pM (nQ (I.pin p n).1) (by rw[y];show w))<|qT _
structure ut(P:Program)(w:World)(K:Frag)(tg:Expr)(J:It)(fp:List Addr)(it:Addr)(tn:Nat->Heap->Prop):Prop where
 mem:it∈fp
 obj:∀i h,tn i h->∀b∈fp,∃o,h.get? b=some o/\∀v,o.data≠.cell v
 keep:∀i h h',tn i h->(∀b∈fp,∀o,h.get? b=some o->h'.get? b=some o)->tn i h'
 item:∀(X:Cx),X.prog=P->X.w=w->X.K=K->X.calm=true->∀(i:Nat)(c7:List (Addr×Obj)) (s:Shared) (σ:St) (H:Hp) (E:Value->Shared->Prop),mK X c7 σ H s->(∀b∈fp,sV X c7 H b)->tn i s.heap->J.go i H->
  wpAny (model P w) X.A (pyNext<|.ref it) (λr s1=>∃u,r=some u/\
   wpAny (model P w) X.A (letOwnedTupleGo tg (.ref it) u) (λ_ s2=>∃x H',mK X c7 σ H' s2/\Yd x u/\J.yld i H x H'/\tn (i+1) s2.heap/\∀b∈fp,H' b=none) E s1) E s
 done:∀(X:Cx),X.prog=P->X.w=w->X.K=K->X.calm=true->∀(i:Nat)(c7:List (Addr×Obj)) (s:Shared) (σ:St) (H:Hp) (E:Value->Shared->Prop),mK X c7 σ H s->(∀b∈fp,sV X c7 H b)->tn i s.heap->J.stop i H->
  wpAny (model P w) X.A (pyNext<|.ref it) (λr s1=>r=none/\mK X c7 σ H s1) E s
 self:∀(A:Around)(i:Nat)(s:Shared)(Q:Value->Shared->Prop)(E:Value->Shared->Prop),tn i s.heap->Q (.ref it) s->wpAny (model P w) A (pyIter<|.ref it) Q E s
abbrev TI:=St->Hp->(It->Hp->Prop)->Prop
def JX(X:Cx)(w:lS (lU×Obj))(z:St)(p:me)(R:It->Hp->Prop)(y:lV)(u:lW):Prop :=
 ∃(s:lU)(r:lS lU)(q:Nat->ma->Prop)(J:It)(x:Hp),y=.ref s/\mK X w z x u/\ut X.prog X.w X.K p J r s q/\q 0 u.heap/\(∀b∈r,sV X w x b)/\R J x
def PI(X:Cx)(x w:me)(u:TI):Prop :=
 ∀(y:lS (lU×Obj)) (s:lW) (z:St) (H:Hp) (R:It->Hp->Prop),mK X y z H s->u z H R->
  wpAny (model X.prog X.w) X.A (eval w X.env) (λv r=>wpAny (model X.prog X.w) X.A (pyIter v) (JX X y z x R) X.xe r) X.xe s
def xc{E:lV->lW->Prop}{Q:Unit->lW->Prop}(y:s.heap.get? it=some o)(x:o.cls=.type n)(hd:o.data=.fields vs)
    (w:["enumerate","zip","dict_itemiterator","dict_reverseitemiterator","odict_iterator","itertools.zip_longest","itertools.pairwise"].contains n=false) (z:Q () s):wpAny M A (letOwnedTupleGo r (.ref it) u) Q E s:=by
  unfold letOwnedTupleGo;cases r<;>first
    | show nI z
    | (cases u<;>first
        | show nI z
        | (refine mT<|wpAny_load y ?_
           rw[x,hd];change wpAny M A (if(["enumerate","zip","dict_itemiterator","dict_reverseitemiterator","odict_iterator","itertools.zip_longest","itertools.pairwise"].contains n && vs[0]? ==some (rawInt _))=true then _ else _) Q E s;rw[mV (by intro h;rw[w,Bool.false_and]at h;cases h)];show nI z))
def tV(K:lY)(a:lU):It :=
 #[λi H=>∃z x,SqL K H a z/\z[i]? =some x,λi H x y=>y=H/\∀z,SqL K H a z->z[i]? =some x,λi H=>∃z,SqL K H a z/\z.length<=i]
def xO(K:lY)(a:lU):It :=
 #[λi H=>∃z x,SqT K H a z/\z[i]? =some x,λi H x y=>y=H/\∀z,SqT K H a z->z[i]? =some x,λi H=>∃z,SqT K H a z/\z.length<=i]
def vR(lo:Int)(n:Nat):It:=#[λi _=>i<n,λi H x z=>z=H/\x=.int (lo+i),λi _=>n<=i]
def Vv{P:mh}{w:md}{K:lY}{tg:me}(a it:lU):ut P w K tg (tV K a) [it] it (λi h=>h.IsListIter it a i) where
 mem:=by simp
 obj:=λi h st b r=>by
  have e:b=it:=by simpa using r
  subst e;obtain⟨o,e,c,d⟩:=st;show#[o,e,λv y=>by rw[d]at y;cases y]
 keep:=λi h q st k=>st.at λo e=>k it (by simp) o e
 item:=by
  intro X j g Y C i B s z H E I n st U;subst j g Y;obtain⟨xs,x,l,Q⟩:=U;obtain⟨c8,N,p,hz⟩:=I.list l;obtain⟨u,hu,ru⟩:=N.get Q;obtain⟨M,L,f2,J,G,D⟩:=n it (by simp);refine Eg st p.isList (x:=u) (by simpa using hu) λq A sb=>?_
  have I1:mK X B z H {s with heap:=q}:=I.turned (t':=s.toks) (λb o r e=>(sb.2 b r).trans e) M L J G D;obtain⟨o,e,c,d⟩:=id A;show#[u,rfl,xc (s:={s with heap:=q}) e c d (by lk) #[x,H,I1,ru,#[rfl,λys y=>by rw[I.list_inj y l];show Q],A,λb r=>(n b r).1]]
 done:=by
  intro X j g Y C i B s z H E I n st U;subst j g Y;obtain⟨xs,l,Q⟩:=U;obtain⟨c8,N,p,hz⟩:=I.list l;obtain⟨M,L,f2,J,G,D⟩:=n it (by simp);have hl:=N.length;show Ev (I.ok.hd C) st p.isList (by simp;lia) λq eb=>#[rfl,I.turned (t':=s.toks) (λb o r e=>eb b o r e) M L J G D]
 self:=λ_ _ _ _ _ st h=>wpAny_pyIter_listiter st h
def Zui{P:mh}{w:md}{K:lY}{tg:me}(a it:lU):ut P w K tg (xO K a) [it] it (λi h=>h.IsTupleIter it a i) where
 mem:=by simp
 obj:=λi h st b r=>by
  have e:b=it:=by simpa using r
  subst e;obtain⟨o,e,c,d⟩:=st;show#[o,e,λv y=>by rw[d]at y;cases y]
 keep:=λi h q st k=>st.at λo e=>k it (by simp) o e
 item:=by
  intro X j g Y B i A s z H E I n st U;subst j g Y;obtain⟨xs,x,l,Q⟩:=U;obtain⟨N,M,p,hz⟩:=I.tuple l;obtain⟨u,hu,ru⟩:=M.get Q;obtain⟨L,J,f2,G,D,C⟩:=n it (by simp);refine wpAny_pyNext_tuple_item st (show s.heap.IsTuple a N.toArray from p) (x:=u) (by simpa using hu) λq C1 sb=>?_
  have I1:mK X A z H {s with heap:=q}:=I.turned (t':=s.toks) (λb o r e=>(sb.2 b r).trans e) L J G D C;obtain⟨o,e,c,d⟩:=id C1;show#[u,rfl,xc (s:={s with heap:=q}) e c d (by lk) #[x,H,I1,ru,#[rfl,λys y=>by rw[I.tuple_inj y l];show Q],C1,λb r=>(n b r).1]]
 done:=by
  intro X j g Y B i A s z H E I n st U;subst j g Y;obtain⟨xs,l,Q⟩:=U;obtain⟨N,M,p,hz⟩:=I.tuple l;obtain⟨L,J,f2,G,D,C⟩:=n it (by simp);have hl:=M.length;show wpAny_pyNext_tuple_end (I.ok.hd B) st (show s.heap.IsTuple a N.toArray from p) (by simp;lia) λq eb=>#[rfl,I.turned (t':=s.toks) (λb o r e=>eb b o r e) L J G D C]
 self:=λ_ _ _ _ _ st h=>wpAny_pyIter_tupleiter st h
def Ri{P:mh}{w:md}{K:lY}{L:me}(it:lU)(lo:Int)(n:Nat):ut P w K L (vR lo n) [it] it (λi h=>IsRangeIter h it (lo+(i:Nat) * 1) ((n:Int)-(i:Nat)) 1) where
 mem:=by simp
 obj:=λi h st b x=>by
  have e:b=it:=by simpa using x
  subst e;show#[_,st,λv y=>by
   have J:Data.fields _=Data.cell v:=y;cases J]
 keep:=λi h u st k=>k it (by simp) _ st
 item:=by
  intro X q p l j i Q s z H E I r st g;subst q p l;obtain⟨d,c,G,a,Y,U⟩:=r it (by simp);have W:=Walks.range (prog:=X.prog) (w:=X.w) (I.ok.hd j) it lo 1 n;refine W.item i s _ _ g st λv u N D M C=>?_
  obtain⟨t,rfl⟩:=D;have B:mK X Q z H {s with heap:=u,toks:=N}:=I.turned (λb o x e=>C b o (by simpa using x) e) d c a Y U;refine#[_,rfl,xc (s:={s with heap:=u,toks:=N}) (n :="range_iterator") M rfl rfl (by lk) #[.int<|lo+i,H,B,#[t,?_],#[rfl,rfl],M,λb x=>(r b x).1]];rw[Int.mul_one]
 done:=by
  intro X q p l j i Q s z H E I r st g;subst q p l;obtain⟨d,c,G,a,Y,U⟩:=r it (by simp);show wpAny_pyNext_range_end (I.ok.hd j) st (by have:n<=i:=g;lia) λu A=>#[rfl,I.turned (t':=s.toks) (λb o x e=>A b o x e) d c a Y U]
 self:=λ_ _ _ _ _ st h=>wpAny_pyIter_rangeiter st h
inductive Eu(S:Hp->Addr->List V->Prop)(I:Addr->It)(R:It->Hp->Prop)(H:Hp):V->Prop
 | mk {a xs}:S H a xs->R (I a) H->Eu S I R H (.ref a)
def Yid(K:lY)(y:TE):TI:=λz H R=>y z H λx w=>Eu (SqL K) (tV K) R w x
def YE(K:lY)(y:TE):TI:=λz H R=>y z H λx w=>Eu (SqT K) (xO K) R w x
def Yl{l:me}{u:TE}(r:PE X l u):PI X Y l (Yid X.K u):=by
 intro n s z H R I h;refine ng (r n s z H _ I h) λv y ⟨x,j,w,i,g⟩=>?_
 obtain@⟨a,x,d,q⟩:=g;cases i;obtain⟨x,o,p,U⟩:=w.list d;refine wM p.isList ?_;refine#[#v[y],[#v[y]],_,_,j,rfl,w.kept (t':=y.toks) λb o e=>nS _ e,Vv a _,#[_,oG _ rfl,rfl,rfl],λb c=>?_,q];have e:b=#v[y]:=by simpa using c
 subst e;show w.fpOk (nH _)<|w.hok.fresh<|nH _
def zW{l:me}{u:TE}(r:PE X l u):PI X U l (YE X.K u):=by
 intro n s z H R I h;refine ng (r n s z H _ I h) λv y ⟨x,j,w,i,g⟩=>?_
 obtain@⟨a,x,d,q⟩:=g;cases i;obtain⟨c,x,p,o⟩:=w.tuple d;refine wpAny_pyIter_tuple (show y.heap.IsTuple a c.toArray from p) ?_;refine#[#v[y],[#v[y]],_,_,j,rfl,w.kept (t':=y.toks) λb o e=>nS _ e,Zui a _,#[_,oG _ rfl,rfl,rfl],λb Y=>?_,q];have e:b=#v[y]:=by simpa using Y
 subst e;show w.fpOk (nH _)<|w.hok.fresh<|nH _
def IL{x:lS (lU×Obj)}{z:St}{H:Hp}{s:lW}{R:It->Hp->Prop}{E:lV->lW->Prop}{lo y:Int}{t u v:Tok}{w:Nat}(I:mK X x z H s)(p:-(2 ^ 62)<=lo)(n:lo<2 ^ 62)(l:-(2 ^ 62)<=y)(j:y<2 ^ 62)
  (q:R (vR lo (y-lo).toNat) H):wpAny (model X.prog X.w) X.A (pyIter<|.ref #v[s]) (JX X x z d R) E {s with heap:=s.heap.push {cls:=.type "range",data:=.fields (List.toArray [.int lo t,.int y u,.int 1 v])},toks:=w}:=by
 refine wpAny_pyIter_range (IsRange.new ..) (small_one p n l j) ?_;have r:mK X x z H {s with heap:=s.heap.push {cls:=.type "range",data:=.fields (List.toArray [.int lo t,.int y u,.int 1 v])},toks:=w}:=I.kept λb o e=>nS _ e
 refine#[(s.heap.push {cls:=.type "range",data:=.fields (List.toArray [.int lo t,.int y u,.int 1 v])}).objs.size,[(s.heap.push {cls:=.type "range",data:=.fields (List.toArray [.int lo t,.int y u,.int 1 v])}).objs.size],_,_,H,rfl,
  r.kept (t':=w) λb o e=>nS _ e,Ri _ lo (y-lo).toNat,?_,λb i=>?_,q]
 ·have h:lo+((0:Nat):Int) * 1=lo:=by simp
  have g:(((y-lo).toNat:Nat):Int)-((0:Nat):Int)=Builtin.Range.rangeSize lo y 1:=by rw[rangeSize_one];split<;>lia
  change IsRangeIter _ _ (lo+((0:Nat):Int) * 1) ((((y-lo).toNat:Nat):Int)-((0:Nat):Int)) 1;rw[h,g];show oG _ rfl
 ·have e:b=(s.heap.push {cls:=.type "range",data:=.fields (List.toArray [.int lo t,.int y u,.int 1 v])}).objs.size:=by simpa using i
  subst e;show r.fpOk (nH _)<|r.hok.fresh<|nH _
def ZL(y:TA):TI:=λz H R=>y z H λx w=>∃j:Int,x=[.int j]/\-(2 ^ 62)<=j/\j<2 ^ 62/\R (vR 0 j.toNat) w
def Ve(y:TA):TI:=λz H R=>y z H λx w=>∃i j:Int,x=[.int i,.int j]/\(-(2 ^ 62)<=i/\i<2 ^ 62/\-(2 ^ 62)<=j/\j<2 ^ 62)/\R (vR i (j-i).toNat) w
def Gi{a:me}{x:TA}{p pos:Pos}(w:Gl X "range")(u:X.mg "range"=none)(o:PA X [a] x)(n:starEach [a] X.env=[(false,eval a X.env)]:=by rfl):PI X c (.Call (.Name "range" p) [a] [] pos) (ZL x):=by
 intro l s z H R I h;refine Call_<|ww I w u boot_range<|yH (ng (o pos l s z H _ I h) λr j ⟨Y,U,i,g,y⟩=>?_) n rfl;obtain⟨j,e,y,d,q⟩:=y;subst e;cases g with
 | cons r j =>
  cases j;obtain⟨t,rfl⟩:=r;show call_range_1 (IL i (by lia) (by lia) y d<|by simpa using q)
def Di(u:Gl X "range")(o:X.mg "range"=none)(n:PA X [a,b] l)(g:starEach [a,b] X.env=[(false,eval a X.env),(false,eval b X.env)]:=by rfl)(y:starEach [b] X.env=[(false,eval b X.env)]:=by rfl) :
  PI X M (.Call (.Name "range" p) [a,b] [] pos) (Ve l):=by
 intro d s z H R I h;refine Call_ (ww I u o boot_range<|yH (ng (n pos d s z H _ I h) λw r ⟨j,i,c,Y,x⟩=>?_) (by rw[g,y])<|by rw[y];rfl);obtain⟨i,j,e,⟨x,U,Q,N⟩,q⟩:=x;subst e;cases Y with
 | cons r w =>
  cases w with
  | cons j w =>
   cases w;obtain⟨t,rfl⟩:=r;obtain⟨i,rfl⟩:=j;show call_range_2<|IL c x U Q N q
def WR(r:TI)(g:TG)(q:TS):TS:=λD z H=>r z H λJ p=>∃W:Nat->Nat->St->Hp->Prop,(∃m,W 0 m z p)/\∀i m z H,W i m z H->
 (J.stop i H/\D.nx z H)\/(J.go i H/\∃N:St->Hp->Prop,(∀y w,N y w->∃s,s<m/\W (i+1) s y w)/\∀x w,J.yld i H x w->g x z w λu o=>q {D with nx:=N,ct:=N,bk:=D.nx} u o)
def xL(z:lS lU)(h:ma):lS (lU×Obj):=z.filterMap λb=>(h.get? b).map λo=>(b,o)
def yY(z:b∈y)(e:h.get? b=some o):(b,o)∈xL y h:=yR.mpr #[b,z,by rw[e];rfl]
def Zxv(z:p∈xL y h):p.1∈y/\h.get? p.1=some p.2:=by
 obtain⟨b,x,e⟩:=yR.mp z;cases q:h.get? b with
 | none=>rw[q]at e;cases e
 | some o =>
  rw[q]at e;have w:(b,o)=p:=oF e;subst w;show#[x,q]
def mK.pinned(I:mK X x z H s)(q:∀b∈w,sV X x H b)(n:∀b∈w,∃o,s.heap.get? b=some o/\∀v,o.data≠.cell v):mK X (x++xL w s.heap) z H s :=
 I.pins_of λp l=>(oA.mp l).elim (λy=>I.pin p<|qm _ y) λy=>by
  obtain⟨u,e⟩:=Zxv y;obtain⟨j,i,h,_⟩:=q p.1 u;obtain⟨o,r,d⟩:=n p.1 u;rw[e]at r;cases r;show#[e,j,i,h,d]
def mK.unpinned(I:mK X (y++pl) z H s):mK X y z H s:=I.pins_of λp x=>I.pin p<|qm _<|AI _ x
def Xh(U:PassesOwn (model X.prog X.w) X.A X.env X.xe)(hc:X.calm=true)(hi:PI X tg u7 wi)(hg:PG X tg g)(w:qL X body tb)
  (hs:∀x,foldedSetIterable u7 X.env x=pure x:=by intro _;rfl):PS X (.For tg u7 body [] pos) (WR wi g tb):=by
 intro Y s z H D I h;refine wpAny_For (ng (hi Y s z H _ I h) λv o y=>ng y λu l h2=>?_) hs;obtain⟨y,Q,tn,J,H2,e,I2,T,d7,f2,W,⟨m0,w0⟩,turn⟩:=h2;subst e;have E:∀{c:Hp},(∀b∈Q,c b=none)->∀b∈Q,sV X Y c b:=λhn b w=>#[hn b w,(f2 b w).2]
 refine codeAny_forLoop_any (λn y=>∃i q c,mK X Y q c y/\tn i y.heap/\(∀b∈Q,c b=none)/\W i n q c) ?_ m0 #[0,z,H2,I2,d7,λb w=>(f2 b w).1,w0];rintro n s3 ⟨i,p,G,I3,w5,M,w3⟩;rcases turn i n p G w3 with⟨stop,qn⟩|⟨go,N,hN,step⟩
 ·refine wU U<|ng (T.done X rfl rfl rfl hc i Y s3 p G X.xe I3 (E M) w5 stop) λr s4 ⟨C,y⟩=>?_;subst C;show Au #[p,G,y,qn]
 ·refine wU U<|ng (T.item X rfl rfl rfl hc i Y s3 p G X.xe I3 (E M) w5 go) λr s4 ⟨u,C,h4⟩=>?_;subst C;refine wU U<|ng h4 λ_ s5 h9=>?_;obtain⟨x,H5,I5,r5,y5,J,B⟩:=h9;have A:=I5.pinned (E B)<|T.obj _ _ J;refine wU U<|ng (hg _ s5 p H5 x u _ A r5<|step x H5 y5) λ_ s6 ⟨σ6,H6,I6,q6⟩=>?_;refine wU U<|ng (w _ s6 σ6 H6 _ I6 q6) λf s7 a=>?_;have C8:∀{y:St}{l:Hp},mK X (Y++xL Q s5.heap) y l s7->N y l->∃m,m<n/\∃i q c,mK X Y q c s7/\tn i s7.heap/\(∀b∈Q,c b=none)/\W i m q c:=λ{y l} j L=>by
   obtain⟨m',hm,w7⟩:=hN y l L;refine#[m',hm,i+1,y,l,j.unpinned,T.keep _ _ _ J λb w o e=>(j.pin (b,o)<|qm _<|qm _<|yY w e).1,λb w=>?_,w7];obtain⟨o,e,d⟩:=T.obj _ _ J b w;show(j.pin (b,o)<|qm _<|qm _<|yY w e).2.1
  cases f with
  | next=>obtain⟨y,l,j,L⟩:=a;show C8 j L
  | cont=>obtain⟨y,l,j,L⟩:=a;show C8 j L
  | brk=>obtain⟨y,l,j,a⟩:=a;show#[y,l,j.unpinned,a]
  | ret v=>obtain⟨d,y,l,j,r7,a⟩:=a;show#[d,y,l,j.unpinned,r7,a]
def Wr{K:lY}{a:lU}{xs:lS V}{g:TG}{n:TS}{D:pV}{z:St}{H:Hp}(Pv:Nat->St->Hp->Prop)(j:Pv 0 z H)(h:∀i z H,i<=xs.length->Pv i z H->SqL K H a xs)
  (d:∀i x z H,xs[i]? =some x->Pv i z H->g x z H λw r=>n {D with nx:=Pv<|i+1,ct:=Pv<|i+1,bk:=D.nx} w r) (hd:∀z H,Pv xs.length z H->D.nx z H) :
  ∃W:Nat->Nat->St->Hp->Prop,(∃m,W 0 m z H)/\∀i m z H,W i m z H->
   ((tV K a).stop i H/\D.nx z H)\/((tV K a).go i H/\∃N:St->Hp->Prop,(∀u s,N u s->∃l,l<m/\W (i+1) l u s)/\∀x s,(tV K a).yld i H x s->g x z s λw r=>n {D with nx:=N,ct:=N,bk:=D.nx} w r):=by
 refine#[λi m z H=>m=xs.length-i/\i<=xs.length/\Pv i z H,#[xs.length,by simp,pJ _,j],?_];rintro i m z H ⟨rfl,c,p⟩;have q:=h i z H c p
 by_cases o:i<xs.length
 ·refine .inr #[#[xs,xs[i],q,oE o],Pv<|i+1,λu s Y=>#[xs.length-(i+1),sN _ _ o,rfl,o,Y],λx s y=>?_];obtain⟨e,y⟩:=y;subst e;show d i x z _ (y xs q) p
 ·have e:i=xs.length:=by lia
  subst e;show .inl #[#[xs,q,nH _],hd z H p]
def Lh{K:lY}{a:lU}{xs:lS V}{g:TG}{n:TS}{D:pV}{z:St}{H:Hp}(Pv:Nat->St->Hp->Prop)(j:Pv 0 z H)(h:∀i z H,i<=xs.length->Pv i z H->SqT K H a xs)
  (d:∀i x z H,xs[i]? =some x->Pv i z H->g x z H λw r=>n {D with nx:=Pv<|i+1,ct:=Pv<|i+1,bk:=D.nx} w r) (hd:∀z H,Pv xs.length z H->D.nx z H) :
  ∃W:Nat->Nat->St->Hp->Prop,(∃m,W 0 m z H)/\∀i m z H,W i m z H->
   ((xO K a).stop i H/\D.nx z H)\/((xO K a).go i H/\∃N:St->Hp->Prop,(∀u s,N u s->∃l,l<m/\W (i+1) l u s)/\∀x s,(xO K a).yld i H x s->g x z s λw r=>n {D with nx:=N,ct:=N,bk:=D.nx} w r):=by
 refine#[λi m z H=>m=xs.length-i/\i<=xs.length/\Pv i z H,#[xs.length,by simp,pJ _,j],?_];rintro i m z H ⟨rfl,c,p⟩;have q:=h i z H c p
 by_cases o:i<xs.length
 ·refine .inr #[#[xs,xs[i],q,oE o],Pv<|i+1,λu s Y=>#[xs.length-(i+1),sN _ _ o,rfl,o,Y],λx s y=>?_];obtain⟨e,y⟩:=y;subst e;show d i x z _ (y xs q) p
 ·have e:i=xs.length:=by lia
  subst e;show .inl #[#[xs,q,nH _],hd z H p]
def wX{lo:Int}{n:Nat}{g:TG}{o:TS}{D:pV}{z:St}{H:Hp}(Pv:Nat->St->Hp->Prop)(j:Pv 0 z H)
  (h:∀i z H,i<n->Pv i z H->g (.int<|lo+i) z H λw q=>o {D with nx:=Pv<|i+1,ct:=Pv<|i+1,bk:=D.nx} w q) (hd:∀z H,Pv n z H->D.nx z H) :
  ∃W:Nat->Nat->St->Hp->Prop,(∃m,W 0 m z H)/\∀i m z H,W i m z H->
   ((vR lo n).stop i H/\D.nx z H)\/((vR lo n).go i H/\∃N:St->Hp->Prop,(∀u s,N u s->∃l,l<m/\W (i+1) l u s)/\∀x s,(vR lo n).yld i H x s->g x z s λw q=>o {D with nx:=N,ct:=N,bk:=D.nx} w q):=by
 refine#[λi m z H=>m=n-i/\i<=n/\Pv i z H,#[n,by simp,pJ _,j],?_];rintro i m z H ⟨rfl,y,p⟩
 by_cases r:i<n
 ·refine .inr #[r,Pv<|i+1,λu s d=>#[n-(i+1),sN _ _ r,rfl,r,d],λx s y=>?_];obtain⟨e,y⟩:=y;subst e y;show h i z _ r p
 ·have e:i=n:=by lia
  subst e;show .inl #[nH _,hd z H p]
abbrev R2:=V->V->Hp->VK->Prop
def og(X:Cx)(f:lV->lV->Sem lV)(r:R2):Prop :=
 ∀(w:lS (lU×Obj)) (s:lW) (z:St) (H:Hp) (x y:V) (v u:lV) (Q:VK),mK X w z H s->Yd x v->Yd y u->r x y H Q->
  wpAny (model X.prog X.w) X.A (f v u) (EP X w z Q) X.xe s
def Ef(X:Cx)(f:lV->Sem lV)(r:V->Hp->VK->Prop):Prop :=
 ∀(y:lS (lU×Obj)) (s:lW) (z:St) (H:Hp) (x:V) (v:lV) (Q:VK),mK X y z H s->Yd x v->r x H Q->
  wpAny (model X.prog X.w) X.A (f v) (EP X y z Q) X.xe s
def Xd(X:Cx)(f:lV)(r:lS V->Hp->VK->Prop):Prop :=
 ∀(y:lS (lU×Obj)) (s:lW) (z:St) (H:Hp) (x:lS V) (w:lS lV) (Q:VK),mK X y z H s->Z8 x w->r x H Q->
  wpAny (model X.prog X.w) X.A (call f w) (EP X y z Q) X.xe s
def YR(X:Cx)(r:V->Hp->(Bool->Hp->Prop)->Prop):Prop :=
 ∀(y:lS (lU×Obj)) (s:lW) (z:St) (H:Hp) (x:V) (v:lV) (Q:Bool->Hp->Prop),mK X y z H s->Yd x v->r x H Q->
  wpAny (model X.prog X.w) X.A (truthy v) (TP X y z Q) X.xe s
def qK(r:R2)(w u:TE):TE:=λz H Q=>w z H λx s=>u z s λy q=>r x y q Q
def SI(r:V->Hp->VK->Prop)(y:TE):TE:=λz H Q=>y z H λx w=>r x w Q
def rI(C:Int->Int->Prop)(g:Int->Int->V):R2:=λx y H Q=>oI x λi=>oI y λj=>C i j/\Q (g i j) H
def vI(g:Int->Int->V):R2:=λx y H Q=>oI x λi=>oI y λj=>Q (g i j) H
def rU(g:Int->V):V->Hp->VK->Prop:=λx H Q=>oI x λi=>Q (g i) H
def Fh(o:PE X a n)(l:PE X b j){R:V->V->Hp->Prop}(I:mK X q z H s)
  (h:n z H λx p=>j z p λy w=>R x y w) {Q:lV->lW->Prop} {f:lV->lV->Sem lV}
  (i:∀v u r x y w,mK X q z w r->Yd x v->Yd y u->R x y w->wpAny (model X.prog X.w) X.A (f v u) Q X.xe r) :
  wpAny (model X.prog X.w) X.A (eval a X.env) (λv g=>wpAny (model X.prog X.w) X.A (eval b X.env) (λu e=>wpAny (model X.prog X.w) X.A (f v u) Q X.xe e) X.xe g) X.xe s:=by
 refine ng (o q s z H _ I h) λv d ⟨x,p,c,Y,U⟩=>?_
 refine ng (l q d z p _ c U) λu r ⟨y,w,N,M,L⟩=>?_
 show i v u r x y w N Y M L
def Zq(w:og X (binaryOp op) r)(p:PE X a o)(n:PE X b l):PE X (.BinOp a op b pos) (qK r o l):=by
 intro j s z H Q I h;show wpAny_BinOp<|Fh p n I h λv u i x y g e d c q=>w j i z g x y v u Q e d c q
def xg{r:V->Hp->VK->Prop}(w:Ef X (unaryOp op) r)(u:PE X a q):PE X (.UnaryOp op a pos) (SI r q):=by
 intro y s z H Q I h;show UnaryOp_<|ng (u y s z H _ I h) λv p ⟨x,o,n,l,j⟩=>w y p z o x v Q n l j
def Gb{f:lV->lV->Sem lV}{C:Int->Int->Prop}{g:Int->Int->Int}
  (w:∀(i j:Int)(t u:Tok)(s:lW)(Q:lV->lW->Prop)(E:lV->lW->Prop),C i j->Q (.int (g i j) s.toks) {s with toks:=s.toks+1}->wpAny (model X.prog X.w) X.A (f (.int i t)<|.int j u) Q E s) :
  og X f (rI C λi j=>.int<|g i j):=by
 intro e s z H x y v u Q I r p h;obtain⟨i,rfl,o⟩:=oI.out h;obtain⟨j,rfl,n,q⟩:=oI.out (x:=y) o;obtain⟨t,rfl⟩:=r;obtain⟨l,rfl⟩:=p;show w i j t l s _ _ n #[.int<|g i j,H,I.tok _,#[_,rfl],q]
def Ln{f:lV->lV->Sem lV}{g:Int->Int->Int}
  (w:∀(i j:Int)(t u:Tok)(s:lW)(Q:lV->lW->Prop)(E:lV->lW->Prop),Q (.int (g i j) s.toks) {s with toks:=s.toks+1}->wpAny (model X.prog X.w) X.A (f (.int i t)<|.int j u) Q E s) :
  og X f (vI λi j=>.int<|g i j):=by
 intro l s z H x y v u Q I r p h;obtain⟨i,rfl,o⟩:=oI.out h;obtain⟨j,rfl,q⟩:=oI.out (x:=y) o;obtain⟨t,rfl⟩:=r;obtain⟨n,rfl⟩:=p;show w i j t n s _ _ #[.int<|g i j,H,I.tok _,#[_,rfl],q]
def GI{f:lV->lV->Sem lV}{g:Int->Int->Bool}
  (w:∀(i j:Int)(t u:Tok)(s:lW)(Q:lV->lW->Prop)(E:lV->lW->Prop),Q (.bool<|g i j) s->wpAny (model X.prog X.w) X.A (f (.int i t)<|.int j u) Q E s) :
  og X f (vI λi j=>.bl<|g i j):=by
 intro l s z H x y v u Q I r p h;obtain⟨i,rfl,o⟩:=oI.out h;obtain⟨j,rfl,q⟩:=oI.out (x:=y) o;obtain⟨t,rfl⟩:=r;obtain⟨n,rfl⟩:=p;show w i j t n s _ _ #[.bl<|g i j,H,I,rfl,q]
def Yi0(i j:Int):Prop:=0<j/\j<1073741824
def GM(i j:Int):Prop:=(-(2 ^ 64)<i/\i<2 ^ 64)\/(-(2 ^ 64)<j/\j<2 ^ 64)
def GM.ok(h:GM i j):IntMulOk i j:=by
 rcases h with⟨z,y⟩|⟨z,y⟩
 ·show .of_left<|intBits_le_64 z y
 ·show .of_right<|intBits_le_64 z y
def SK:og X (binaryOp .Add) (vI λi j=>.int<|i+j):=Ln λ_ _ _ _ _ _ _ q=>add_int q
def Io:og X (binaryOp .Sub) (vI λi j=>.int<|i-j):=Ln λ_ _ _ _ _ _ _ q=>sub_int q
def wS:og X (binaryOp .Mult) (rI GM λi j=>.int<|i * j):=Gb λ_ _ _ _ _ _ _ z q=>mul_int q z.ok
def Ys:og X (binaryOp .FloorDiv) (rI Yi0 λi j=>.int<|i / j):=Gb λi j _ _ _ _ _ z q=>by
 have y:(0:Int)<j:=z.1;have x:j<1073741824:=z.2;show floordiv_int (by lia) (by rw[Int.fdiv_eq_ediv_of_nonneg i (by lia)];show q) (.inl<|PyProof.noPylong_small<|by lia)
def Yn:og X (binaryOp .Mod) (rI (λ_ j=>0<j) λi j=>.int<|i%j):=Gb λi j _ _ _ _ _ z q=>by
 have y:(0:Int)<j:=z;show mod_int' (by lia) (by rw[Int.fmod_eq_emod_of_nonneg i (by lia)];show q)
def VJ{f:lV->Sem lV}{g:Int->Int}
  (y:∀(i:Int)(t:Tok)(s:lW)(Q:lV->lW->Prop)(E:lV->lW->Prop),Q (.int (g i) s.toks) {s with toks:=s.toks+1}->wpAny (model X.prog X.w) X.A (f<|.int i t) Q E s) :
  Ef X f (rU λi=>.int<|g i):=by
 intro u s z H x v Q I w h;obtain⟨i,rfl,q⟩:=oI.out h;obtain⟨t,rfl⟩:=w;show y i t s _ _ #[.int<|g i,H,I.tok _,#[_,rfl],q]
def wV:Ef X (unaryOp .USub) (rU λi=>.int (-i)):=VJ λ_ _ _ _ _ q=>neg_int q
def Kd:V->V->Bool
 | .non,.non=>true|.non,.int _=>true|.int _,.non=>true|.non,.bl _=>true|.bl _,.non=>true|.non,.str _=>true|.str _,.non=>true
 | .int _,.int _=>true|.bl _,.bl _=>true|.str _,.str _=>true|.byt _,.byt _=>true
 | .int _,.str _=>true|.str _,.int _=>true|.bl _,.str _=>true|.str _,.bl _=>true
 | _,_=>false
def Pj:R2:=λx y H Q=>Kd x y=true/\Q (.bl<|decide<|x=y) H
def KU:R2:=λx y H Q=>Kd x y=true/\Q (.bl (!decide (x=y))) H
def Pb:decide (V.int i=V.int j)=(i ==j):=by
 rw[rF];simp
def Ku:decide (V.bl i=V.bl j)=(i ==j):=by
 rw[rF];simp
def OB:decide (V.str i=V.str j)=(i ==j):=by
 rw[rF];simp
def NU:decide (V.byt i=V.byt j)=(i.toList ==j.toList):=by
 rw[rF];cases i;cases j;simp
def Yw(I:mK X y z H s)(q:Q (.bl k) H)(e:k=x):EP X y z Q (.bool x) s:=by
 subst e;show#[.bl k,H,I,rfl,q]
def Pm:og X (compareOp .Eq) Pj:=by
 intro n s z H x y v u Q I o w h;obtain⟨p,q⟩:=h;cases x with
 | non =>
  cases o;cases y with
  | non=>cases w;show PySem.EqNone.eq_none_none (Yw I q<|by simp)
  | bl j=>cases w;show PySem.EqNone.eq_none_bool (Yw I q<|by simp)
  | int j=>obtain⟨r,rfl⟩:=w;show PySem.EqNone.eq_none_int (Yw I q<|by simp)
  | str j=>obtain⟨r,rfl⟩:=w;show PySem.EqNone.eq_none_str (Yw I q<|by simp)
  | _=>show absurd (show false=true from p) oW
 | bl i =>
  cases o;cases y with
  | non=>cases w;show PySem.EqNone.eq_bool_none (Yw I q<|by simp)
  | bl j=>cases w;show eq_bool (Yw I q Ku)
  | str j=>obtain⟨r,rfl⟩:=w;show PySem.EqMixed.eq_bool_str (Yw I q<|by simp)
  | _=>show absurd (show false=true from p) oW
 | int i =>
  obtain⟨t,rfl⟩:=o;cases y with
  | non=>cases w;show PySem.EqNone.eq_int_none (Yw I q<|by simp)
  | int j=>obtain⟨r,rfl⟩:=w;show eq_int (Yw I q Pb)
  | str j=>obtain⟨r,rfl⟩:=w;show PySem.EqMixed.eq_int_str (Yw I q<|by simp)
  | _=>show absurd (show false=true from p) oW
 | str i =>
  obtain⟨t,rfl⟩:=o;cases y with
  | non=>cases w;show PySem.EqNone.eq_str_none (Yw I q<|by simp)
  | bl j=>cases w;show PySem.EqMixed.eq_str_bool (Yw I q<|by simp)
  | int j=>obtain⟨r,rfl⟩:=w;show PySem.EqMixed.eq_str_int (Yw I q<|by simp)
  | str j=>obtain⟨r,rfl⟩:=w;show eq_str (Yw I q OB)
  | _=>show absurd (show false=true from p) oW
 | byt i =>
  obtain⟨t,rfl⟩:=o;cases y with
  | byt j=>obtain⟨r,rfl⟩:=w;show PySem.W.eq_bytes (Yw I q NU)
  | _=>show absurd (show false=true from p) oW
 | _=>cases y<;>show absurd (show false=true from p) oW
def TD:og X (compareOp .NotEq) KU:=by
 intro n s z H x y v u Q I o w h;obtain⟨p,q⟩:=h;cases x with
 | non =>
  cases o;cases y with
  | non=>cases w;show PySem.EqNone.ne_none_none (Yw I q<|by simp)
  | bl j=>cases w;show PySem.EqNone.ne_none_bool (Yw I q<|by simp)
  | int j=>obtain⟨r,rfl⟩:=w;show PySem.EqNone.ne_none_int (Yw I q<|by simp)
  | str j=>obtain⟨r,rfl⟩:=w;show PySem.EqNone.ne_none_str (Yw I q<|by simp)
  | _=>show absurd (show false=true from p) oW
 | bl i =>
  cases o;cases y with
  | non=>cases w;show PySem.EqNone.ne_bool_none (Yw I q<|by simp)
  | bl j=>cases w;show ne_bool (Yw I q<|oN not Ku)
  | str j=>obtain⟨r,rfl⟩:=w;show PySem.EqMixed.ne_bool_str (Yw I q<|by simp)
  | _=>show absurd (show false=true from p) oW
 | int i =>
  obtain⟨t,rfl⟩:=o;cases y with
  | non=>cases w;show PySem.EqNone.ne_int_none (Yw I q<|by simp)
  | int j=>obtain⟨r,rfl⟩:=w;show ne_int (Yw I q<|oN not Pb)
  | str j=>obtain⟨r,rfl⟩:=w;show PySem.EqMixed.ne_int_str (Yw I q<|by simp)
  | _=>show absurd (show false=true from p) oW
 | str i =>
  obtain⟨t,rfl⟩:=o;cases y with
  | non=>cases w;show PySem.EqNone.ne_str_none (Yw I q<|by simp)
  | bl j=>cases w;show PySem.EqMixed.ne_str_bool (Yw I q<|by simp)
  | int j=>obtain⟨r,rfl⟩:=w;show PySem.EqMixed.ne_str_int (Yw I q<|by simp)
  | str j=>obtain⟨r,rfl⟩:=w;show ne_str (Yw I q<|oN not OB)
  | _=>show absurd (show false=true from p) oW
 | byt i =>
  obtain⟨t,rfl⟩:=o;cases y with
  | byt j=>obtain⟨r,rfl⟩:=w;show PySem.W.ne_bytes (Yw I q<|oN not NU)
  | _=>show absurd (show false=true from p) oW
 | _=>cases y<;>show absurd (show false=true from p) oW
def wr:og X (compareOp .Lt) (vI λi j=>.bl<|decide<|i<j):=GI λ_ _ _ _ _ _ _ q=>lt_int q
def uK:og X (compareOp .LtE) (vI λi j=>.bl<|decide<|i<=j):=GI λ_ _ _ _ _ _ _ q=>le_int q
def zo:og X (compareOp .Gt) (vI λi j=>.bl<|decide<|j<i):=GI λ_ _ _ _ _ _ _ q=>gt_int q
def Zw8:og X (compareOp .In) (λx y H Q=>∃i j,x=.str i/\y=.str j/\Q (.bl (!(Builtin.Str.occurrences j i 0 j.length 1).isEmpty)) H):=by
 intro p s z H x y v u Q I w r h;obtain⟨i,j,rfl,rfl,q⟩:=h;obtain⟨t,rfl⟩:=w;obtain⟨o,rfl⟩:=r;show in_str<|Yw I q rfl
def zf:og X (compareOp .Is) (λx y H Q=>y=.non/\Q (.bl<|decide<|x=.non) H):=by
 intro p s z H x y v u Q I w r h;obtain⟨rfl,q⟩:=h;cases r;refine is_none_gen<|Yw I q ?_;cases x<;>first
  | (cases w;rfl)
  | (obtain⟨t,rfl⟩:=w;rfl)
def NW:og X (compareOp .IsNot) (λx y H Q=>y=.non/\Q (.bl (!decide (x=.non))) H):=by
 intro p s z H x y v u Q I w r h;obtain⟨rfl,q⟩:=h;cases r;refine isnot_none_gen<|Yw I q ?_;cases x<;>first
  | (cases w;rfl)
  | (obtain⟨t,rfl⟩:=w;rfl)
def og.or{f:lV->lV->Sem lV}(h:og X f r)(h':og X f n):og X f (λx y H Q=>r x y H Q\/n x y H Q):=by
 intro w s z H x y v u Q I p o q;rcases q with q|q
 ·show h w s z H x y v u Q I p o q
 ·show h' w s z H x y v u Q I p o q
def Yq(b:me)(h:op≠.In:=by lk)(z:op≠.NotIn:=by lk):behindInMarks op b=false:=by
 have y:(op ==CmpOp.In)=false:=by cases op<;>first|rfl|show absurd rfl h
 have x:(op ==CmpOp.NotIn)=false:=by cases op<;>first|rfl|show absurd rfl z
 cases b<;>simp[behindInMarks,y,x]
def yZ(w:og X (compareOp op) r)(p:PE X a o)(n:PE X b l)(j:behindInMarks op b=false):PE X (.Compare a [op] [b] pos) (qK r o l):=by
 intro i s z H Q I h;show wpAny_Compare1 (Fh p n I h λv u g x y e d c Y q=>w i g z e x y v u Q d c Y q) j
def xD(t:TE):TT:=λz H Q=>t z H λx y=>oB x λk=>Q k y
def Ye(o:og X (compareOp op) r)(n:PE X a l)(j:PE X b i)(g:behindInMarks op b=false):PT X (.Compare a [op] [b] pos) (xD<|qK r l i):=by
 intro q s z H Q I h;refine wpAny_isTrue_Compare1 (ng (n q s z H _ I h) λv d ⟨x,Y,U,N,M⟩=>ng (j q d z Y _ U M) λu L ⟨y,J,G,E,D⟩ =>
  ng (o q L z J x y v u _ G N E D) λc s3 ⟨w,C,B,A,p⟩=>?_) g
 obtain⟨k,e,p⟩:=oB.out p;subst e;cases A;show tU #[C,B,p]
def Sz(r s:R2)(q p o:TE):TE:=λz H Q=>q z H λx n=>p z n λy l=>r x y l λw u=>oB w λk =>
 (if k=true then o z u λj i=>s y j i Q else Q (.bl false) u)
def zq(i:og X (compareOp op) r)(g:og X (compareOp q) Y)(U:PE X a N)(M:PE X b L)(J:PE X c G)
  (E:lastMarks [op,q] [b,c]=false:=by with_unfolding_all rfl):PT X (.Compare a [op,q] [b,c] pos) (xD<|Sz r Y N L G):=by
 intro p s z H Q I h;refine isTrue_chain (ng (U p s z H _ I h) λv D ⟨x,C,B,A,q1⟩=>test_link (ng (M p D z C _ B q1) λu s2 ⟨y,H2,I2,n,q2⟩ =>
  ng (i p s2 z H2 x y v u _ I2 A n q2) λd s3 ⟨w,l,j,r3,o⟩=>?_)) E
 obtain⟨k,e,o⟩:=oB.out o;subst e;cases r3;refine tU ?_;cases k with
 | false =>
  show ite_ff #[l,j,o]
 | true =>
  refine ite_tt<|test_last<|ng (J p s3 z l _ j o) λw d ⟨D,C,B,A,q4⟩=>ng (g p d z C y D u w _ B n A q4) λd' s5 ⟨z2,H5,I5,r5,x⟩=>?_;obtain⟨w,e2,x⟩:=oB.out x;subst e2;cases r5;show tU #[H5,I5,x]
def QH(K:lY)(x:V)(H:Hp)(k:Bool):Prop :=
 match x with
 | .non=>k=false
 | .bl b=>k=b
 | .int i=>k=(i !=0)
 | .str y=>y.length<=sizeLine/\k=((y.length:Int) !=0)
 | .byt y=>y.size<=sizeLine/\k=((y.size:Int) !=0)
 | .ref p=>(∃z,SqL K H p z/\k=!z.isEmpty)\/(∃z,SqT K H p z/\k=!z.isEmpty)\/∃w,H p=some (.dK w)/\k=!w.isEmpty
 | _=>False
def Zt3{z:Type}{kvs:lS (z×V)}{vs:lS (z×lV)}(r:KV kvs vs):(!vs.isEmpty)=!kvs.isEmpty:=by
 cases r<;>rfl
def NA(r:Z8 xs z):(!z.toArray.isEmpty)=!xs.isEmpty:=by
 cases r<;>simp
def yr:(sizeLine:Nat)<2 ^ 63:=by rw[sO];decide
def Yfb:YR X (λx H Q=>∃k,QH X.K x H k/\Q k H):=by
 intro U s z H x v Q I n h;obtain⟨k,e,q⟩:=h;have N:=yr;have M:sizeLine=16777216:=sO;cases x with
 | non =>
  cases n;have w:k=false:=e;subst w;show truthy_none #[H,I,q]
 | bl b =>
  cases n;have w:k=b:=e;subst w;show tU #[H,I,q]
 | int i =>
  obtain⟨t,rfl⟩:=n;have w:k=(i !=0):=e;subst w;show PySem.P.truthy_int #[H,I,q]
 | str y =>
  obtain⟨t,rfl⟩:=n;obtain⟨c,w⟩:y.length<=sizeLine/\k=((y.length:Int) !=0):=e;subst w;show PySem.P.truthy_str (by lia) #[H,I.tok _,q]
 | byt y =>
  obtain⟨t,rfl⟩:=n;obtain⟨c,w⟩:y.size<=sizeLine/\k=((y.size:Int) !=0):=e;subst w;show PySem.W.truthy_bytes (by lia) #[H,I.tok _,q]
 | ref p =>
  cases n;have w:(∃o,SqL X.K H p o/\k=!o.isEmpty)\/(∃o,SqT X.K H p o/\k=!o.isEmpty)\/∃u,H p=some (.dK u)/\k=!u.isEmpty:=e;rcases w with⟨o,l,w⟩|⟨o,l,w⟩|⟨u,l,w⟩
  ·subst w;obtain⟨a,r,i,g⟩:=I.list l;have d:=r.length;show wpAny_truthy_list i.isList (by simp only[oz];lia) #[H,I.tok _,by rw[NA r];show q]
  ·subst w;obtain⟨a,r,i,g⟩:=I.tuple l;have d:=r.length;show truthy_tuple i (by simp only[oz];lia) #[H,I.tok _,by rw[NA r];show q]
  ·subst w;obtain⟨g,Y,j,r,m⟩:u.length<=sizeLine/\(p ==sysModules)=false/\∃j,KV u j/\s.heap.DictOf (Zy X.prog X.w) p j:=I.hok p _ l;have d:u.length=j.length:=nJ r;show wpAny_truthy_dict Y m (by lia) #[H,I.tok _,by rw[Zt3 r];show q]
 | _=>show(show False from e).elim
def Uk(r:PE X a q)(he:∀y,isTrue a X.env y=(do let v <-y;standAt a.pos;holding [v] (truthy v))) :
  PT X a (λz H Q=>q z H λx w=>∃k,QH X.K x w k/\Q k w):=by
 intro u s z H Q I h;show isTrue_plain (ng (r u s z H _ I h) λv p ⟨x,o,n,l,j⟩=>Yfb u p z o x v Q n l j)<|he _
def SO:og X (binaryOp .Add) (λx y H Q=>∃i j,x=.str i/\y=.str j/\i.length+j.length<=sizeLine/\Q (.str<|i++j) H):=by
 intro n s z H x y v u Q I w r h;obtain⟨i,j,rfl,rfl,p,q⟩:=h;obtain⟨t,rfl⟩:=w;obtain⟨o,rfl⟩:=r;show add_str (λo l=>#[.str<|i++j,H,I.tok _,#[_,rfl],q]) p
def Wz(r:Z8 [x] us):∃u,us=[u]/\Yd x u:=by
 cases r with
 | cons z y=>cases y;show#[_,rfl,z]
def wg(r:Z8 [x,y] us):∃u z,us=[u,z]/\Yd x u/\Yd y z:=by
 cases r with
 | cons w s =>
  cases s with
  | cons q p=>cases p;show#[_,_,rfl,w,q]
def Zxj(x:X.calm=true):Xd X (.builtin "max") (λxs H Q=>∃i j,xs=[.int i,.int j]/\Q (.int<|if j >i then j else i) H):=by
 intro w s z H xs p Q I r h;obtain⟨i,j,rfl,q⟩:=h;obtain⟨u,o,rfl,⟨t,rfl⟩,⟨n,rfl⟩⟩:=wg r;refine max_two_ints (I.ok.hd x) λl g k=>#[_,H,I.kept k,?_,q]
 by_cases y:j >i
 ·rw[mY y,mY y];show#[_,rfl]
 ·rw[mV y,mV y];show#[_,rfl]
def Zx3(x:X.calm=true):Xd X (.builtin "min") (λxs H Q=>∃i j,xs=[.int i,.int j]/\Q (.int<|if j<i then j else i) H):=by
 intro w s z H xs p Q I r h;obtain⟨i,j,rfl,q⟩:=h;obtain⟨u,o,rfl,⟨t,rfl⟩,⟨n,rfl⟩⟩:=wg r;refine min_two_ints (I.ok.hd x) λl g k=>#[_,H,I.kept k,?_,q]
 by_cases y:j<i
 ·rw[mY y,mY y];show#[_,rfl]
 ·rw[mV y,mV y];show#[_,rfl]
def Qf:Xd X (.type "int") (λxs H Q=>(∃i,xs=[.int i]/\Q (.int i) H)\/∃k,xs=[.bl k]/\Q (.int<|if k then 1 else 0) H):=by
 intro x s z H xs w Q I r h;rcases h with⟨i,rfl,q⟩|⟨k,rfl,q⟩
 ·obtain⟨u,rfl,t,rfl⟩:=Wz r;show call_int_int #[.int i,H,I,#[_,rfl],q]
 ·obtain⟨u,rfl,y⟩:=Wz r;cases y;show call_int_bool #[.int<|if k then 1 else 0,H,I.tok _,#[_,rfl],q]
def Bt:Xd X (.type "str") (λxs H Q=>∃i,xs=[.int i]/\i.natAbs.log2<1920/\Q (.str<|toString i) H):=by
 intro x s z H xs w Q I r h;obtain⟨i,rfl,y,q⟩:=h;obtain⟨u,rfl,t,rfl⟩:=Wz r;show PySem.P.str_of_int y #[.str _,H,I.tok _,#[_,rfl],q]
structure xw(h:Heap)(x dx C:Addr)(mA:Str->Option Value):Prop where
 obj:h.get? x=some (PySem.W.instObj C dx)
 ns:h.Ns1 dx mA
 ne:dx≠x
def GQ{h:ma}{x:lU}{w:lT->lX lV}(n:h.Ns1 x w):∃od,h.get? x=some od/\∀name,PySem.W.lookIn name od=some (w name):=by
 obtain⟨o,u,g,s,hd,r,_,p⟩:=n;refine#[o,s,λname=>?_];have e:=p name;unfold nsFind findBy at e;rw[<-Array.find?_toList]at e;unfold PySem.W.lookIn;rw[hd];dsimp only;split
 ·rename_i y q;rw[q]at e;show oN some e
 ·rename_i q;rw[q]at e;have a:u.toList.any (·.refKey)=false:=by
   rw[List.any_eq_false];intro y l;obtain⟨z,t,j⟩:=r y<|zM.mp l;simp[DictEntry.refKey,j]
  have i:¬u.toList.any (·.refKey)=true:=by rw[a];show oW
  rw[mV i];show oN some e
def xw.look{z:lT->lX lV}(I:xw h x y C z):∃od,PySem.W.InstAt h x (PySem.W.instObj C y) C (some od)/\∀name,PySem.W.lookIn name od=some (z name) :=
 let⟨od,w,u⟩:=GQ I.ns
 #[od,#[I.obj,rfl,rfl,w],u]
section
variable {prog:mh} {w:md} {A:mi} {E:lV->lW->Prop} {s:lW} {K:lY} {x dx C f:lU} {mA:lT->lX lV} {name:lT} {v:lV}
def Ya9{Q:lV->lW->Prop}(X:K.In s.heap)(I:xw s.heap x dx C mA)(y:PySem.W.plainGet K C name=true)(u:PySem.W.hasDictIn K C=true)
  (r:findIn K (.ref C) name=some none) (q:mA name=some v) (z:PySem.W.handedIn v=true) (h:Q v {s with toks:=s.toks+1}) :
  wpAny (model prog w) A (getAttr (.ref x) name expr) Q E s:=by
 obtain⟨o,J,p⟩:=I.look;show PySem.W.get_value X J (Fp y).1 (OD u r rfl<|by rw[p,q]) z h
def Sg{Q:lV×lS lV->lW->Prop}(X:K.In s.heap)(I:xw s.heap x dx C mA)(z:PySem.W.plainGet K C name=true)
  (y:findIn K (.ref C) name=some (some<|.ref f)) (u:PySem.W.isFn K (.ref f)=true) (r:mA name=none) (h:Q (.ref f,[.ref x]) s) :
  wpAny (model prog w) A (getMethod (.ref x) name pl) Q E s:=by
 obtain⟨q,J,p⟩:=I.look;show PySem.W.method_fn X J (Fp z).1 (Fp z).2 y (rG.mp u) (by change(PySem.W.lookIn name q).map (·.isSome)=some false;rw[p,r];rfl) h
def Ycy{Q:Unit->lW->Prop}(X:K.In s.heap)(I:xw s.heap x dx C mA)
  (l:findIn K (.ref C) "__setattr__"=some (some<|.builtin "object.__setattr__")) (j:PySem.W.plainOver K C=true) (i:PySem.W.takerIn K C name=some none) (g:PySem.W.hasDictIn K C=true)
  (e:PySem.Within mA ns) (hsz:ns.length<=sizeLine)
  (h:∀h',xw h' x dx C (λy=>if y=name then some v else mA y)->Heap.SameBut dx s.heap h'->Q () {s with heap:=h',toks:=s.toks+2}) :
  wpAny (model prog w) A (setAttr (.ref x) name v) Q E s:=by
 obtain⟨Y,J,U⟩:=I.look;refine PySem.W.set_plain X J l<|PySem.W.osa_open (s:={s with toks:=s.toks+1}) (r:=none) X J j i λb=>?_;obtain⟨Y,d,q⟩:=PySem.W.any_some g;have c:s.heap.get? x=some #[.ref C,some dx,.plain,#[]]:=I.obj;refine mT<|nI<|mT<|mT<|GH c<|mT<|PySem.W.Looks.here (s:={s with toks:=s.toks+1}) (EB X d) ?_;rw[q];refine nI (a:=some dx)<|mT<|nI<|mT ?_;refine wpAny_nsSet1 (s:={s with toks:=s.toks+1}) I.ns λh' z u=>?_
 obtain⟨N,Y,U,p,o,n⟩:=z.count<|PySem.Within.cons name v e;refine mT<|wpAny_lookBehind p (by rw[o];show pastItsLine_dict<|oo n<|by rw[pi];lia) ?_;show nI<|h _ #[(u.2 _<|oY I.ne).trans I.obj,z,I.ne] u
def UT{R:Result->lW->Prop}(X:K.In s.heap)(y:PySem.W.makesIn K C=true)
  (u:findIn K (.ref C) "__init__"=some (some<|.ref f)) (r:PySem.W.typeIn K (.ref f)=some (.type "function"))
  (h:codeAny (model prog w) (A.under<|.builtin "type.__call__" #[.ref C ::vs,z]) (.call (.ref f) #[.ref (#v[s]+1) ::vs,z]) (PySem.W.InitBack (#v[s]+1) R)
   {s with heap:=(s.heap.push PySem.W.emptyDict).push (PySem.W.instObj C #v[s])}) :
  codeAny (model prog w) A (.call (.ref C) #[vs,z]) R s:=by
 obtain⟨q,g,d,t,os⟩:=s;show PySem.W.make_core (PySem.W.makes_of X y) (zP X u) (λself=>PySem.W.bind_fn X self r) (.inl rfl) h
end
def qZ(f:lT)(v:V):lS (lT×V)->lS (lT×V)
 | []=>[(f,v)]
 | (g,x) ::r=>if g=f then(g,v) ::r else(g,x) ::qZ f v r
theorem PP(f g:lT)(v:V):∀fs:lS (lT×V),(qZ f v fs).lookup g=if g=f then some v else fs.lookup g
 | []=>by
  change List.lookup g [(f,v)]=_
  by_cases h:g=f
  ·have z:(g ==f)=true:=rG.mpr h;simp only[List.lookup,z,mY h]
  ·have z:(g ==f)=false:=su.mpr h;simp only[List.lookup,z,mV h]
 | (k,x) ::r=>by
  have w:=PP f g v r;rw[show qZ f v ((k,x) ::r)=(if k=f then(k,v) ::r else(k,x) ::qZ f v r)from rfl]
  by_cases y:k=f
  ·rw[mY y]
   by_cases h:g=k
   ·have z:(g ==k)=true:=rG.mpr h;simp only[List.lookup,z,mY<|h.trans y]
   ·have z:(g ==k)=false:=su.mpr h;simp only[List.lookup,z,mV (λe:g=f=>h<|e.trans y.symm)]
  ·rw[mV y]
   by_cases h:g=k
   ·have z:(g ==k)=true:=rG.mpr h;simp only[List.lookup,z,mV (λe:g=f=>y<|h.symm.trans e)]
   ·have z:(g ==k)=false:=su.mpr h;simp only[List.lookup,z];show w
theorem EK(f:lT)(v:V):∀fs:lS (lT×V),f∈(qZ f v fs).map (·.1)/\∀g,g∈fs.map (·.1)->g∈(qZ f v fs).map (·.1)
 | []=>#[by simp[qZ],λg h=>by simp at h]
 | (k,x) ::r=>by
  obtain⟨y,w⟩:=EK f v r;rw[show qZ f v ((k,x) ::r)=(if k=f then(k,v) ::r else(k,x) ::qZ f v r)from rfl]
  by_cases z:k=f
  ·rw[mY z];subst z;show#[by simp,λg h=>by simpa using h]
  ·rw[mV z];refine#[?_,λg h=>?_]
   ·rw[oh];show pe _ y
   ·rw[oh]at h ⊢;rcases nV.mp h with e|e
    ·show nV.mpr<|.inl e
    ·show pe _<|w g e
theorem Lj(f:lT)(v:V):∀fs:lS (lT×V),(qZ f v fs).length<=fs.length+1
 | []=>by simp[qZ]
 | (k,x) ::r=>by
  have y:=Lj f v r;rw[show qZ f v ((k,x) ::r)=(if k=f then(k,v) ::r else(k,x) ::qZ f v r)from rfl]
  by_cases z:k=f
  ·rw[mY z,pi,pi];lia
  ·rw[mV z,pi,pi];lia
def pS.some_of(r:pS (some v) o):∃u,o=some u/\Yd v u:=by
 cases o with
 | none=>show(show False from r).elim
 | some u=>show#[u,rfl,r]
def pS.none_of(r:pS none o):o=none:=by
 cases o with
 | none=>rfl
 | some u=>show(show False from r).elim
def MA(r:Yd v u):PySem.W.handedIn u=true:=by
 cases v with
 | non=>cases(show u=Value.none from r);rfl
 | bl b=>cases(show u=Value.bool b from r);rfl
 | int i=>obtain⟨t,e⟩:=(show ∃t,u=Value.int i t from r);cases e;rfl
 | str x=>obtain⟨t,e⟩:=(show ∃t,u=Value.str x t from r);cases e;rfl
 | byt b=>obtain⟨t,e⟩:=(show ∃t,u=Value.bytes b t from r);cases e;rfl
 | flt b=>obtain⟨t,e⟩:=(show ∃t,u=Value.float b t from r);cases e;rfl
 | ref a=>cases(show u=Value.ref a from r);rfl
 | ty n=>cases(show u=Value.type n from r);rfl
section
def Bq(x:ol P w H h)(e:H a=some (.ins C u fs)):∃y,xw h a u C y/\(∀f,pS (fs.lookup f)<|y f)/\PySem.Within y (fs.map (·.1))/\fs.length<=1000/\H u=some (.own a):=by
 obtain⟨d,z,s,p,y,n,r,q⟩:=(show Yb P w H h a (.ins C u fs)from x a _ e)
 show#[y,#[p,n,s],r,q,z,d]
end
structure pR(K:Frag)(C:Addr):Prop where
 pg:PySem.W.plainGet K C Str.empty=true
 hd:PySem.W.hasDictIn K C=true
 po:PySem.W.plainOver K C=true
 sa:findIn K (.ref C) "__setattr__"=some (some<|.builtin "object.__setattr__")
def pR.get{K:lY}{C:lU}(c:pR K C)(f:lT):PySem.W.plainGet K C f=true:=c.pg
def mX(K:lY)(C:lU)(f:lT):Prop:=findIn K (.ref C) f=some none
def mX.taker{K:lY}{C:lU}{f:lT}(n:mX K C f):PySem.W.takerIn K C f=some none:=by
 unfold PySem.W.takerIn;rw[show findIn K (.ref C) f=some none from n]
 rfl
structure Y3(K:Frag)(C:Addr)(m:Str)(f:Addr):Prop where
 at_:findIn K (.ref C) m=some (some<|.ref f)
 fn:PySem.W.isFn K (.ref f)=true
 kp:keepIn K (.ref f)=true
section
variable {E:lV->lW->Prop}
def SB{Q:lV->lW->Prop}(I:mK X x z H s)(e:H a=some (.ins C p fs))(c:pR X.K C)(n:mX X.K C f)(l:fs.lookup f=some v)
  (h:∀u s',mK X x z H s'->Yd v u->Q u s'):wpAny (model X.prog X.w) A (getAttr (.ref a) f b) Q E s:=by
 obtain⟨w,O,r,_,_,_⟩:=Bq I.hok e;obtain⟨u,q,y⟩:=pS.some_of (v:=v) (o:=w f) (by rw[<-l];show r f);show Ya9 I.kIn O (c.get f) c.hd n q (MA y)<|h u _ (I.tok _) y
def HN{Q:lV×lS lV->lW->Prop}(I:mK X w z H s)(e:H a=some (.ins C u fs))(c:pR X.K C)(k:Y3 X.K C m g)(l:fs.lookup m=none)
  (h:Q (.ref g,[.ref a]) s):wpAny (model X.prog X.w) A (getMethod (.ref a) m pl) Q E s:=by
 obtain⟨y,O,r,_,_,_⟩:=Bq I.hok e;have x:y m=none:=pS.none_of (by rw[<-l];show r m);show Sg I.kIn O (c.get m) k.at_ k.fn x h
def ZI{Q:Unit->lW->Prop}(I:mK X Y z H s)(e:H a=some (.ins C p fs))(c:pR X.K C)(n:mX X.K C f)(B:fs.length<1000)(U:Yd y u)
  (h:∀s',mK X Y z (mM H a<|.ins C p<|qZ f y fs) s'->Q () s'):wpAny (model X.prog X.w) A (setAttr (.ref a) f u) Q E s:=by
 obtain⟨j,O,r,i,_,d⟩:=Bq I.hok e;have N:(fs.map (·.1)).length<=sizeLine:=by rw[mO,sO];lia
 refine Ycy I.kIn O c.sa c.po n.taker c.hd i N λM l L=>h _ ?_
 have hd:∃o,M.get? p=some o:=let⟨o,_,_,J,_⟩:=l.ns;#[o,J];refine I.write (x:=a) (e:=p) (by rw[e];show qV) (.inr d) (λb q G w=>(L.2 b G).trans w) hd ?_;refine#[by rw[Zd O.ne];show d,?_,O.ne,l.obj,_,l.ns,λg=>?_,λg D=>?_]
 ·have:=Lj f y fs;lia
 ·change pS ((qZ f y fs).lookup g) (if g=f then some u else j g);rw[PP]
  by_cases q:g=f
  ·rw[mY q,mY q];show U
  ·rw[mV q,mV q];show r g
 ·by_cases q:g=f
  ·rw[q];show(EK f y fs).1
  ·refine(EK f y fs).2 g (i g λw=>D ?_);change(if g=f then some u else j g)=none;rw[mV q];show w
def mK.made(I:mK X r z H s):mK X r z (mM (mM H #v[s] (.own<|#v[s]+1)) (#v[s]+1)<|.ins C #v[s] [])
  {s with heap:=(s.heap.push PySem.W.emptyDict).push (PySem.W.instObj C #v[s])}:=by
 have x:(s.heap.push PySem.W.emptyDict).get? #v[s]=some PySem.W.emptyDict:=oG s.heap rfl;have p:((s.heap.push PySem.W.emptyDict).push (PySem.W.instObj C #v[s])).get? (#v[s]+1)=some (PySem.W.instObj C #v[s]):=by
  have:=oG (s.heap.push PySem.W.emptyDict) (o:=PySem.W.instObj C #v[s]) rfl;rwa[tN]at this
 have n:(s.heap.push PySem.W.emptyDict).Ns #v[s] (λ_=>none):=#[PySem.W.emptyDict,#[],_,x,rfl,(λe he=>absurd he<|by simp),λ_=>rfl]
 have l:=I.laid (a:=#v[s]) (o:=.own<|#v[s]+1) (h':=s.heap.push PySem.W.emptyDict) (t':=s.toks) (λb u q=>nS _ q) (nH _) #[_,x];refine l.laid (a:=#v[s]+1) (o:=.ins C #v[s] []) (t':=s.toks) (λb u q=>nS _ q) (wm<|tN _ _) ?_;have w:#v[s]≠#v[s]+1:=nU<|Ay _;refine#[by rw[Zd w,Zc],pJ _,w,p,λ_=>none,(Heap.Ns1.of_empty n).at λo q=>nS _ q,λ_=>qV,λy j=>absurd rfl j]
def Qc{Q:lV->lW->Prop}(z:attributeBase e f env (eval e env)=eval e env)
  (h:wpAny (model prog w) A (eval e env) (λo y=>wpAny (model prog w) A (getAttr o f true) Q E y) E s):wpAny (model prog w) A (eval (.Attribute e f pos) env) Q E s :=
 Attribute_any_ h (by rw[arm_eval_Attribute,z])
end
inductive LX(K:Frag)(f:Str)(Q:VK)(H:Hp):V->Prop
 | mk {a C dx fs v}:H a=some (.ins C dx fs)->pR K C->mX K C f->fs.lookup f=some v->Q v H->LX K f Q H (.ref a)
def Yjj(K:lY)(y:TE)(f:lT):TE:=λz H Q=>y z H λx w=>LX K f Q w x
inductive SF(K:Frag)(f:Str)(y:V)(H:Hp)(k:Hp->Prop):V->Prop
 | mk {a C dx fs}:H a=some (.ins C dx fs)->pR K C->mX K C f->fs.length<1000->k (mM H a<|.ins C dx<|qZ f y fs)->SF K f y H k (.ref a)
def WO(K:lY)(w u:TE)(f:lT):TS:=λD z H=>u z H λy s=>w z s λx r=>SF K f y r (D.nx z) x
def Z2(he:PE X e y)(w:attributeBase e f X.env (eval e X.env)=eval e X.env):PE X (.Attribute e f pos) (Yjj X.K y f):=by
 intro r s z H Q I h;refine Qc w<|ng (he r s z H _ I h) λu x p=>?_;obtain⟨x,o,j,i,@⟨a,C,U,fs,v,g,c,n,l,q⟩⟩:=p;obtain rfl:u=Value.ref a:=i;show SB j g c n l λN M d Y=>#[v,o,d,Y,q]
def Wo(r:PE X o p)(j:PE X value i)(g:swapsWith value (some<|.Attribute o f e) pos.line X.env=pure false):PS X (.Assign [.Attribute o f e] value pos) (WO X.K p i f):=by
 intro w s z H D I h;refine Le (ng (j w s z H _ I h) λu x ⟨y,d,Y,U,q⟩=>ng (r w x z d _ Y q) λQ C N=>?_) g;obtain⟨x,y,M,L,@⟨a,C,u,fs,J,c,n,l,G⟩⟩:=N;obtain rfl:Q=Value.ref a:=L;show ZI M J c n l U λB E=>#[z,_,E,G]
def Ydj{pl:Sem Bool}{m:lT}{w:Pos}{args:lS me}{r:lS (lU×Obj)}{s:lW}{z:St}{H:Hp}{Q:lV->lW->Prop}{o:TE}(he:PE X e o)(I:mK X r z H s)
  (h:o z H λx p=>∃a C n fs g,x=.ref a/\p a=some (.ins C n fs)/\pR X.K C/\Y3 X.K C m g/\fs.lookup m=none/\
   ∀y,mK X r z p y->wpAny (model X.prog X.w) X.A (callWith pos (.ref g) [.ref a] (backTo pos<|starEach args X.env) (backToKw pos<|keywordEach [] X.env)) Q X.xe y)
  (d:eval (.Call (.Attribute e m w) args [] pos) X.env=(do
   let j <-eval e X.env
   standAt w.atName
   let(f,first) <-holding [j] (getMethod j m pl)
   callWith pos f first (backTo pos<|starEach args X.env) (backToKw pos<|keywordEach [] X.env))) :
  wpAny (model X.prog X.w) X.A (eval (.Call (.Attribute e m w) args [] pos) X.env) Q X.xe s:=by
 refine Ec (pl:=pl) (ng (he r s z H _ I h) λu y Y=>?_) d;obtain⟨x,p,i,U,a,C,n,fs,g,N,M,c,k,l,q⟩:=Y;subst N;obtain rfl:u=Value.ref a:=U;show HN i M c k l<|q y i
section
variable {E:lV->lW->Prop} {Q:lV->lW->Prop}
inductive Xl(K:Frag)(H:Hp):V->Value->Prop where
 | non:Xl K H .non (.type "NoneType")
 | bl (x:Bool):Xl K H (.bl x) (.type "bool")
 | int (i:Int):Xl K H (.int i) (.type "int")
 | str (x:Str):Xl K H (.str x) (.type "str")
 | flt (x:UInt64):Xl K H (.flt x) (.type "float")
 | lst {a:Addr} {xs:List V} (e:H a=some (.lst xs)):Xl K H (.ref a) (.type "list")
 | frz {a:Addr} {o:Obj} {xs:List V} (e:H a=some (.frz o<|.lst xs)):Xl K H (.ref a) (.type "list")
 | tup {a:Addr} {xs:List V} (e:H a=some (.tup xs)):Xl K H (.ref a) (.type "tuple")
 | dK {a:Addr} {kvs:List (nj×V)} (e:H a=some (.dK kvs)):Xl K H (.ref a) (.type "dict")
 | dT {a:Addr} {kvs:List (List nj×V)} (e:H a=some (.dT kvs)):Xl K H (.ref a) (.type "dict")
 | ins {a C dx:Addr} {fs:List (Str×V)} (e:H a=some (.ins C dx fs)) (cl:pR K C) (ha:findIn K (.ref C) "__class__"=some (some<|.builtin "object.__class__"))
   (hn:PySem.W.specialIn K (.builtin "object.__class__") "__get__"=some (some<|.builtin "getset_descriptor.__get__")) (htk:PySem.W.takesIn K (.builtin "object.__class__")=some true)
   (hm:PySem.W.mroIn K C (.type "object")=some true):Xl K H (.ref a) (.ref C)
def NQ(I:mK X c7 z H s)(r:Yd x u)(N:Xl X.K H x t)(e:kitOne X.K t c=some b)(h:∀M,Q (.bool b) {s with toks:=M}) :
  wpAny (model X.prog X.w) A (call (.builtin "isinstance") [u,c]) Q E s:=by
 cases N with
 | non=>cases(show u=Value.none from r);show rE PySem.W.kitx_none I.kIn qV e (λy=>nomatch y) h
 | bl w=>cases(show u=Value.bool w from r);show rE PySem.W.kitx_bool I.kIn qV e (λy=>nomatch y) h
 | int i=>obtain⟨t,q⟩:=(show ∃t,u=Value.int i t from r);cases q;show rE PySem.W.kitx_int I.kIn qV e (λy=>nomatch y) h
 | str w=>obtain⟨t,q⟩:=(show ∃t,u=Value.str w t from r);cases q;show rE PySem.W.kitx_str I.kIn qV e (λy=>nomatch y) h
 | flt w=>obtain⟨t,q⟩:=(show ∃t,u=Value.float w t from r);cases q;show rE PySem.W.kitx_float I.kIn qV e (λy=>nomatch y) h
 | @lst a d l =>
  cases(show u=Value.ref a from r);obtain⟨_,_,n,_,j⟩:=(show Yb X.prog X.w H s.heap a (.lst d)from I.hok a _ l)
  show rE PySem.W.kitx_list I.kIn #[_,j,rfl] e (λy=>nomatch y) h
 | @frz a i d l =>
  cases(show u=Value.ref a from r);obtain⟨_,_,_,n,_,j⟩:=(show Yb X.prog X.w H s.heap a (.frz i<|.lst d)from I.hok a _ l)
  show rE PySem.W.kitx_list I.kIn #[_,j,rfl] e (λy=>nomatch y) h
 | @tup a d l =>
  cases(show u=Value.ref a from r);obtain⟨_,_,_,p⟩:=(show Yb X.prog X.w H s.heap a (.tup d)from I.hok a _ l)
  obtain⟨o,j,Y,_⟩:=p;show rE PySem.W.kitx_tuple I.kIn #[o,j,Y] e (λy=>nomatch y) h
 | @dK a g l =>
  cases(show u=Value.ref a from r);obtain⟨_,_,i,_,p⟩:=(show Yb X.prog X.w H s.heap a (.dK g)from I.hok a _ l)
  obtain⟨o,L,G,j,Y,_⟩:=p;show rE PySem.W.kitx_dict I.kIn #[o,j,Y.1] e (λy=>nomatch y) h
 | @dT a g l =>
  cases(show u=Value.ref a from r);obtain⟨_,_,d,_,o,L,G,j,Y,_⟩:=(show Yb X.prog X.w H s.heap a (.dT g)from I.hok a _ l)
  show rE PySem.W.kitx_dict I.kIn #[o,j,Y.1] e (λy=>nomatch y) h
 | @ins a C dx fs l U D B i hm =>
  cases(show u=Value.ref a from r);obtain⟨mA,O,_⟩:=Bq I.hok l;obtain⟨od,J,_⟩:=O.look;show rE (PySem.W.kitx_own (U.get _) U.hd D B i hm) I.kIn J e (λy=>nomatch y) h
end
structure Y8(k:Nat)(A:Around):Prop where
 hd:A.handled=none
 dp:A.depth+3 * k+5<recursionLimit
 un:A.units+16 * k+200<cLine
 gd:A.guards=some []
def Y8.mono(r:Y8 k A)(h:j<=k):Y8 j A:=#[r.hd,by have:=r.dp;lia,by have:=r.un;lia,r.gd]
def Y8.m{j k:Nat}{A:mi}(r:Y8 k A)(h:j<=k:=by lk):Y8 j A:=r.mono h
def Y8.deeper(r:Y8 (k+1) A)(env:Env):Y8 k (A.deeper env) :=
 #[r.hd,by have:=r.dp;change A.depth+1+3 * k+5<_;lia,by have:=r.un;change A.units+3+16 * k+200<_;lia,r.gd]
def SW{A:mi}{C:lU}{us:lS lV}{z:lS (lT×lV)}:(A.under<|.builtin "type.__call__" #[.ref C ::us,z]).depth=A.depth+1:=by
 first|rfl|simp[Around.under,Code.weight,Code.isCreation,Code.isGuard,Code.isCaller,Code.frames,Code.isFrame,guardIds]
def VF{A:mi}{C:lU}{us:lS lV}{z:lS (lT×lV)}:(A.under<|.builtin "type.__call__" #[.ref C ::us,z]).units=A.units+1:=by
 first|rfl|simp[Around.under,Code.cUnits,Code.frames,Code.isFrame]
def VW{A:mi}{C:lU}{us:lS lV}{z:lS (lT×lV)}:(A.under<|.builtin "type.__call__" #[.ref C ::us,z]).guards=A.guards:=by
 first|rfl|simp[Around.under,Code.guards,Code.isGuard,guardIds,pushGuards]
def Y8.make{k:Nat}{A:mi}(r:Y8 (k+1) A)(C:lU)(us:lS lV)(z:lS (lT×lV)):Y8 k (A.under<|.builtin "type.__call__" #[.ref C ::us,z]) :=
 #[r.hd,by have:=r.dp;rw[SW];lia,by have:=r.un;rw[VF];lia,VW.trans r.gd]
def Y8.depth(r:Y8 k A):A.depth<recursionLimit:=by have:=r.dp;lia
def Y8.units(r:Y8 k A):A.units+64<cLine:=by have:=r.un;lia
def vQ:TA:=λ_ H Q=>Q [] H
def tR(y:TE)(w:TA):TA:=λz H Q=>y z H λx u=>w z u λs r=>Q (x ::s) r
def Za:PA X [] vQ:=λ_ _ _ _ H Q I h=>Aw #[[],H,I,.nil,h]
def Uv(q:PE X e p)(o:PA X w t)(n:starEach (e ::w) X.env=(false,eval e X.env) ::starEach w X.env:=by rfl):PA X (e ::w) (tR p t):=by
 intro y r s z H Q I h;rw[n];change wpAny _ _ (spliced<|(false,eval e X.env) ::backTo y (starEach w X.env)) _ _ s;refine yL<|ng (q r s z H _ I h) λu l ⟨x,j,i,g,d⟩=>?_;show ng (o y r l z j _ i d) λM L ⟨c,a,Y,U,N⟩=>#[x ::c,a,Y,.cons g U,N]
abbrev Sp:=lS V->Hp->VK->XK->Prop
abbrev vm:=lS Env->Hp->lW->XK->lV->lW->Prop
structure uS(P:Program)(w:World)(K:Frag)(mg:Str->Option Value)(mG:Heap)(A:Around)(mD:List Env)(s:Shared)(H:Hp):Prop where
 frames:A.frames=some mD
 mod:Mod K mg mG
 bs:∀b o,mG.get? b=some o->s.heap.get? b=some o/\H b=none
 bsz:mG.objs.size<=#v[s]
 funs:s.heap.FunFrames mG mD
 frf:∀b∈oi mD,H b=none
 hok:ol P w H s.heap
 bare:AllBare s.gens
def CE(y:lS Env)(P:mh)(w:md)(H:Hp)(s:lW)(Q:VK)(u:lV)(s':lW):Prop :=
 ∃v z,s'.os=s.os/\AllBare s'.gens/\Un (oi y) [] H z s.heap s'.heap/\ol P w z s'.heap/\Yd v u/\Q v z
def CR(y:vm)(z:lS Env)(P:mh)(w:md)(H:Hp)(s:lW)(Q:VK)(E:XK)(r:Result)(s':lW):Prop :=
 match r with
 | .ok (.ret u)=>CE z P w H s Q u s'
 | .ok _=>False
 | .error e=>y z H s E e s'
structure Y6(P:Program)(w:World)(K:Frag)(mg:Str->Option Value)(mG:Heap)(CX:vm)(k:Nat)(f:Addr)(fd:FuncData)(ps:List Str)(sp:Sp):Prop where
 len:∀vs H Q E,sp vs H Q E->vs.length=ps.length
 run:∀(A:Around)(mD:List Env)(s:Shared)(H:Hp)(args:Args)(us:List Value)(vs:List V)(Q:VK)(E:XK),Y8 k A->uS P w K mg mG A mD s H->BindsTo s fd args (ps.zip us)->Z8 vs us->sp vs H Q E->
  codeAny (model P w) A (.call (.ref f) args) (CR CX mD P w H s Q E) s
def Y6.mono{P:mh}{w:md}{K:lY}{z:lT->lX lV}{mG:ma}{y:vm}{j k:Nat}{f:lU}{fd:mj}{ps:lS lT}{x:Sp}(F:Y6 P w K z mG y j f fd ps x)(h:j<=k) :
  Y6 P w K z mG y k f fd ps x:=#[F.len,λA u s H args r q Q E p=>F.run A u s H args r q Q E<|p.mono h]
def uS.make{P:mh}{w:md}{K:lY}{z:lT->lX lV}{mG:ma}{A:mi}{y:lS Env}{s:lW}{H:Hp}(e:uS P w K z mG A y s H)(C:lU)(us:lS lV)(x:lS (lT×lV)) :
  uS P w K z mG (A.under<|.builtin "type.__call__" #[.ref C ::us,x]) y s H:=#[by first|show e.frames|(simpa[Around.under,Code.envs,Code.isFrame,pushEnvs]using e.frames),e.mod,e.bs,e.bsz,e.funs,e.frf,e.hok,e.bare]
def mK.env0(I:mK X y z H s):uS X.prog X.w X.K X.mg X.mG X.A X.stack s H :=
 #[I.ok.frames,I.ok.mod,I.bs,oo I.ok.bsz I.sz,I.stack,I.stkFree,I.hok,I.bare]
def mK.after(I:mK X o z H s)(h:CE X.stack X.prog X.w H s Q u s'):EP X o z Q u s':=by
 obtain⟨v,n,os,x,un,w,r,q⟩:=h;obtain⟨l,g,d,t,p⟩:=s';obtain rfl:p=s.os:=os;show#[v,n,I.call (h':=l) (g':=g) (d':=d) (t':=t) (ch:=[]) un w x (λb y=>absurd y<|by simp),r,q]
def Nq(y:Sp)(x:lS V)(E:XK)(t:TA):TE:=λz H Q=>t z H λw u=>y (w++x) u Q E
inductive MI(C:Addr)(m:Str)(H:Hp)(k:V->Prop):V->Prop
 | mk {a dx fs}:H a=some (.ins C dx fs)->fs.lookup m=none->k (.ref a)->MI C m H k (.ref a)
def HW(C:lU)(m:lT)(w:Sp)(u:lS V)(E:XK)(s:TE)(t:TA):TE:=λz H Q=>s z H λx y=>MI C m y (λx=>t z y λr q=>w (x ::(r++u)) q Q E) x
def qr(K:lY)(fd:mj)(ps:lS lT)(ds:lS lV):Prop :=
 ∀(s:lW)(z:lS lV),K.In s.heap->(z++ds).length=ps.length->BindsTo s fd #[z,[]] (ps.zip<|z++ds)
def qr.all{K:lY}{fd:mj}{ps:lS lT}(h:∀us:lS lV,us.length=ps.length->bindArgs fd #[us,[]]=pure (ps.zip us)):qr K fd ps []:=λs us _ z=>by
 rw[qj]at z ⊢;show .of_eq<|h us z
def sJ(x:vm)(X:Cx)(E:XK):Prop:=∀(w:lS (lU×Obj)) (z:St) (H:Hp) (s:lW) (e:lV) (y:lW),mK X w z H s->x X.stack H s E e y->X.xe e y
def Ix(F:Y6 X.prog X.w X.K X.mg X.mG p k f fd ps o)(n:Y8 k X.A)(l:qr X.K fd ps ds)(hd:Z8 x ds)(j:sJ p X E)
  (I:mK X w z H s) (r:Z8 vs us) (h:o (vs++x) H Q E):wpAny (model X.prog X.w) X.A (call (.ref f) us) (EP X w z Q) X.xe s:=by
 have q:Z8 (vs++x) (us++ds):=r.append hd;have i:(us++ds).length=ps.length:=by rw[<-q.length];show F.len _ _ _ _ h
 refine uT<|vn (F.run X.A X.stack s H #[us,[]] (us++ds) (vs++x) Q E n I.env0 (l s us I.kIn i) q h) λr g y=>?_;cases r with
 | error e=>show j w z H s e g I y
 | ok e =>
  cases e with
  | ret u=>show I.after y
  | next=>show False.elim y
  | brk=>show False.elim y
  | cont=>show False.elim y
def Xv(F:Y6 X.prog X.w X.K X.mg X.mG u k f fd ps o)(n:Y8 k X.A)(l:Gl X x)(j:X.mg x=some (.ref f))(i:keepIn X.K (.ref f)=true)(g:qr X.K fd ps ds)(hd:Z8 d ds)(c:sJ u X E)
  (a:PA X (e ::y) t) (Y:(x ==("__debug__":lT))=false:=by lk) (he:starEach (e ::y) X.env=(false,eval e X.env) ::starEach y X.env:=by rfl) (U:(backTo pos<|starEach y X.env).any (·.1)=false:=by rfl) :
  PE X (.Call (.Name x p) (e ::y) [] pos) (Nq o d E t):=by
 intro N s z H Q I h;refine uZ<|xJ I l j ?_ Y;refine zU (h₀:=X.mG) I.ok.mod.kin i (ng (a pos N s z H _ I h) λM L ⟨J,G,w,r,q⟩=>#[w.kIn,?_]) he U;show Ix F n g hd c w r q
def Z5(he:PE X o d)(c:pR X.K C)(w:Y3 X.K C m f)(F:Y6 X.prog X.w X.K X.mg X.mG Y k f fd ps U)(N:Y8 k X.A)(M:qr X.K fd ps ds)(hd:Z8 L ds)(J:sJ Y X E)(G:PA X (e ::y) t)
  (D:starEach (e ::y) X.env=(false,eval e X.env) ::starEach y X.env:=by rfl) (B:(backTo pos<|starEach y X.env).any (·.1)=false:=by rfl)
  (A:eval (.Call (.Attribute o m p) (e ::y) [] pos) X.env=(do
   let n <-eval o X.env
   standAt p.atName
   let(f,first) <-holding [n] (getMethod n m pl)
   callWith pos f first (backTo pos<|starEach (e ::y) X.env) (backToKw pos<|keywordEach [] X.env)):=by rfl) :
  PE X (.Call (.Attribute o m p) (e ::y) [] pos) (HW C m U L E d t):=by
 intro j s z H Q I h;refine Ec (pl:=pl) (ng (he j s z H _ I h) λu s1 h9=>?_) A;obtain⟨x,H1,i,rx,@⟨a,dx,fs,ea,l,q⟩⟩:=h9;obtain rfl:u=Value.ref a:=rx;refine HN i ea c w l ?_;refine zU (first:=[.ref a]) (h₀:=X.mG) I.ok.mod.kin w.kp (ng (G pos j s1 z H1 _ i q) λus x ⟨vs,H2,g,r,q2⟩=>#[g.kIn,?_]) D B;show Ix (us:=.ref a ::us) (vs:=.ref a ::vs) F N M hd J g (.cons rfl r) q2
def Yi{pl:Sem Bool}(he:PE X o n)(c:pR X.K C)(w:Y3 X.K C m f)(F:Y6 X.prog X.w X.K X.mg X.mG j k f fd ps i)(g:Y8 k X.A)(e:qr X.K fd ps ds)(hd:Z8 d ds)(Y:sJ j X E)
  (U:eval (.Call (.Attribute o m r) [] [] pos) X.env=(do
   let p <-eval o X.env
   standAt r.atName
   let(f,first) <-holding [p] (getMethod p m pl)
   callWith pos f first (backTo pos<|starEach [] X.env) (backToKw pos<|keywordEach [] X.env)):=by rfl) :
  PE X (.Call (.Attribute o m r) [] [] pos) (HW C m i d E n vQ):=by
 intro N s z H Q I h;refine Ec (pl:=pl) (ng (he N s z H _ I h) λu x M=>?_) U;obtain⟨x,G,y,L,@⟨a,D,fs,J,l,q⟩⟩:=M;obtain rfl:u=Value.ref a:=L;refine HN y J c w l ?_;show PySem.W.callWith_K0 (first:=[.ref a]) y.kIn w.kp<|Ix (us:=[.ref a]) (vs:=[.ref a]) F g e hd Y y (.cons rfl .nil) q
structure Mk(K:Frag)(C f:Addr):Prop where
 makes:PySem.W.makesIn K C=true
 init:findIn K (.ref C) "__init__"=some (some<|.ref f)
 fn:PySem.W.isFn K (.ref f)=true
 kp:keepIn K (.ref C)=true
def Zzy(M:Mk X.K C f)(F:Y6 X.prog X.w X.K X.mg X.mG j k f fd ps i)(g:Y8 (k+1) X.A)(d:qr X.K fd ps ds)(hd:Z8 p ds)
  (c:sJ j X E) (I:mK X o z H s) (r:Z8 vs us)
  (h:∀x w,H x=none->H w=none->w≠x->i (.ref x ::(vs++p)) (mM (mM H w<|.own x) x<|.ins C w []) (λv a=>v=.non/\Q (.ref x) a) E) :
  wpAny (model X.prog X.w) X.A (call (.ref C) us) (EP X o z Q) X.xe s:=by
 have n:=h (#v[s]+1) #v[s] (I.hok.fresh<|sQ _) (I.hok.fresh<|nH _) (nU<|Ay _);have q:=mK.made (C:=C) I;have l:Z8 (V.ref (#v[s]+1) ::(vs++p)) (Value.ref (#v[s]+1) ::(us++ds)):=.cons rfl<|r.append hd;have Y:(Value.ref (#v[s]+1) ::us++ds).length=ps.length:=by
  have e:=l.length;rw[F.len _ _ _ _ n]at e;show e.symm
 refine uT (UT (f:=f) I.kIn M.makes M.init (rG.mp M.fn) (vn (F.run _ X.stack _ _ #[Value.ref (#v[s]+1) ::us,[]] (Value.ref (#v[s]+1) ::(us++ds)) _ _ E (g.make C us [])
  (q.env0.make C us []) (d _ (Value.ref (#v[s]+1) ::us) q.kIn Y) l n) λr U y=>?_))
 cases r with
 | error e=>show c o z _ _ e U q y
 | ok N =>
  cases N with
  | ret u =>
   obtain⟨v,L,J,G,D,B⟩:=q.after y;subst D;show#[G,#[V.ref<|#v[s]+1,L,J,rfl,B]]
  | next=>show False.elim y
  | brk=>show False.elim y
  | cont=>show False.elim y
structure Zx(N P:List Str)(sc:Scope):Prop where
 kind:sc.kind=.function:=by rfl
 co:sc.isCoroutine=false:=by rfl
 gen:sc.isGenerator=false:=by rfl
 nd:N.Nodup:=by left
 pre:N.take P.length=P:=by rfl
 par:∀x∈P,sc.names.lookup x=some .local\/sc.names.lookup x=some .cell:=by left
 nofree:∀y∈sc.names,y.2≠.free:=by left
theorem Pc{kindOf:lT->lX NameKind}:∀{binds:lS (lT×lV)}{m:lT->lX lV},(∀v,(x,v)∉binds)->bindL kindOf binds m x=m x
 | [],_,_=>rfl
 | (n,v) ::r,m,h=>by
  unfold bindL;rw[Pc λw z=>h w<|pe _ z];split
  ·have:x≠n:=by rintro rfl;show h v oM
   simp[this]
  ·rfl
theorem Od{kindOf:lT->lX NameKind}:∀{binds:lS (lT×lV)}{m:lT->lX lV},(∀v,(x,v)∉binds)->bindC kindOf binds m x=m x
 | [],_,_=>rfl
 | (n,v) ::r,m,h=>by
  unfold bindC;rw[Od λw z=>h w<|pe _ z];split
  ·rfl
  ·have:x≠n:=by rintro rfl;show h v oM
   simp[this]
theorem Nf{kindOf:lT->lX NameKind} :∀{P:lS lT}{vs:lS lV}{i:Nat}{m:lT->lX lV},P.Nodup->P[i]? =some x->vs[i]? =some v->kindOf x=some .local->
  bindL kindOf (P.zip vs) m x=some v
 | [],_,_,_,_,h,_,_=>by simp at h
 | _ ::_,[],_,_,_,_,h,_=>by simp at h
 | p ::P,w ::vs,0,m,u,z,y,s=>by
  simp at z y;subst z;subst y;change bindL kindOf ((p,w) ::P.zip vs) m p=_;unfold bindL;rw[Pc λv r=>(pZ.mp u).1 (tD r).1,mY s];simp
 | p ::P,w ::vs,i+1,m,u,z,y,s=>by
  change bindL kindOf ((p,w) ::P.zip vs) m x=_;unfold bindL;show Nf (i:=i) (pZ.mp u).2 (by simpa using z) (by simpa using y) s
theorem Mo{kindOf:lT->lX NameKind} :∀{P:lS lT}{vs:lS lV}{i:Nat}{m:lT->lX lV},P.Nodup->P[i]? =some x->vs[i]? =some v->kindOf x≠some .local->
  bindC kindOf (P.zip vs) m x=some v
 | [],_,_,_,_,h,_,_=>by simp at h
 | _ ::_,[],_,_,_,_,h,_=>by simp at h
 | p ::P,w ::vs,0,m,u,z,y,s=>by
  simp at z y;subst z;subst y;change bindC kindOf ((p,w) ::P.zip vs) m p=_;unfold bindC;rw[Od λv r=>(pZ.mp u).1 (tD r).1,mV s];simp
 | p ::P,w ::vs,i+1,m,u,z,y,s=>by
  change bindC kindOf ((p,w) ::P.zip vs) m x=_;unfold bindC;show Mo (i:=i) (pZ.mp u).2 (by simpa using z) (by simpa using y) s
def start(N:lS lT)(vs:lS V):St:=vs.map some++List.replicate (N.length-vs.length) none
def pb(x:vm)(P:mh)(w:md)(K:lY)(mg:lT->lX lV)(mG:ma)(N:lS lT)(qual:lT)(scope:Scope)(f:lU)(y:lV)(A:mi)(mD:lS Env)(s:lW)(H:Hp)(E:XK):Cx where
 prog:=P
 w:=w
 K:=K
 mg:=mg
 mG:=mG
 A:=A.deeper (envOfC qual scope #v[s] f y)
 N:=N
 ml:=s
 mo:=H
 env:=envOfC qual scope #v[s] f y
 mD:=mD
 stack:=envOfC qual scope #v[s] f y ::mD
 ex:=[]
 calm:=true
 fn:=λ_=>true
 pn:=[]
 xe:=λe u=>wpAny (model P w) (A.deeper<|envOfC qual scope #v[s] f y) (leaving (envOfC qual scope #v[s] f y) e) (λ_ z=>x mD H s E e z) (λr z=>x mD H s E r z) u
def JG{z:Scope}{n:Nat}{x:lT}(h:z.names.lookup x=some .cell):∃c,(cellsFrom n z.names []).lookup x=some c:=by
 have q:=Ik z.names n [] (.inl h);show EW.mp q
def Jy{J:vm}{P:mh}{w:md}{K:lY}{M:lT->lX lV}{mG:ma}{N ps:lS lT}{qual:lT}{scope:Scope}{f:lU}{Y:lV}{A:mi}{L:lS Env}{s I:lW}{H:Hp}{E:XK}{us:lS lV}{vs:lS V}
  (S:Zx N ps scope) (hd:A.handled=none) (l:uS P w K M mG A L s H) (hl:vs.length=ps.length) (r:Z8 vs us)
  (x:InCallC s #v[s] (bindL (envOfC qual scope #v[s] f Y).kindOf (ps.zip us) λ_=>none) (cellsFrom (#v[s]+1) scope.names []) (bindC (envOfC qual scope #v[s] f Y).kindOf (ps.zip us) λ_=>none) I) :
  mK (pb J P w K M mG N qual scope f Y A L s H E) [] (start N vs) H I:=by
 have u6:ps.length<=N.length:=by have:=oN List.length S.pre;rw[oy]at this;lia
 obtain⟨U,u,rfl,G⟩:=x.done;have j:∀b:lU,b∉(pb J P w K M mG N qual scope f Y A L s H E).ex:=λb z=>absurd (show b∈([]:lS lU)from z) (by simp)
 refine#[#[l.mod,S.kind,rfl,rfl,nH _,λy z c U o=>?_,λy g=>?_,λy c _ h=>?_,λ_=>hd,GZ l.frames,.inr #[rfl,rfl],λb z=>absurd z<|j b,l.bs,l.bsz,λb _ _=>j b,λb z=>absurd z<|j b,l.funs,l.frf],
  rfl,l.bare,Un.kept G,#[_,x.toInCall.ns,λi y v U o u=>?_],λy c h=>#[_,x.cell y c h],l.hok.fresh<|nH _,λy c h=>?_,λp d=>absurd (show p∈([]:lS (lU×Obj))from d) (by simp),l.hok.kept G,?_]
 ·show name_of_addr x.apart (rH U)<|rH o
 ·have g:scope.names.lookup y=some .cell\/scope.names.lookup y=some .free:=g;rcases g with g|g
  ·show JG g
  ·show absurd rfl<|S.nofree _<|rH g
 ·show uI<|x.above y c<|rH h
 ·have Q:i<vs.length:=by
   unfold start at o
   by_cases Q:i<vs.length
   ·show Q
   ·rw[CZ (by simpa using Q)]at o;rw[Iw]at o;split at o<;>cases o
  have C:vs[i]? =some v:=by
   unfold start at o;rw[DZ (by simpa using Q),nR]at o;cases e:vs[i]? with
   | none=>rw[e]at o;cases o
   | some a=>rw[e]at o;cases o;rfl
  obtain⟨u,D,B⟩:=r.get C;have d:ps[i]? =some y:=by
   rw[<-S.pre,List.getElem?_take_of_lt<|by lia];show U
  have p:ps.Nodup:=by rw[<-S.pre];show S.nd.sublist<|List.take_sublist _ _
  refine#[u,B,?_];rcases S.par y (pE d)with k|k
  ·show .inl #[k,Nf p d D k]
  ·obtain⟨c,e⟩:=JG (n:=#v[s]+1) k;refine .inr #[.inl k,c,e,?_];have q:=x.cell y c e;rw[Mo p d D (by change scope.names.lookup y≠_;rw[k];decide)]at q;show q
 ·show l.hok.fresh<|uI<|x.above y c<|rH h
 ·unfold start;change _=N.length;rw[oj,mO,Jq];lia
def DE{g:vm}{P:mh}{w:md}{K:lY}{d:lT->lX lV}{mG:ma}{k:Nat}{f:lU}{name qual:lT}{params:Arguments}{body:lS lZ}{scope:Scope}{L kV G D l C oc:lV}{B od:lX lU}
  {N5:Array (lX lV)} {N ps:lS lT} {c:Sp} (lk:K.lookup f=some #[oc,od,.func<|fnOf name qual params body scope L kV G D B l C,N5]) (E5:codeIn K l qual=true) (S:Zx N ps scope)
  (len:∀vs H Q E,c vs H Q E->vs.length=ps.length)
  (u9:∀(A:mi)(j:lS Env)(s:lW)(H:Hp)(vs:lS V)(Q:VK)(E:XK),Y8 k (A.deeper<|envOfC qual scope #v[s] f l)->c vs H Q E->
   ∃t,qL (pb g P w K d mG N qual scope f l A j s H E) body t/\t {nx:=λ_ p=>Q .non p,rt:=Q} (start N vs) H) :
  Y6 P w K d mG g (k+1) f (fnOf name qual params body scope L kV G D B l C) ps c:=by
 refine#[len,λA j s H args us vs Q E a h hb r T4=>?_];have hl:=len _ _ _ _ T4;have KX:K.In s.heap:=h.mod.kin.keeps λb o e=>(h.bs b o e).1
 have Y:s.heap.NoLimit:=h.mod.nolimit.keeps λb o e=>(h.bs b o e).1
 have V5:∀y∈ps.zip us,scope.names.lookup y.1=some .local\/(scope.names.lookup y.1=some .cell/\((cellsFrom (#v[s]+1) scope.names []).lookup y.1).isSome=true):=λ⟨n,v⟩ hy=>by
  rcases S.par n (tD hy).1 with q|q
  ·show .inl q
  ·show .inr #[q,Ik _ _ _<|.inl q]
 refine codeAny_call_function a.depth (KX _ _ lk) rfl S.co S.gen rfl (KD KX E5)<|hb _ _ _ _ ?_;refine NN S.kind V5 λenv he s1 x=>?_
 subst he;refine#[Y.keeps x.toInCall.keep,codeAny_func ?_];obtain⟨t,ht,hq⟩:=u9 A j s H vs Q E (a.deeper _) T4;have I:mK (pb g P w K d mG N qual scope f l A j s H E) [] (start N vs) H s1:=Jy S a.hd h hl r x;refine pT (ht [] s1 (start N vs) H _ I hq) (λfl U i=>?_) λe U i=>i
 have fin:∀{z:St}{p:Hp}{v:V}{u:lV},mK (pb g P w K d mG N qual scope f l A j s H E) [] z p U->Yd v u->Q v p->CE j P w H s Q u U :=
  λ{z p v u} J M q=>#[v,p,J.os,J.bare,J.mG,J.hok,M,q]
 cases fl with
 | ret u =>
  obtain⟨v,z,p,J,M,q⟩:=i;show fin J M q
 | next =>
  obtain⟨z,p,J,q⟩:=i;show fin (v:=V.non) (u:=Value.none) J rfl q
 | brk =>
  obtain⟨_,_,_,q⟩:=i;show False.elim q
 | cont =>
  obtain⟨_,_,_,q⟩:=i;show False.elim q
section
variable {x:lT} {p pos:Pos} {e:me} {es:lS me} {t:TA} {id T:String} {r:lS V->Hp->VK->Prop}
def yN(r:lS V->Hp->VK->Prop)(t:TA):TE:=λz H Q=>t z H λy w=>r y w Q
def Yc(w:Xd X (.builtin id) r)(u:Gl X x)(q:X.mg x=none)(o:bootBuiltins x=some (.builtin id))(n:PA X (e ::es) t)(l:x≠ "__name__":=by lk)(j:(x ==("__debug__":lT))=false:=by lk)
  (he:starEach (e ::es) X.env=(false,eval e X.env) ::starEach es X.env:=by rfl) (i:(backTo pos<|starEach es X.env).any (·.1)=false:=by rfl):PE X (.Call (.Name x p) (e ::es) [] pos) (yN r t):=by
 intro y s z H Q I h;refine uZ<|ww I u q o ?_ l j;show PyProof.Rows.callWith_builtin1 (ng (n pos y s z H _ I h) λg d ⟨c,a,Y,U,N⟩=>w y d z a c g Q Y U N) he i
def Y5(w:Xd X (.type T) r)(u:Gl X x)(q:X.mg x=none)(o:bootBuiltins x=some (.type T))(n:PA X (e ::es) t)(l:x≠ "__name__":=by lk)(j:(x ==("__debug__":lT))=false:=by lk)
  (he:starEach (e ::es) X.env=(false,eval e X.env) ::starEach es X.env:=by rfl) (i:(backTo pos<|starEach es X.env).any (·.1)=false:=by rfl):PE X (.Call (.Name x p) (e ::es) [] pos) (yN r t):=by
 intro y s z H Q I h;refine uZ<|ww I u q o ?_ l j;show yH (ng (n pos y s z H _ I h) λg d ⟨c,a,Y,U,N⟩=>w y d z a c g Q Y U N) he i
end
end L2
namespace HT
open PySem PyProof.Rows
section
variable {E:lV->lW->Prop}
def sIx(n d:Nat):lX Int->Nat
 | none=>d
 | some v=>if v<0 then(v+(n:Int)).toNat else min v.toNat n
def sIx_none(n d:Nat):sIx n d none=d:=rfl
def sIx_nat(n d k:Nat):sIx n d (some (k:Int))=min k n:=by
 change(if(k:Int)<0 then((k:Int)+(n:Int)).toNat else min (k:Int).toNat n)=min k n;rw[mV (by lia),zX]
def WW(n d:Nat)(hd:d<=n)(o:lX Int):sIx n d o<=n:=by
 cases o with
 | none=>show hd
 | some v =>
  change(if v<0 then(v+(n:Int)).toNat else min v.toNat n)<=n
  by_cases z:v<0
  ·rw[mY z];lia
  ·rw[mV z];show Nat.min_le_right _ _
def Je(v:Int)(n d:Nat):(if v<0 then max (v+(n:Int)) 0 else min v (n:Int))=((sIx n d (some v):Nat):Int):=by
 change(if v<0 then max (v+(n:Int)) 0 else min v (n:Int))=(((if v<0 then(v+(n:Int)).toNat else min v.toNat n):Nat):Int)
 by_cases z:v<0
 ·simp only[mY z];lia
 ·simp only[mV z];lia
def Zum(lo z:lX Int)(n:Nat):Builtin.Slice.sliceAdjust lo z 1 (n:Int)=(((sIx n 0 lo:Nat):Int),((sIx n n z:Nat):Int)):=by
 have y:¬((1:Int)<0):=by lia
 unfold Builtin.Slice.sliceAdjust;simp only[y,rD];refine Prod.ext ?_ ?_
 ·cases lo with
  | none=>rfl
  | some v=>show Je v n 0
 ·cases z with
  | none=>rfl
  | some v=>show Je v n n
def Ul(i j:Nat):Builtin.Slice.slicePlaces (i:Int) (j:Int) 1=j-i:=by
 unfold Builtin.Slice.slicePlaces;have z:(1:Int)>0:=by lia
 simp only[z,sP,Int.ediv_one];split<;>lia
def Pd{Q:lX Int->lW->Prop}(p:IsPart v o)(h:Q o s):wpAny (model prog w) A (Builtin.Slice.slicePartIndex v) Q E s:=by
 cases p with
 | none=>show slicePart_none h
 | int i t=>show slicePart_int h
def Zje{p:lU}{r q:lV}{lo z:lX Int}{n:Nat}{Q:Int×Int×Nat->lW->Prop}(o:s.heap.IsSliceOf p r q .none)(pl:IsPart r lo)(l:IsPart q z)
  (h:Q (((sIx n 0 lo:Nat):Int),1,sIx n n z-sIx n 0 lo) s):wpAny (model prog w) A (Builtin.Slice.sliceApplied (.ref p)<|pure (n:Int)) Q E s:=by
 obtain⟨os,y,j,u⟩:=id o;unfold Builtin.Slice.sliceApplied Builtin.Slice.sliceFields;refine mT<|mT<|xl y u (x:=r) rfl<|mT<|xl y u (x:=q) rfl<|mT<|xl y u (x:=.none) rfl<|nI ?_;refine mT<|slicePart_none ?_;change wpAny _ _ (if((1:Int) ==0)=true then _ else _) _ _ s;rw[mV (by lk)];refine mT<|Pd pl<|mT<|Pd l<|mT<|nI ?_;change wpAny _ _ (match Builtin.Slice.sliceAdjust lo z 1 (n:Int)with|(lo,z)=>pure (lo,(1:Int),Builtin.Slice.slicePlaces lo z 1)) _ _ s;rw[Zum lo z n];change wpAny _ _ (pure (((sIx n 0 lo:Nat):Int),(1:Int),Builtin.Slice.slicePlaces ((sIx n 0 lo:Nat):Int) ((sIx n n z:Nat):Int) 1)) _ _ s;rw[Ul];show nI h
def Yar(xs:Array lV)(i k:Nat):((List.range k).filterMap λ(m:Nat)=>xs[((i:Int)+(m:Int) * 1).toNat]?).toArray=((xs.toList.drop i).take k).toArray:=by
 have e:(λ(m:Nat)=>xs[((i:Int)+(m:Int) * 1).toNat]?)=λm=>xs[i+m]? :=by
  funext m
  have:((i:Int)+(m:Int) * 1).toNat=i+m:=by lia
  rw[this]
 rw[e];have:=pick_run xs i k;rw[List.filterMap_map]at this;have z:((λx=>xs[x]?) ∘ λx=>i+x)=λm=>xs[i+m]? :=rfl
 rw[z]at this;rw[this]
def getItem_tuple_cut{t r:lU}{z:Array lV}{n l:lV}{lo y:lX Int}{Q:lV->lW->Prop}(x:IsTup s.heap t z)(j:s.heap.IsSliceOf r n l .none)(pl:IsPart n lo)(i:IsPart l y)
  (g:¬(sIx z.size 0 lo=0/\sIx z.size z.size y=z.size))
  (h:Q (.ref #v[s]) {s with heap:=s.heap.push {cls:=.type "tuple",data:=.seq ((z.toList.drop<|sIx z.size 0 lo).take (sIx z.size z.size y-sIx z.size 0 lo)).toArray}})
  (hsz:z.size<=sizeLine):wpAny (model prog w) A (getItem (.ref t)<|.ref r) Q E s:=by
 have u:sizeOk (.seq ((z.toList.drop<|sIx z.size 0 lo).take (sIx z.size z.size y-sIx z.size 0 lo)).toArray):=by
  change((z.toList.drop<|sIx z.size 0 lo).take (sIx z.size z.size y-sIx z.size 0 lo)).toArray.size<=sizeLine;rw[oz,oy,yc,ub];show oo (Nat.min_le_right ..)<|oo (Nat.sub_le ..) hsz
 have a:sIx z.size z.size y<=z.size:=WW _ _ (nH _) y;obtain⟨os,p,e,d⟩:=id j;have o:s.TypeIs (.ref r) "slice":=#[os,p,e]
 unfold getItem
 try with_reducible refine qx ?_
 first|refine mT (nI ?_)|skip
 refine mT<|wpAny_sequenceKey x.typeIs (by lk) ?_;refine mT (wpAny_callSpecial?_slot (name:=Str.ofString "__getitem__") x.typeIs Dl
  (CD Dl x.typeIs entry_tuple_getitem ?_<|args_tuple_getitem _ _))
 change wpAny _ _ (Builtin.Tuple.tupleItemsOf (.ref t)>>=_) _ _ s;refine mT<|tupleItemsOf_ x ?_;refine mT<|xk o ?_;rw[mY (by lk)];refine mT<|Zje j pl i ?_;have c:¬((((sIx z.size 0 lo:Nat):Int) ==0 && (1:Int) ==1 && (sIx z.size z.size y-sIx z.size 0 lo) ==z.size)=true):=by
  intro q;rw[qv,qv]at q;have Y:((sIx z.size 0 lo:Nat):Int)=0:=eq_of_beq q.1.1;have U:sIx z.size z.size y-sIx z.size 0 lo=z.size:=eq_of_beq q.2;show g #[by lia,by lia]
 change wpAny _ _ (if(((sIx z.size 0 lo:Nat):Int) ==0 && (1:Int) ==1 && (sIx z.size z.size y-sIx z.size 0 lo) ==z.size)=true then _ else _) _ _ s;rw[mV c,Yar]
 first
  | show mT (m:=Builtin.Tuple.tupleExact _) (vJ (nI #[_,rfl,nI h]) u)
  | show mT (m:=Builtin.Tuple.tupleExact _) (vJ (mT<|nI<|nI #[_,rfl,nI h]) u)
  | show mT (mT (m:=Builtin.Tuple.tupleExact _)<|vJ (nI<|nI #[_,rfl,nI h]) u)
  | show mT<|mT (m:=Builtin.Tuple.tupleExact _)<|vJ (nI #[_,rfl,nI h]) u
end
end HT
namespace L2
open PySem PySem.Spec PyProof.Rows
abbrev TO:=St->Hp->(lX Int->Hp->Prop)->Prop
def PO(X:Cx)(e:lX me)(t:TO):Prop :=
 ∀(y:lS (lU×Obj)) (s:lW) (z:St) (H:Hp) (Q:lX Int->Hp->Prop),mK X y z H s->t z H Q->
  wpAny (model X.prog X.w) X.A (evalPart e X.env) (λu w=>∃o x,mK X y z x w/\IsPart u o/\Q o x) X.xe s
def YK:TO:=λ_ H Q=>Q none H
def XV(t:TE):TO:=λz H Q=>t z H λx y=>oI x λi=>Q (some i) y
section
variable {X:Cx} {e:me} {te:TE} {lo hi:lX me} {tl th:TO} {pos p2:Pos}
def Wu:PO X none YK:=by
 intro y s z H Q I h;rw[evalPart_none];show nI #[none,H,I,.none,h]
def We(h:PE X e te):PO X (some e) (XV te):=by
 intro y s z H Q I w;rw[evalPart_some];refine ng (h y s z H _ I w) λu l ⟨x,r,p,o,n⟩=>?_
 obtain⟨i,rfl,q⟩:=oI.out n;obtain⟨t,rfl⟩:=o;show#[some i,r,p,.int i t,q]
def rQ(X:Cx)(r:V->lX Int->lX Int->Hp->VK->Prop):Prop :=
 ∀(y:lS (lU×Obj)) (s:lW) (z:St) (H:Hp) (x:V) (v w u:lV) (lo hi:lX Int) (q:lU) (Q:VK),mK X y z H s->Yd x v->s.heap.IsSliceOf q w u .none->IsPart w lo->IsPart u hi->r x lo hi H Q->
  ∃T id,typeLookup (.type T) "__getitem__"=pure (some<|.builtin id)/\s.TypeIs v T/\wpAny (model X.prog X.w) X.A (getItem v<|.ref q) (EP X y z Q) X.xe s
def rQ.or{r y:V->lX Int->lX Int->Hp->VK->Prop}(h:rQ X r)(h':rQ X y):rQ X (λx lo hi H Q=>r x lo hi H Q\/y x lo hi H Q):=by
 intro w s z H x v u p lo hi o Q I n l j i q;rcases q with q|q
 ·show h w s z H x v u p lo hi o Q I n l j i q
 ·show h' w s z H x v u p lo hi o Q I n l j i q
def tSl(r:V->lX Int->lX Int->Hp->VK->Prop)(te:TE)(tl th:TO):TE:=λz H Q=>te z H λx y=>tl z y λl w=>th z w λu s=>r x l u s Q
def X6{r:V->lX Int->lX Int->Hp->VK->Prop}(n:rQ X r)(he:PE X e te)(j:PO X lo tl)(i:PO X hi th):PE X (.Subscript e (.Slice lo hi none p2) pos) (tSl r te tl th):=by
 intro y s z H Q I h;refine Subscript_<|ng (he y s z H _ I h) λv g ⟨x,d,c,a,Y⟩=>?_;refine wpAny_Slice<|ng (j y g z d _ c Y) λw U ⟨l,N,M,L,J⟩=>ng (i y U z N _ M J) λp s3 ⟨u,o,G,E,D⟩=>?_;rw[evalPart_none];refine nI ?_;have C:mK X y z o {s3 with heap:=s3.heap.push {cls:=.type "slice",data:=.fields (List.toArray [w,p,.none])}}:=G.kept (t':=s3.toks) λb ob q=>nS _ q
 obtain⟨T,id,B,A,hg⟩:=n y {s3 with heap:=s3.heap.push {cls:=.type "slice",data:=.fields (List.toArray [w,p,.none])}} z o x v w p l u #v[s3] Q C a (Heap.IsSliceOf.new ..) L E D;change wpAny (model X.prog X.w) X.A (subscriptTail e (.Slice lo hi none p2) v<|.ref #v[s3]) (EP X y z Q) X.xe {s3 with heap:=s3.heap.push {cls:=.type "slice",data:=.fields (List.toArray [w,p,.none])}};show tail_any (ops:=[.ref #v[s3],v]) A B hg (by with_unfolding_all rfl)
def qF(xs:lS V)(lo hi:lX Int):lS V:=(xs.drop<|HT.sIx xs.length 0 lo).take (HT.sIx xs.length xs.length hi-HT.sIx xs.length 0 lo)
def Kl(xs:lS V)(lo hi:lX Int):(qF xs lo hi).length<=xs.length:=by
 unfold qF;rw[oy,yc];lia
def SM(K:lY):V->lX Int->lX Int->Hp->VK->Prop:=λx lo hi H Q=>∃a z,x=.ref a/\SqT K H a z/\
 ¬(HT.sIx z.length 0 lo=0/\HT.sIx z.length z.length hi=z.length)/\∀p,H p=none->Q (.ref p) (mM H p<|.tup<|qF z lo hi)
def Yfu:rQ X (SM X.K):=by
 intro Y s z H x v U N lo hi M Q I n l j i h;obtain⟨a,y,rfl,g,d,q⟩:=h;cases n;obtain⟨c,r,u,p⟩:=I.tuple g;have w:c.toArray.size=y.length:=by rw[oz];show r.length.symm
 refine#["tuple",_,Dl.lookup,u.typeIs,?_];refine HT.getItem_tuple_cut u l j i (by rw[w];show d) ?_ (by rw[w];show p);rw[w];refine#[.ref #v[s],_,I.laid (t':=s.toks) (o:=.tup<|qF y lo hi) (λb a q=>nS _ q) (nH _) ?_,rfl,q _<|I.hok.fresh<|nH _];show#[oo (Kl y lo hi) p,_,(r.drop<|HT.sIx y.length 0 lo).take (HT.sIx y.length y.length hi-HT.sIx y.length 0 lo),IsTup.new _ _]
end
def vY(n:Nat)(i:Int):lX Nat:=if 0<=i then(if i<n then some i.toNat else none)else if -(n:Int)<=i then some (i+n).toNat else none
def oJ{z:Type}(xs:lS z)(i:Int):lX z:=(vY xs.length i).bind λj=>xs[j]?
def XW(h:vY n i=some j):seqIndex? i n=some j/\j<n/\-(n:Int)<=i/\i<n:=by
 unfold vY at h
 by_cases y:0<=i
 ·rw[mY y]at h
  by_cases z:i<n
  ·rw[mY z]at h;have e:i.toNat=j:=oF h;show#[by rw[seqIndex_of y z,e],by lia,by lia,z]
  ·rw[mV z]at h;cases h
 ·rw[mV y]at h
  by_cases z:-(n:Int)<=i
  ·rw[mY z]at h;have e:(i+n).toNat=j:=oF h;show#[by rw[seqIndex_neg (by lia) z,e],by lia,z,by lia]
  ·rw[mV z]at h;cases h
def FA{z:Type}{xs:lS z}{v:z}(h:oJ xs i=some v):∃j,seqIndex? i xs.length=some j/\xs[j]? =some v/\j<xs.length/\-(xs.length:Int)<=i/\i<xs.length:=by
 unfold oJ at h;cases e:vY xs.length i with
 | none=>rw[e]at h;cases h
 | some j =>
  rw[e]at h;obtain⟨y,x,w,u⟩:=XW e;show#[j,y,h,x,w,u]
def Zm{z:Type}{xs:lS z}{j:Nat}{v:z}(h:xs[j]? =some v):oJ xs (j:Int)=some v:=by
 have y:j<xs.length:=(pr.mp h).1;have e:vY xs.length (j:Int)=some j:=by
  unfold vY;rw[mY (by lia),mY<|by lia];simp
 unfold oJ;rw[e];show h
def Ez(b:me):Prop:=∀o i,subscripted b false o i=operate [o,i] (getItem o i)
def ve(X:Cx)(r:R2):Prop :=
 ∀(value slice:me)(w:lS (lU×Obj)) (s:lW) (z:St) (H:Hp) (x y:V) (v u:lV) (Q:VK),mK X w z H s->Yd x v->Yd y u->r x y H Q->
  subscripted slice false v u=operate [v,u] (getItem v u)->wpAny (model X.prog X.w) X.A (subscriptTail value slice v u) (EP X w z Q) X.xe s
def zK(X:Cx)(id:String)(r:V->lS V->Hp->VK->Prop):Prop :=
 ∀(y:lS (lU×Obj)) (s:lW) (z:St) (H:Hp) (x:V) (w:lS V) (v:lV) (u:lS lV) (Q:VK),mK X y z H s->Yd x v->Z8 w u->r x w H Q->
  wpAny (model X.prog X.w) X.A (call (.builtin id)<|v ::u) (EP X y z Q) X.xe s
section
variable {X:Cx} {a b:me} {ta tb:TE} {pos:Pos}
def ve.or(h:ve X r)(h':ve X l):ve X (λx y H Q=>r x y H Q\/l x y H Q):=by
 intro value slice w s z H x y v u Q I p o q n;rcases q with q|q
 ·show h value slice w s z H x y v u Q I p o q n
 ·show h' value slice w s z H x y v u Q I p o q n
def Oi(w:ve X r)(p:PE X a ta)(o:PE X b tb)(n:Ez b):PE X (.Subscript a b pos) (qK r ta tb):=by
 intro l s z H Q I h;show Subscript_<|Fh p o I h λv u j x y i g e d q=>w a b l j z i x y v u Q g e d q<|n _ _
inductive Ge(S:Hp->Addr->List V->Prop)(H:Hp)(Q:VK):V->V->Prop
 | mk {p xs i v}:S H p xs->oJ xs i=some v->Q v H->Ge S H Q (.ref p) (.int i)
def Ja(K:lY):R2:=λx y H Q=>Ge (SqL K) H Q x y
def Qo(K:lY):R2:=λx y H Q=>Ge (SqT K) H Q x y
def PB:R2:=λx y H Q=>∃z i c,x=.str z/\y=.int i/\z.length<=sizeLine/\oJ z.cps.toList i=some c/\Q (.str #[(List.toArray [c])]) H
def TK:ve X (Ja X.K):=by
 intro value slice e s z H x y v u Q I U N h d;obtain@⟨p,B,i,w,M,he,q⟩:=h;cases U;obtain⟨t,rfl⟩:=N;obtain⟨L,r,l,p⟩:=I.list M;obtain⟨j,n,J,p,G,E⟩:=FA he;obtain⟨o,c,D⟩:=r.get J;have C:=r.length;have A:=yr;have fin:EP X e z Q o s:=#[w,H,I,D,q]
 by_cases Y:0<=i
 ·have g:i.toNat=j:=by
   rw[seqIndex_of Y E]at n;show oF n
  show item_listR l.isList Y (by lia) (by rw[g];simpa using c) fin d
 ·have g:(i+(L.toArray.size:Int)).toNat=j:=by
   rw[seqIndex_neg (by lia) G]at n;rw[oz,<-C];show oF n
  show subscriptTail_builtinR (x:=o) l.isList.typeIs Ek.lookup
   (wpAny_getItem_list_neg (Q:=λr p=>r=o/\EP X e z Q r p) l.isList (by lia) (by rw[oz]<;>lia) (by lia) (by rw[g];simpa using c) #[rfl,fin]) d
def ZB:ve X (Qo X.K):=by
 intro value slice n s z H x y v u Q I g e h d;obtain@⟨p,J,i,w,c,he,q⟩:=h;cases g;obtain⟨t,rfl⟩:=e;obtain⟨p,r,l,i⟩:=I.tuple c;obtain⟨j,Y,U,p,i,J⟩:=FA he;obtain⟨o,N,M⟩:=r.get U;have L:=r.length;have G:=yr;have fin:EP X n z Q o s:=#[w,H,I,M,q]
 show subscriptTail_builtinR (x:=o) l.typeIs Dl.lookup
  (getItem_tuple (j:=j) (Q:=λr p=>r=o/\EP X n z Q r p) l (by lia) (by lia) (by rw[oz,<-L];show Y) (by simpa using N) #[rfl,fin]) d
def Yfc:ve X PB:=by
 intro value slice U s z H x y v u Q I p o h n;obtain⟨w,i,c,rfl,rfl,j,he,q⟩:=h;obtain⟨t,rfl⟩:=p;obtain⟨j,rfl⟩:=o;obtain⟨j,r,l,Y,g,e⟩:=FA he;have d:w.cps.toList.length=w.length:=by simp[Str.length]
 rw[d]at r g e;have N:=yr;show tail_any (xH s w t) slot_str_getitem.lookup (getItem_str (c:=c) (by
  have j:decide (i < -(2 ^ 63:Int))=false:=ow (by lia);have Y:decide (i ≥ 2 ^ 63)=false:=ow (by lia);rw[j,Y,Bool.or_false]) (by rw[r];simpa using l) #[.str #[(List.toArray [c])],H,I.tok _,#[_,rfl],q]) n
def yt(K:lY):R2:=λx y H Q=>Ja K x y H Q\/Qo K x y H Q\/PB x y H Q
def Kn:ve X (yt X.K):=TK.or<|ZB.or Yfc
def Zql(lo z:lX Int)(n:Nat):(sliceBounds lo z none n).1=((HT.sIx n 0 lo:Nat):Int)/\(sliceBounds lo z none n).2.1=((HT.sIx n n z:Nat):Int)/\(sliceBounds lo z none n).2.2=1:=by
 refine#[?_,?_,rfl]
 ·cases lo with
  | none=>simp[sliceBounds,HT.sIx]
  | some i =>
   simp only[sliceBounds,HT.sIx,Option.getD_none,show(1:Int)>0 by lk,sP]
   by_cases h:i<0
   ·simp only[h,sP]<;>lia
   ·simp only[h,rD]<;>lia
 ·cases z with
  | none=>simp[sliceBounds,HT.sIx]
  | some i =>
   simp only[sliceBounds,HT.sIx,Option.getD_none,show(1:Int)>0 by lk,sP]
   by_cases h:i<0
   ·simp only[h,sP]<;>lia
   ·simp only[h,rD]<;>lia
def XT(z:lS lV)(lo y:lX Int):slicePick z.toArray lo y none=((z.drop<|HT.sIx z.length 0 lo).take (HT.sIx z.length z.length y-HT.sIx z.length 0 lo)).toArray:=by
 obtain⟨x,w,u⟩:=Zql lo y z.toArray.size;unfold slicePick;rw[x,w,u];simp only[sliceRange_one,pick_run,oz]<;>rfl
def TJ(K:lY):V->lX Int->lX Int->Hp->VK->Prop:=λx lo y H Q=>∃a z,x=.ref a/\SqL K H a z/\∀p,H p=none->Q (.ref p) (mM H p<|.lst<|qF z lo y)
def Yc4:rQ X (TJ X.K):=by
 intro d s z H x v c Y lo w U Q I p n l j h;obtain⟨a,y,rfl,i,q⟩:=h;cases p;obtain⟨N,r,u,g⟩:=I.list i;have e:=r.length;refine#["list",_,Ek.lookup,u.isList.typeIs,?_];refine IZ u.isList n l j .none (by simp) ?_ (by rw[oz]<;>lia);rw[XT,<-e];refine#[.ref #v[s],_,I.laid (t':=s.toks) (o:=.lst<|qF y lo w) (λb N q=>nS _ q) (nH _) ?_,rfl,q _<|I.hok.fresh<|nH _];show#[oo (Kl y lo w) g,_,0,(r.drop<|HT.sIx y.length 0 lo).take (HT.sIx y.length y.length w-HT.sIx y.length 0 lo),oG _ rfl]
def tz:V->Bool
 | .non=>true
 | .bl _=>true
 | .int _=>true
 | .str _=>true
 | _=>false
def rM:V->V->Bool
 | .non,.non=>true
 | .bl a,.bl b=>a ==b
 | .bl a,.int b=>(if a then 1 else 0) ==b
 | .int a,.bl b=>a ==(if b then 1 else 0)
 | .int a,.int b=>a ==b
 | .str a,.str b=>a ==b
 | _,_=>false
def zS(r:Yd y u)(z:Yd x v)(p:tz y=true)(q:tz x=true):SeqAt.EqAt A s u v (rM y x):=by
 cases y with
 | non =>
  cases r;cases x with
  | non=>cases z;show Ab _
  | bl b=>cases z;show SeqAt.EqAt.none_bool b
  | int b=>obtain⟨t,rfl⟩:=z;show SeqAt.EqAt.none_int b t
  | str b=>obtain⟨t,rfl⟩:=z;show SeqAt.EqAt.none_str b t
  | _=>show absurd (show false=true from q) oW
 | bl a =>
  cases r;cases x with
  | non=>cases z;show SeqAt.EqAt.bool_none a
  | bl b=>cases z;show Fu a b
  | int b=>obtain⟨t,rfl⟩:=z;show SeqAt.EqAt.bool_int a b t
  | str b=>obtain⟨t,rfl⟩:=z;show SeqAt.EqAt.bool_str a b t
  | _=>show absurd (show false=true from q) oW
 | int a =>
  obtain⟨w,rfl⟩:=r;cases x with
  | non=>cases z;show SeqAt.EqAt.int_none a w
  | bl b=>cases z;show SeqAt.EqAt.int_bool a w b
  | int b=>obtain⟨t,rfl⟩:=z;show SeqAt.EqAt.int_int a w b t
  | str b=>obtain⟨t,rfl⟩:=z;show SeqAt.EqAt.int_str a w b t
  | _=>show absurd (show false=true from q) oW
 | str a =>
  obtain⟨w,rfl⟩:=r;cases x with
  | non=>cases z;show SeqAt.EqAt.str_none a w
  | bl b=>cases z;show SeqAt.EqAt.str_bool a w b
  | int b=>obtain⟨t,rfl⟩:=z;show SeqAt.EqAt.str_int a w b t
  | str b=>obtain⟨t,rfl⟩:=z;show SeqAt.EqAt.str_str a w b t
  | _=>show absurd (show false=true from q) oW
 | _=>show absurd (show false=true from p) oW
def rC(x:V)(u:lV):Bool:=match u with
 | .none=>rM .non x
 | .bool b=>rM (.bl b) x
 | .int i _=>rM (.int i) x
 | .str z _=>rM (.str z) x
 | _=>false
def Lr(r:Yd y u)(f:tz y=true):rC x u=rM y x:=by
 cases y with
 | non=>cases r;rfl
 | bl b=>cases r;rfl
 | int i=>obtain⟨t,rfl⟩:=r;rfl
 | str z=>obtain⟨t,rfl⟩:=r;rfl
 | _=>show absurd (show false=true from f) oW
theorem AA:∀{xs:lS V}{us:lS lV},Z8 xs us->xs.all tz=true->us.any (rC x)=xs.any λy=>rM y x
 | _,_,.nil,_=>rfl
 | y ::xs,u ::us,.cons r t,f=>by
  rw[Hc,qv]at f;rw[xF,xF,Lr r f.1,AA t f.2]
theorem Aa(w:Yd x v)(q:tz x=true):∀{xs:lS V}{us:lS lV},Z8 xs us->xs.all tz=true->∀u∈us,SeqAt.EqAt A s u v (rC x u)
 | _,_,.nil,_=>λu z=>by cases z
 | y ::xs,u ::us,.cons r t,f=>λp z=>by
  rw[Hc,qv]at f;rcases nV.mp z with rfl|z
  ·rw[Lr r f.1];show zS r w f.1 q
  ·show Aa w q t f.2 p z
def uM(x:V)(xs:lS V):Bool:=xs.any λy=>rM y x
inductive NR(K:Frag)(neg:Bool)(x:V)(H:Hp)(Q:VK):V->Prop
 | mk {p xs}:(SqL K H p xs\/SqT K H p xs)->tz x=true->xs.all tz=true->Q (.bl<|if neg then !uM x xs else uM x xs) H->NR K neg x H Q (.ref p)
def Aq(K:lY)(neg:Bool):R2:=λx y H Q=>NR K neg x H Q y
def Qi:og X (compareOp .In) (Aq X.K false):=by
 intro c s z H x y v u Q I i e h;obtain@⟨p,Y,o,g,fs,q⟩:=h;cases e;rcases o with o|o
 ·obtain⟨n,r,l,d⟩:=I.list o;refine SeqAt.in_listAt (rC x) l.isList (λw j=>Aa i g r fs w<|by simpa using j) #[.bl _,H,I,rfl,?_];rw[show n.toArray.any (rC x)=n.any (rC x) by simp,AA r fs];show q
 ·obtain⟨n,r,l,d⟩:=I.tuple o;refine SeqAt.in_tupleAt (rC x) l (λw j=>Aa i g r fs w<|by simpa using j) #[.bl _,H,I,rfl,?_];rw[show n.toArray.any (rC x)=n.any (rC x) by simp,AA r fs];show q
def Ur:og X (compareOp .NotIn) (Aq X.K true):=by
 intro c s z H x y v u Q I i e h;obtain@⟨p,Y,o,g,fs,q⟩:=h;cases e;rcases o with o|o
 ·obtain⟨n,r,l,d⟩:=I.list o;refine SeqAt.notIn_listAt (rC x) l.isList (λw j=>Aa i g r fs w<|by simpa using j) #[.bl _,H,I,rfl,?_];rw[show n.toArray.any (rC x)=n.any (rC x) by simp,AA r fs];show q
 ·obtain⟨n,r,l,d⟩:=I.tuple o;refine SeqAt.notIn_tupleAt (rC x) l (λw j=>Aa i g r fs w<|by simpa using j) #[.bl _,H,I,rfl,?_];rw[show n.toArray.any (rC x)=n.any (rC x) by simp,AA r fs];show q
def TL:Xd X (.builtin "len") (λxs H Q=>∃p y,xs=[.ref p]/\(SqL X.K H p y\/SqT X.K H p y)/\Q (.int y.length) H):=by
 intro g s z H xs e Q I r h;obtain⟨p,y,rfl,x,q⟩:=h;obtain⟨u,rfl,l⟩:=Wz r;cases l;have d:=yr;rcases x with x|x
 ·obtain⟨j,w,o,i⟩:=I.list x;have n:=w.length;show Calls.call_len_list o.isList (by simp only[oz]<;>lia) #[.int y.length,H,I.tok _,#[s.toks+1,by rw[oz,n]],q]
 ·obtain⟨j,w,o,i⟩:=I.tuple x;have n:=w.length;show len_tuple o (by simp only[oz]<;>lia) #[.int y.length,H,I.tok _,#[s.toks+1,by rw[oz,n]],q]
def YQ:Xd X (.builtin "len") (λxs H Q=>∃y,xs=[.str y]/\y.length<=sizeLine/\Q (.int y.length) H):=by
 intro x s z H xs w Q I r h;obtain⟨y,rfl,u,q⟩:=h;obtain⟨u,rfl,t,rfl⟩:=Wz r;have p:=yr;show len_str (by lia) #[.int y.length,H,I.tok _,#[_,rfl],q]
def Xd.or{r y:lS V->Hp->VK->Prop}(h:Xd X f r)(h':Xd X f y):Xd X f (λxs H Q=>r xs H Q\/y xs H Q):=by
 intro x s z H xs w Q I u q;rcases q with q|q
 ·show h x s z H xs w Q I u q
 ·show h' x s z H xs w Q I u q
def XU:Xd X (.type "list") (λxs H Q=>∃p w,xs=[.ref p]/\(SqL X.K H p w\/SqT X.K H p w)/\∀l,H l=none->Q (.ref l) (mM H l<|.lst w)):=by
 intro M s z H xs G Q I r h;obtain⟨p,w,rfl,g,q⟩:=h;obtain⟨u,rfl,L⟩:=Wz r;cases L;have fin:∀(x:lS lV),Z8 w x->w.length<=sizeLine->∀(y:ma)(j:Nat),(∀b u,s.heap.get? b=some u->y.get? b=some u)->
   y.get? #v[s]=some {cls:=.type "list",dict:=none,data:=.seq x.toArray j,slots:=#[]}->EP X M z Q (.ref #v[s]) {s with heap:=y}:=λx i d y j c e =>
  #[.ref #v[s],_,I.laid (t':=s.toks) c (nH _) (show Yb X.prog X.w _ y _ (.lst w)from#[d,x,j,i,e]),rfl,q _<|I.hok.fresh<|nH _]
 rcases g with g|g
 ·obtain⟨x,i,Y,d⟩:=I.list g;have J:=i.length;obtain⟨o,U,N,n,hd⟩:=Y.isList;show call_list_seq p (.inl rfl) U N hd (λy j c e=>fin x i d y j c e) (by simp only[oz]<;>lia)
 ·obtain⟨x,i,Y,d⟩:=I.tuple g;have J:=i.length;obtain⟨o,U,N,n,hd⟩:=Y;show call_list_seq p (.inr rfl) U N hd (λy j c e=>fin x i d y j c e) (by simp only[oz]<;>lia)
def Hy(K:lY)(T:String)(x:V)(H:Hp):Prop:=match x with
 | .str _=>T ="str"
 | .int _=>T ="int"
 | .ref p=>(T ="list"/\∃z,SqL K H p z)\/(T ="tuple"/\∃o,K.lookup p=some o/\o.cls=.type "tuple"/\o.dict=none)\/
   (T ="dict"/\((∃z,H p=some (.dK z))\/∃z,H p=some (.dT z)))\/(T ="set"/\∃S n,H p=some (.set S n))
 | _=>False
def LN(I:mK X d z H s)(r:Yd x v)(q:Hy X.K T x H) :
  s.TypeIs v T/\∀a,v=.ref a->∃h,s.heap.get? a=some h/\h.dict=none:=by
 cases x with
 | str y =>
  obtain⟨t,rfl⟩:=r;cases(show T ="str" from q);show#[xH s y t,λ_ e=>nomatch e]
 | int i =>
  obtain⟨t,rfl⟩:=r;cases(show T ="int" from q);show#[typeIs_int s i t,λ_ e=>nomatch e]
 | ref p =>
  cases r;rcases q with⟨rfl,l,i⟩|⟨rfl,o,w,g,hd⟩|⟨rfl,w⟩|⟨rfl,S,n,w⟩
  ·obtain⟨c,_,l,_⟩:=I.list i;refine#[l.isList.typeIs,λa e=>?_];cases e;obtain⟨o,n,e,c,hd,_⟩:=l;show#[o,e,hd]
  ·refine#[#[o,I.kIn p o w,g],λa e=>?_];cases e;show#[o,I.kIn _ o w,hd]
  ·have y:∃o,s.heap.get? p=some o/\o.ExactDict:=by
    rcases w with⟨l,w⟩|⟨l,w⟩
    ·obtain⟨_,_,_,_,o,_,_,e,u,_⟩:=I.hok p _ w;show#[o,e,u]
    ·obtain⟨_,_,_,_,o,_,_,e,u,_⟩:=I.hok p _ w;show#[o,e,u]
   obtain⟨o,e,u⟩:=y;refine#[#[o,e,u.1],λa j=>?_];cases j;show#[o,e,u.2.1]
  ·obtain⟨o,_,_,_,e,u,_⟩:=I.hok p _ w;refine#[#[o,e,u.1],λa j=>?_];cases j;show#[o,e,u.2.1]
 | _=>show False.elim q
def Kx(K:lY)(T:String)(r:V->lS V->Hp->VK->Prop)(to:TE)(t:TA):TE:=λz H Q=>to z H λx y=>Hy K T x y/\t z y λw u=>r x w u Q
variable {o e:me} {es:lS me} {to:TE} {t:TA} {name:lT} {p0 g9:Pos} {T id:String} {r:V->lS V->Hp->VK->Prop}
def AD(j:PlainAttrs T)(slot:Slot T name id)(u:typeOf (.builtin id)=pure (.type "method_descriptor"))(i:zK X id r)(g:PE X o to)(d:PA X (e ::es) t)
  (c:attributeBase o name X.env (eval o X.env)=eval o X.env:=by rfl)
  (w:((backTo g9<|starEach (e ::es) X.env).all (λx=>!x.1) && (backToKw g9<|keywordEach [] X.env).all (λx=>x.1.isSome)
   && decide ((e ::es).length+([]:lS Keyword).length+(if([]:lS Keyword).isEmpty then 0 else 1)<30))=true:=by rfl)
  (Y:(p0.endLine ==g9.line)=true:=by rfl) (U:starEach (e ::es) X.env=(false,eval e X.env) ::starEach es X.env:=by rfl) (y:(backTo g9<|starEach es X.env).any (·.1)=false:=by rfl) :
  PE X (.Call (.Attribute o name p0) (e ::es) [] g9) (Kx X.K T r to t):=by
 intro q s z H Q I h;refine wpAny_Call_method_late c w Y rfl<|ng (g q s z H _ I h) λv N M=>?_;obtain⟨x,L,p,n,J,G⟩:=M;obtain⟨E,D⟩:=LN p n J;refine#[T,id,j,slot,u,E,D,?_];have l:=d g9 q N z L _ p G;rw[U]at l ⊢;refine vO (by change(false || (backTo g9<|starEach es X.env).any (·.1))=false;rw[y]<;>rfl)<|zF ?_;show ng l λC B ⟨A,H2,I2,r2,q2⟩=>i q B z H2 x A v C Q I2 n r2 q2
/- xs.append(e),list.index on a module's tuple .. are zK facts of 06m -/
end
def BX(X:Cx)(id:String)(r:V->lS V->Hp->VK->Prop):Prop :=
 ∀(y:lS (lU×Obj)) (s:lW) (z:St) (H:Hp) (x:V) (w:lS V) (v:lV) (u:lS lV) (Q:VK),mK X y z H s->Yd x v->Z8 w u->r x w H Q->
  wpAny (model X.prog X.w) X.A (call (.builtin id)<|v ::u) (EP X y z Q) X.xe s
def Z8.one{x:V}{us:lS lV}(h:Z8 [x] us):∃u,us=[u]/\Yd x u:=by
 cases h with
 | cons r t=>cases t;show#[_,rfl,r]
theorem Z8.eraseIdx:∀{xs:lS V}{us:lS lV}(i:Nat),Z8 xs us->Z8 (xs.eraseIdx i) (us.eraseIdx i)
 | _,_,_,.nil=>.nil
 | _,_,0,.cons _ t=>t
 | _,_,i+1,.cons r t=>.cons r<|Z8.eraseIdx i t
theorem Mt{z:Type}:∀(l:lS z)(i:Nat),(l.eraseIdx i).length<=l.length
 | [],_=>nH _
 | _ ::_,0=>sQ _
 | _ ::r,i+1=>CW<|Mt r i
variable {X:Cx}
def mK.lset{y its':lS lV}{n:Nat}{f:Array lV->Array lV}{t':Nat}(I:mK X r z H s)(p:H l=some (.lst xs))
  (e:s.heap.get? l=some {cls:=.type "list",data:=.seq y.toArray n}) (o:f y.toArray=its'.toArray) (j:Z8 w its') (i:w.length<=sizeLine) :
  mK X r z (mM H l<|.lst w) {s with heap:=s.heap.update l<|Obj.mapSeq f,toks:=t'}:=by
 have q:=PySem.IsL.update e f;rw[o]at q;refine I.write (x:=l) (e:=l) (by rw[p];show trivial) (.inl rfl) (λd u h g=>(tW s.heap (Obj.mapSeq f)<|oY h).trans g) #[_,q] ?_;show#[i,its',_,j,q]
def mK.lnew(I:mK X w z H s)(u:Z8 y x)(r:y.length<=sizeLine) :
  mK X w z (mM H #v[s] (.lst y)) {s with heap:=s.heap.push {cls:=.type "list",data:=.seq x.toArray},toks:=t'} :=
 I.laid (λ_ _ q=>nS _ q) (nH _) #[r,x,0,u,oG _ rfl]
def mK.fresh(I:mK X y z H s):H #v[s]=none:=I.hok.fresh<|nH _
def mK.lstM(I:mK X u z H s)(w:H l=some (.lst xs)):xs.length<=sizeLine/\∃(x:lS lV)(n:Nat),Z8 xs x/\xs.length=x.length/\s.heap.get? l=some {cls:=.type "list",data:=.seq x.toArray n}:=by
 obtain⟨y,x,n,r,e⟩:=I.hok l _ w;show#[y,x,n,r,r.length,e]
def QR(h:n<=sizeLine):Builtin.List.listTooLong n=false:=by
 unfold Builtin.List.listTooLong;show ow (by lia)
inductive Ki(H:Hp)(Q:VK):V->List V->Prop
 | mk {l xs y}:H l=some (.lst xs)->xs.length<sizeLine->Q .non (mM H l<|.lst<|xs++[y])->Ki H Q (.ref l) [y]
def Ll:V->lS V->Hp->VK->Prop:=λx z H Q=>Ki H Q x z
def FT:BX X "list.append" Ll:=by
 intro g s z H x d v c Q I o j h;obtain@⟨l,a,y,w,Y,q⟩:=h;cases o;obtain⟨u,rfl,i⟩:=j.one;obtain⟨y,p,n,r,a,e⟩:=I.lstM w;refine yj PR #[_,e,rfl] F.entry_list_append (F.args_list_append_2 _ _) (PySem.list_append l p.toArray n u<|by rw[oz];lia) #[e,?_];refine#[.non,_,I.lset (its':=p++[u]) w e (by simp) (r.append<|.cons i .nil) ?_,rfl,q];rw[oj,DD];lia
def TC:V->lS V->Hp->VK->Prop:=λx w H Q=>∃l b z y,x=.ref l/\w=[.ref b]/\H l=some (.lst z)/\H b=some (.lst y)/\z.length+y.length<=sizeLine/\Q .non (mM H l<|.lst<|z++y)
def Ygf:BX X "list.extend" TC:=by
 intro M s z H x L v J Q I g d h;obtain⟨l,b,y,u,rfl,rfl,i,c,G,q⟩:=h;cases g;obtain⟨u,rfl,a⟩:=d.one;cases a;obtain⟨y,p,n,r,u,e⟩:=I.lstM i;obtain⟨y,o,Y,U,u,N⟩:=I.lstM c;have j:p.toArray.size+o.toArray.size<=sizeLine:=by rw[oz,oz];lia
 have w:¬(!p.toArray.isEmpty && Builtin.List.listTooLong (p.toArray.size+o.toArray.size))=true:=by
  rw[QR j,Bool.and_false];show oW
 refine yj F.slot_list_extend #[_,e,rfl] F.entry_list_extend (F.args_list_extend_2 _ _)
  (AutoSeq1.list_extend_list_list_0 l p.toArray n b o.toArray Y w (by rw[oz];lia)<|by lia) #[e,N,?_]
 refine#[.non,_,I.lset (its':=p++o) i e (by simp) (r.append U) ?_,rfl,q];rw[oj];lia
def Sb:V->lS V->Hp->VK->Prop:=λx w H Q=>∃l z i k y,x=.ref l/\w=[.int i]/\H l=some (.lst z)/\-(2 ^ 63)<=i/\i<2 ^ 63/\seqIndex? i z.length=some k/\z[k]? =some y/\Q y (mM H l<|.lst<|z.eraseIdx k)
def Pi:BX X "list.pop" Sb:=by
 intro E s z H x D v C Q I g d h;obtain⟨l,c,i,k,y,rfl,rfl,j,a,Y,U,N,q⟩:=h;cases g;obtain⟨u,rfl,M⟩:=d.one;obtain⟨t,rfl⟩:=M;obtain⟨w,o,n,r,L,e⟩:=I.lstM j;obtain⟨p,J,G⟩:=r.get N;refine yj AO #[_,e,rfl] F.entry_list_pop (F.args_list_pop_2 _ _)
  (MeetsSeq.list_pop_at l o.toArray n i t k p (fitsIndex_both a Y) (by rw[oz,<-L];show U) (by rw[<-wj];show J)<|by rw[oz];lia) #[e,?_]
 refine#[y,_,I.lset (its':=o.eraseIdx k) j e ?_ (r.eraseIdx k) ?_,G,q]
 ·change o.toArray.eraseIdxIfInBounds k=(o.eraseIdx k).toArray;rw[Mq]
 ·have:=Mt c k;lia
def RK:R2:=λx y H Q=>∃l b z w,x=.ref l/\y=.ref b/\H l=some (.lst z)/\H b=some (.lst w)/\z.length+w.length<=sizeLine/\∀p,H p=none->Q (.ref p) (mM H p<|.lst<|z++w)
def Ye7:og X (binaryOp .Add) RK:=by
 intro U s z H x y v u Q I j i h;obtain⟨l,b,w,n,rfl,rfl,g,d,N,q⟩:=h;cases j;cases i;obtain⟨w,p,n,r,l,e⟩:=I.lstM g;obtain⟨w,o,n,c,l,a⟩:=I.lstM d;refine PySem.P.add_list e a ?_ (by rw[oz,oz];lia);have Y:p.toArray++o.toArray=(p++o).toArray:=by simp
 rw[Y];show#[.ref _,_,I.lnew (t':=s.toks) (r.append c) (by rw[oj];lia),rfl,q _ I.fresh]
section
variable {κ:Type} [DecidableEq κ]
def Y7(kvs:lS (κ×V))(k:κ):lX V:=(kvs.find? λkv=>decide<|kv.1=k).map (·.2)
def Wk(kvs:lS (κ×V))(k:κ)(v:V):lS (κ×V) :=
 if(kvs.any λkv=>decide<|kv.1=k)=true then kvs.map (λkv=>if kv.1=k then(kv.1,v)else kv)else kvs++[(k,v)]
def wv(kvs:lS (κ×V))(k:κ):lS (κ×V):=kvs.filter λkv=>decide<|kv.1≠k
def yV{p:κ×V}{r:lS (κ×V)}{k:κ}(e:p.1=k):Y7 (p ::r) k=some p.2:=by simp[Y7,yw,e]
def vU{p:κ×V}{r:lS (κ×V)}{k:κ}(e:¬p.1=k):Y7 (p ::r) k=Y7 r k:=by simp[Y7,yw,e]
theorem Bi(k:κ):∀kvs:lS (κ×V),(kvs.any λkv=>decide<|kv.1=k)=(Y7 kvs k).isSome
 | []=>rfl
 | p ::r=>by
  rw[xF]
  by_cases e:p.1=k
  ·simp only[yV e,nZ e,Bool.true_or,Option.isSome_some]
  ·rw[vU e,ow e,Ht];show Bi k r
def Cy(kvs:lS (κ×V))(k:κ)(v:V):(Wk kvs k v).length<=kvs.length+1:=by
 unfold Wk;split
 ·rw[mO];lia
 ·rw[oj,pi,EJ];lia
def JC{kvs:lS (κ×V)}{k:κ}(v:V)(h:Y7 kvs k=none):Wk kvs k v=kvs++[(k,v)]:=by
 unfold Wk;rw[Bi,h];show mV (by lk)
def pS.isSome_eq(r:pS o u):o.isSome=u.isSome:=by
 cases o with
 | none=>cases u with
  | none=>rfl
  | some _=>show(show False from r).elim
 | some _=>cases u with
  | none=>show(show False from r).elim
  | some _=>rfl
def pS.getD(r:pS o u)(rd:Yd d d'):Yd (o.getD d) (u.getD d'):=by
 cases o with
 | none=>cases u with
  | none=>show rd
  | some _=>show(show False from r).elim
 | some _=>cases u with
  | none=>show(show False from r).elim
  | some _=>show r
def KV.val{kvs:lS (κ×V)}{vs:lS (κ×lV)}(r:KV kvs vs)(k:κ):pS (Y7 kvs k) (valueAt vs k):=by
 unfold KV at r
 induction r with
 | nil=>show qV
 | @cons p q o y h t u =>
  obtain⟨w,s⟩:=h
  by_cases e:p.1=k
  ·have x:q.1=k:=w.symm.trans e;have b:valueAt (q ::y) k=some q.2:=by simp[valueAt,yw,x]
   rw[yV e,b];show s
  ·have x:¬q.1=k:=λz=>e<|w.trans z
   have b:valueAt (q ::y) k=valueAt y k:=by simp[valueAt,yw,x]
   rw[vU e,b];show u
def KV.any{kvs:lS (κ×V)}{vs:lS (κ×lV)}(r:KV kvs vs)(k:κ):(kvs.any λkv=>decide<|kv.1=k)=vs.any λkv=>decide (kv.1=k):=by
 unfold KV at r
 induction r with
 | nil=>rfl
 | cons h t z=>rw[xF,xF,z,h.1]
def KV.repl{kvs:lS (κ×V)}{vs:lS (κ×lV)}(r:KV kvs vs)(k:κ)(w:Yd y u) :
  KV (kvs.map λkv=>if kv.1=k then(kv.1,y)else kv) (vs.map λkv=>if kv.1=k then(kv.1,u)else kv):=by
 unfold KV at r ⊢
 induction r with
 | nil=>show .nil
 | @cons p q n l h t s =>
  rw[oh,oh];refine .cons ?_ s;obtain⟨x,o⟩:=h
  by_cases e:p.1=k
  ·rw[mY e,mY<|x.symm.trans e];show#[x,w]
  ·rw[mV e,mV λz=>e<|x.trans z];show#[x,o]
def KV.put{kvs:lS (κ×V)}{vs:lS (κ×lV)}(r:KV kvs vs)(k:κ)(z:Yd y u):KV (Wk kvs k y) (stored vs k u):=by
 unfold Wk stored;rw[r.any k]
 by_cases e:(vs.any λkv=>decide<|kv.1=k)=true
 ·rw[mY e,mY e];show r.repl k z
 ·rw[mV e,mV e];show BP r #[rfl,z]
def KV.drop{kvs:lS (κ×V)}{vs:lS (κ×lV)}(r:KV kvs vs)(k:κ):KV (wv kvs k) (without vs k):=by
 unfold KV at r ⊢;unfold wv without
 induction r with
 | nil=>show .nil
 | @cons p q s o h t x =>
  obtain⟨y,w⟩:=h;rw[rS,rS]
  by_cases e:p.1=k
  ·have a:¬decide (p.1≠k)=true:=by simp[e]
   have b:¬decide (q.1≠k)=true:=by simp[y.symm.trans e]
   rw[mV a,mV b];show x
  ·have u:¬q.1=k:=λz=>e<|y.trans z
   have a:decide (p.1≠k)=true:=by simp[e]
   have b:decide (q.1≠k)=true:=by simp[u]
   rw[mY a,mY b];show .cons #[y,w] x
def KV.length{kvs:lS (κ×V)}{vs:lS (κ×lV)}(r:KV kvs vs):kvs.length=vs.length:=nJ r
def Lv(kvs:lS (κ×V))(k:κ):(wv kvs k).length<=kvs.length:=xx _ _
end
def uG(r:Yd (kV k) u):(Zy P w).is k u=true:=by
 cases k with
 | inl i=>obtain⟨t,e⟩:=(show ∃t,u=Value.int i t from r);subst e;show RC P w i t
 | inr x=>obtain⟨t,e⟩:=(show ∃t,u=Value.str x t from r);subst e;show Tq P w x t
theorem Hu :∀{z:lS nj}{us:lS lV},Z8 (z.map kV) us->ItemsAre (Zy P w) z us
 | [],_,r=>by rw[uB]at r;cases r;show .nil
 | k ::z,_,r=>by
  rw[oh]at r;cases r with
  | cons h t=>show .cons (uG h)<|Hu t
abbrev KT(H:Hp):lS (lS nj×V)->lS (lS nj×lU×lV)->Prop:=Paired λp q=>p.1=q.1/\H q.2.1=some (.tup<|p.1.map kV)/\Yd p.2 q.2.2
def KT.val(r:KT H kvs xs)(k:lS nj):pS (Y7 kvs k) ((atKey xs k).map (·.2)):=by
 induction r with
 | nil=>show qV
 | @cons p q o y h t u =>
  obtain⟨w,_,s⟩:=h
  by_cases e:p.1=k
  ·have x:q.1=k:=w.symm.trans e;have b:atKey (q ::y) k=some q.2:=by simp[atKey,yw,x]
   rw[yV e,b];show s
  ·have x:¬q.1=k:=λz=>e<|w.trans z
   have b:atKey (q ::y) k=atKey y k:=by simp[atKey,yw,x]
   rw[vU e,b];show u
def KT.repl(r:KT H kvs xs)(k:lS nj)(s:Yd y u) :
  KT H (kvs.map λkv=>if kv.1=k then(kv.1,y)else kv) (xs.map<|putAt k u):=by
 induction r with
 | nil=>show .nil
 | @cons p q l j h t o =>
  rw[oh,oh];refine .cons ?_ o;obtain⟨x,w,n⟩:=h;unfold putAt
  by_cases e:p.1=k
  ·rw[mY e,mY<|x.symm.trans e];show#[x,w,s]
  ·rw[mV e,mV λz=>e<|x.trans z];show#[x,w,n]
def KT.put(r:KT H kvs xs)(k:lS nj)(x:H b=some (.tup<|k.map kV))(z:Yd y u) :
  KT H (Wk kvs k y) (storedH xs k b u):=by
 have e:(kvs.any λkv=>decide<|kv.1=k)=(atKey xs k).isSome:=by
  rw[Bi,(r.val k).isSome_eq,Ih]
 unfold Wk storedH;rw[e]
 by_cases q:(atKey xs k).isSome=true
 ·rw[mY q,mY q];show r.repl k z
 ·rw[mV q,mV q];show BP r #[rfl,x,z]
def KT.keeps(r:KT H kvs xs)(x:∀b y,H b=some (.tup y)->w b=some (.tup y)):KT w kvs xs :=
 Paired.mapP r λ_ _ z=>#[z.1,x _ _ z.2.1,z.2.2]
section
def Oo(ok:ol P w H h)(e:Rd H a u):Yb P w H h a u:=e.ok ok
def qC(ok:ol P w H h)(e:Rd H a (.dK kvs)):kvs.length<=sizeLine/\(a ==sysModules)=false/\∃vs,KV kvs vs/\h.DictOf (Zy P w) a vs :=
 show Yb P w H h a (.dK kvs)from Oo ok e
def wP(ok:ol P w H h)(e:H a=some (.dK kvs)):kvs.length<=sizeLine/\(a ==sysModules)=false/\∃vs,KV kvs vs/\h.DictOf (Zy P w) a vs:=qC ok<|.inl e
def yh(ok:ol P w H h)(e:H a=some (.tup<|z.map kV)):(tupleKind<|Zy P w).is h z a:=by
 obtain⟨_,y,r,o,x,u,n,s⟩:=(show Yb P w H h a (.tup<|z.map kV)from ok a _ e)
 show#[o,y.toArray,n,x,u,s,by simpa using Hu r]
def xG(ok:ol P w H h)(e:Rd H a (.dT kvs)):kvs.length<=sizeLine/\(a ==sysModules)=false/\
  ∃xs,KT H kvs xs/\h.DictOfH (tupleKind<|Zy P w) a xs:=by
 obtain⟨z,y,xs,r,o,n,j,i,g,d,c,Y⟩:=(show Yb P w H h a (.dT kvs)from Oo ok e)
 refine#[z,y,xs,r,o,n,j,i,g,d,c,λx u=>?_,Y];have all:∀{l:lS (lS nj×V)}{m:lS (lS nj×lU×lV)},KT H l m->∀x∈m,(tupleKind<|Zy P w).is h x.1 x.2.1:=by
  intro l m q
  induction q with
  | nil=>intro x u;show nomatch u
  | @cons p q Q N s t U =>
   intro x u;rcases nV.mp u with e|u
   ·subst e;show yh ok (by rw[<-s.1];show s.2.1)
   ·show U x u
 show all r x u
def IU(ok:ol P w H h)(e:H a=some (.dT kvs)):kvs.length<=sizeLine/\(a ==sysModules)=false/\
  ∃xs,KT H kvs xs/\h.DictOfH (tupleKind<|Zy P w) a xs:=xG ok<|.inl e
end
def X0(H:Hp)(a:lU)(y:V)(r:lX V):Prop :=
 (∃z k,Rd H a (.dK z)/\y=kV k/\r=Y7 z k)\/∃z k b,Rd H a (.dT z)/\y=.ref b/\H b=some (.tup<|k.map kV)/\r=Y7 z k
def qR(H:Hp)(a:lU)(y v:V)(x:Hp):Prop :=
 (∃z k,H a=some (.dK z)/\y=kV k/\z.length<sizeLine/\x=mM H a (.dK<|Wk z k v))\/
 ∃z k b,H a=some (.dT z)/\y=.ref b/\H b=some (.tup<|k.map kV)/\z.length<sizeLine/\x=mM H a (.dT<|Wk z k v)
def X0.k{H:Hp}{a:lU}{kvs:lS (nj×V)}{k:nj}(e:H a=some (.dK kvs)):X0 H a (kV k) (Y7 kvs k):=.inl #[kvs,k,.inl e,rfl,rfl]
def X0.t{H:Hp}{a b:lU}{kvs:lS (lS nj×V)}{k:lS nj}(e:H a=some (.dT kvs))(z:H b=some (.tup<|k.map kV)):X0 H a (.ref b) (Y7 kvs k):=.inr #[kvs,k,b,.inl e,rfl,z,rfl]
def qR.k{H:Hp}{a:lU}{kvs:lS (nj×V)}{k:nj}{v:V}(e:H a=some (.dK kvs))(z:kvs.length<sizeLine):qR H a (kV k) v (mM H a<|.dK<|Wk kvs k v):=.inl #[kvs,k,e,rfl,z,rfl]
def qR.t{H:Hp}{a b:lU}{kvs:lS (lS nj×V)}{k:lS nj}{v:V}(e:H a=some (.dT kvs))(z:H b=some (.tup<|k.map kV))(y:kvs.length<sizeLine) :
  qR H a (.ref b) v (mM H a<|.dT<|Wk kvs k v):=.inr #[kvs,k,b,e,rfl,z,y,rfl]
section
variable {E:lV->lW->Prop}
def mK.big(I:mK X y z H s):sysModules<#v[s]:=by
 have h:mainGlobals<#v[s]:=(I.mod.glob.keeps I.bk).lt;show rj (by lk) h
def Vz{Q:lV->lW->Prop}(Y:A.units+1<cLine)(I:mK X U z H s)(g:X0 H a y (some v))(c:Yd y u)(h:∀w s',mK X U z H s'->Yd v w->Q w s') :
  wpAny (model X.prog X.w) A (getItem (.ref a) u) Q E s:=by
 rcases g with⟨r,k,e,q,l⟩|⟨r,k,b,e,q,N,l⟩
 ·subst q;obtain⟨x,hd,p,n,j⟩:=qC I.hok e;obtain⟨w,i,d⟩:=pS.some_of (v:=v) (o:=valueAt p k) (by rw[l];show n.val k);show wpAny_getItem_of (uG c) j.mapOf i<|h w _ (I.tok _) d
 ·subst q;cases(show u=Value.ref b from c);obtain⟨x,hd,M,n,j⟩:=xG I.hok e;obtain⟨w,i,d⟩:=pS.some_of (v:=v) (o:=(atKey M k).map (·.2)) (by rw[l];show n.val k);obtain⟨p,L,J⟩:=nW.mp i;refine wpAny_getItem_heap (yp Y) (yh I.hok N) j L ?_;rw[J];show h w _ (I.tok _) d
def QT{Q:lV->lW->Prop}(i:A.units+1<cLine)(I:mK X d z H s)(g:X0 H a y o)(j:Yd y u)(h:∀s',mK X d z H s'->Q (.bool o.isSome) s') :
  wpAny (model X.prog X.w) A (compareOp .In u<|.ref a) Q E s:=by
 rcases g with⟨w,k,e,r,l⟩|⟨w,k,b,e,r,c,l⟩
 ·subst r;obtain⟨x,hd,q,p,n⟩:=qC I.hok e;refine wpAny_in_of (uG j) hd n.mapOf ?_;rw[<-(p.val k).isSome_eq,<-l];show h _<|I.tok _
 ·subst r;cases(show u=Value.ref b from j);obtain⟨x,hd,Y,p,n⟩:=xG I.hok e;refine wpAny_in_heap (yp i) (yh I.hok c) hd n ?_;have q:=(p.val k).isSome_eq;rw[Ih]at q;rw[<-q,<-l];show h _<|I.tok _
def RH{Q:lV->lW->Prop}(i:A.units+1<cLine)(I:mK X d z H s)(g:X0 H a y o)(j:Yd y u)(h:∀s',mK X d z H s'->Q (.bool (!o.isSome)) s') :
  wpAny (model X.prog X.w) A (compareOp .NotIn u<|.ref a) Q E s:=by
 rcases g with⟨w,k,e,r,l⟩|⟨w,k,b,e,r,c,l⟩
 ·subst r;obtain⟨x,hd,q,p,n⟩:=qC I.hok e;refine wpAny_notIn_of (uG j) hd n.mapOf ?_;rw[<-(p.val k).isSome_eq,<-l];show h _<|I.tok _
 ·subst r;cases(show u=Value.ref b from j);obtain⟨x,hd,Y,p,n⟩:=xG I.hok e;refine wpAny_notIn_heap (yp i) (yh I.hok c) hd n ?_;have q:=(p.val k).isSome_eq;rw[Ih]at q;rw[<-q,<-l];show h _<|I.tok _
def Ds(I:mK X u z H s)(r:zx (H a))(p:Heap.SameBut a s.heap h')(he:∃q,h'.get? a=some q)(new:Yb X.prog X.w (mM H a w) h' a w) :
  mK X u z (mM H a w) {s with heap:=h',toks:=t'} :=
 I.write (x:=a) (e:=a) r (.inl rfl) (λb q o y=>(p.2 b o).trans y) he new
def yb(z:kvs.length<=sizeLine)(hd:(a ==sysModules)=false)(y:KV kvs vs)(dd:h'.DictOf (Zy P w) a vs) :
  Yb P w x h' a (.dK kvs):=#[z,hd,vs,y,dd]
def Zxk{Q:Unit->lW->Prop}(C:A.units+1<cLine)(I:mK X B z H s)(g:qR H a y v H')(M:Yd y u)(L:Yd v r)(h:∀s',mK X B z H' s'->Q () s') :
  wpAny (model X.prog X.w) A (setItem (.ref a) u r) Q E s:=by
 rcases g with⟨w,k,e,j,l,i⟩|⟨w,k,b,e,j,J,l,i⟩
 ·subst j i;obtain⟨x,hd,c,p,d⟩:=wP I.hok e;have Y:c.length<=sizeLine:=by rw[<-p.length];show x
  have U:(Wk w k v).length<=sizeLine:=by have:=Cy w k v;lia
  refine wpAny_setItem_pairs (hsz:=Y) (uG M) d λG o N=>h _ ?_
  have he:∃q,G.get? a=some q:=let⟨q,_,_,n,_⟩:=o;#[q,n];show Ds I (by rw[e];show qV) N he<|yb U hd (p.put k L) o
 ·subst j i;cases(show u=Value.ref b from M);obtain⟨x,hd,xs,p,d⟩:=IU I.hok e;have Y:xs.length<=sizeLine:=by rw[<-nJ p];show x
  have U:(Wk w k v).length<=sizeLine:=by have:=Cy w k v;lia
  refine wpAny_setItem_heap (hsz:=Y) (yp C) (yh I.hok J) d λG o N=>h _ ?_
  obtain⟨q,es,ep,n,h2,h3,h4,_,h5⟩:=o;refine Ds I (by rw[e];show qV) N #[q,n] #[U,hd,_,(p.put k J L).keeps λc ys D=>?_,q,es,ep,n,h2,h3,h4,h5];rw[Zd (Ks D e (λx=>nomatch x))];show D
def Yge{Q:Unit->lW->Prop}(I:mK X p z H s)(e:H a=some (.dK kvs))(o:Yd (kV k) u)(l:(Y7 kvs k).isSome=true)(h:∀s',mK X p z (mM H a<|.dK<|wv kvs k) s'->Q () s') :
  wpAny (model X.prog X.w) A (delItem (.ref a) u) Q E s:=by
 obtain⟨y,hd,n,x,w⟩:=wP I.hok e;refine wpAny_delItem_slot w.typeIs (by lk) Jo
  (vC Jo w.typeIs PySem.F.entry_dict_delitem (PySem.F.args_dict_delitem_2 _ _) (meets_dict_delitem_pairs (Zy X.prog X.w) a<|uG o) #[n,w,by rw[<-x.length];show y,by rw[<-(x.val k).isSome_eq];show l,λj r i=>h _ ?_])
 have he:∃q,j.get? a=some q:=let⟨q,_,_,g,_⟩:=r;#[q,g];show Ds I (by rw[e];show qV) i he<|yb (oo (Lv kvs k) y) hd (x.drop k) r
def Ygh{Q:lV->lW->Prop}(I:mK X c z H s)(e:H a=some (.dK kvs))(r:Yd (kV k) u)(l:Y7 kvs k=some v)(n:more=[]\/∃x,more=[x])
  (h:∀w s',mK X c z (mM H a<|.dK<|wv kvs k) s'->Yd v w->Q w s'):wpAny (model X.prog X.w) A (call (.builtin "dict.pop")<|.ref a ::u ::more) Q E s:=by
 obtain⟨y,hd,j,p,g⟩:=wP I.hok e;obtain⟨w,Y,U⟩:=pS.some_of (v:=v) (o:=valueAt j k) (by rw[<-l];show p.val k);have N:(keyPart u).isSome=true:=by
  cases k with
  | inl i=>obtain⟨t,q⟩:=(show ∃t,u=Value.int i t from r);subst q;rfl
  | inr x=>obtain⟨t,q⟩:=(show ∃t,u=Value.str x t from r);subst q;rfl
 have M:argsOk "dict.pop" #[.ref a ::u ::more,[]]:=by
  rcases n with q|⟨x,q⟩
  ·subst q;show PySem.F.args_dict_pop_2 _ _
  ·subst q;show PySem.F.args_dict_pop_3 _ _ _
 refine vC MF g.typeIs PySem.F.entry_dict_pop M (meets_dict_pop_there (Zy X.prog X.w) a (uG r) more n N)
  #[j,w,g,by rw[<-p.length];show y,Y,λL d J=>h w _ ?_ U]
 have he:∃q,L.get? a=some q:=let⟨q,_,_,G,_⟩:=d;#[q,G];show Ds I (by rw[e];show qV) J he<|yb (oo (Lv kvs k) y) hd (p.drop k) d
def VP{Q:lV->lW->Prop}(I:mK X w z H s)(e:Rd H a (.dK kvs))(h:∀t s',mK X w z H s'->Q (.int kvs.length t) s'):wpAny (model X.prog X.w) A (call (.builtin "len") [.ref a]) Q E s:=by
 obtain⟨y,hd,r,x,u⟩:=qC I.hok e;refine call_len_dict hd u (by rw[<-x.length];rw[sO]at y;lia) ?_;rw[<-x.length];show h _ _<|I.tok _
end
def Ju(i:me):Prop:=∀z y,subscripted i false z y=operate [z,y] (getItem z y)
def Ycs{prog:mh}{w:md}{A:mi}{E:lV->lW->Prop}{s:lW}{env:Env}{value slice:me}{pos:Pos}{T id:String}{Q:lV->lW->Prop}
  (l:typeLookup (.type T) "__getitem__"=pure (some<|.builtin id)) (j:Ju slice)
  (h:wpAny (model prog w) A (eval value env) (λo q=>wpAny (model prog w) A (eval slice env) (λi y=>y.TypeIs o T/\wpAny (model prog w) A (getItem o i) Q E y) E q) E s) :
  wpAny (model prog w) A (eval (.Subscript value slice pos) env) Q E s:=by
 refine Subscript_<|pT h (λo q z=>pT z (λi y u=>?_) λ_ _ x=>x) λ_ _ x=>x;obtain⟨p,u⟩:=u;unfold subscriptTail;refine mT ?_;rw[getitemInPython_of_ne p.not_modules];refine mT<|wpAny_specialOf p l ?_;have fin:wpAny (model prog w) A (subscripted slice false o i) (λr n=>wpAny (model prog w) A (letTemporaryGo value o r >>=λ_=>pure r) Q E n) E y:=by
  rw[j o i];show wpAny_operating<|pT u (λr n z=>mT<|wpAny_letTemporaryGo<|nI z) λ_ _ x=>x
 first
  | show nI (mT fin)
  | show mT (nI<|mT fin)
  | show mT fin
def Ztg(I:mK X u z H s)(g:X0 H a y o):s.TypeIs (.ref a) "dict":=by
 rcases g with⟨x,k,e,_,_⟩|⟨x,k,b,e,_,_,_⟩
 ·obtain⟨_,_,r,_,w⟩:=qC I.hok e;show w.typeIs
 ·obtain⟨_,_,r,_,w⟩:=xG I.hok e;show w.typeIs
inductive zp(H:Hp)(y:V)(Q:VK):V->Prop
 | mk {a v}:X0 H a y (some v)->Q v H->zp H y Q (.ref a)
def Ygg(w u:TE):TE:=λz H Q=>w z H λx s=>u z s λy r=>zp r y Q x
inductive Kg(H:Hp)(y v:V)(k:Hp->Prop):V->Prop
 | mk {a H4}:qR H a y v H4->k H4->Kg H y v k (.ref a)
def WI(w u s:TE):TS:=λD z H=>s z H λv r=>w z r λx q=>u z q λy p=>Kg p y v (D.nx z) x
def tS(q:X.A.units+1<cLine)(p:PE X o n)(l:PE X i j)(e:Ju i):PE X (.Subscript o i pos) (Ygg n j):=by
 intro w s z H Q I h;refine Ycs PySem.F.slot_dict_getitem.lookup e<|ng (p w s z H _ I h) λu y ⟨x,d,c,Y,U⟩=>ng (l w y z d _ c U) λG E N=>?_;obtain⟨y,M,r,L,@⟨a,v,g,J⟩⟩:=N;obtain rfl:u=Value.ref a:=Y;show#[Ztg r g,Vz q r g L λd c y x=>#[v,M,y,x,J]]
def ua(q:X.A.units+1<cLine)(p:PE X o n)(l:PE X i j)(e:PE X value d)(c:swapsWith value (some<|.Subscript o i Y) pos.line X.env=pure false) :
  PS X (.Assign [.Subscript o i Y] value pos) (WI n j d):=by
 intro w s z H D I h;refine wpAny_Assign_Subscript (ng (e w s z H _ I h) λr y ⟨v,U,Q,N,M⟩=>ng (p w y z U _ Q M) λu L ⟨x,J,G,E,C⟩=>ng (l w L z J _ G C) λiv s3 B=>?_) c;obtain⟨y,x,A,ry,@⟨a,H4,g,q3⟩⟩:=B;obtain rfl:u=Value.ref a:=E;show Zxk q A g ry N λs4 I4=>#[z,H4,I4,q3]
def Yau(h:ma)(z:sysModules<h.objs.size):Yb P w H (h.push {cls:=.type "dict",data:=.dict #[]}) h.objs.size (.dK []) :=
 #[pJ _,su.mpr<|oY<|nU z,[],.nil,Heap.DictOf.new h]
def ZJ(h:ma)(z:sysModules<h.objs.size):Yb P w H (h.push {cls:=.type "dict",data:=.dict #[]}) h.objs.size (.dT []) :=
 #[pJ _,su.mpr<|oY<|nU z,[],.nil,_,#[],0,oG _ rfl,#[rfl,rfl,rfl],rfl,rfl,tX]
def UE:TE:=λ_ H Q=>∀p,H p=none->Q (.ref p) (mM H p<|.dK [])
def YY:TE:=λ_ H Q=>∀p,H p=none->Q (.ref p) (mM H p<|.dT [])
def UG:PE X (.Dict [] [] pos) UE:=λy s z H Q I h =>
 wpAny_Dict_empty #[.ref #v[s],_,I.laid (a:=#v[s]) (o:=.dK []) (t':=s.toks) (λ_ _ q=>nS _ q) (nH _)<|Yau s.heap I.big,rfl,h _<|I.hok.fresh<|nH _]
def YB:PE X (.Dict [] [] pos) YY:=λy s z H Q I h =>
 wpAny_Dict_empty #[.ref #v[s],_,I.laid (a:=#v[s]) (o:=.dT []) (t':=s.toks) (λ_ _ q=>nS _ q) (nH _)<|ZJ s.heap I.big,rfl,h _<|I.hok.fresh<|nH _]
def zh(kvs more:lS (nj×V)):lS (nj×V):=more.foldl (λz kv=>Wk z kv.1 kv.2) kvs
def KV.merge:∀{more:lS (nj×V)}{z:lS (nj×lV)}{kvs:lS (nj×V)}{vs:lS (nj×lV)},KV more z->KV kvs vs->KV (zh kvs more) (merged vs z):=by
 intro more z kvs vs r;unfold KV at r
 induction r generalizing kvs vs with
 | nil=>intro q;show q
 | @cons p q w u h t y =>
  intro x;have e:KV (Wk kvs p.1 p.2) (stored vs q.1 q.2):=by
   have:=x.put p.1 h.2;rw[<-h.1];show this
  show y e
theorem KW:∀(more kvs:lS (nj×V)),(zh kvs more).length<=kvs.length+more.length
 | [],kvs=>by change kvs.length<=kvs.length+0;lia
 | p ::r,kvs=>by
  have z:=KW r<|Wk kvs p.1 p.2;have y:=Cy kvs p.1 p.2;change(zh (Wk kvs p.1 p.2) r).length<=_;rw[pi];lia
structure M1(X:Cx)(o:Expr)(m:Str)(p0:Pos)(e:Expr)(g9:Pos):Prop where
 mG:attributeBase o m X.env (eval o X.env)=eval o X.env
 few:((backTo g9<|starEach [e] X.env).all (λx=>!x.1) && (backToKw g9<|keywordEach [] X.env).all (λx=>x.1.isSome)
  && decide (([e]:List Expr).length+([]:List Keyword).length+(if([]:List Keyword).isEmpty then 0 else 1)<30))=true
 line:(p0.endLine ==g9.line)=true
 trees:backTo g9 (starEach [e] X.env)=[(false,eval e X.env)]
structure M2(X:Cx)(o:Expr)(m:Str)(p0:Pos)(e f:Expr)(g9:Pos):Prop where
 mG:attributeBase o m X.env (eval o X.env)=eval o X.env
 few:((backTo g9<|starEach [e,f] X.env).all (λx=>!x.1) && (backToKw g9<|keywordEach [] X.env).all (λx=>x.1.isSome)
  && decide (([e,f]:List Expr).length+([]:List Keyword).length+(if([]:List Keyword).isEmpty then 0 else 1)<30))=true
 line:(p0.endLine ==g9.line)=true
 trees:backTo g9 (starEach [e,f] X.env)=[(false,eval e X.env),(false,eval f X.env)]
def Dg(H:Hp)(a:lU):Prop:=(∃z,Rd H a<|.dK z)\/∃z,Rd H a<|.dT z
def GN(I:mK X p z H s)(d:Dg H a) :
  s.TypeIs (.ref a) "dict"/\(∀b,Value.ref a=.ref b->∃y,s.heap.get? b=some y/\y.dict=none)/\(a ==sysModules)=false:=by
 rcases d with⟨w,e⟩|⟨w,e⟩
 ·obtain⟨_,hd,o,_,x⟩:=qC I.hok e;refine#[x.typeIs,λb q=>?_,hd];cases q;obtain⟨y,_,_,u,r,_⟩:=x;show#[y,u,r.2.1]
 ·obtain⟨_,hd,o,_,x⟩:=xG I.hok e;refine#[x.typeIs,λb q=>?_,hd];cases q;obtain⟨y,_,_,u,r,_⟩:=x;show#[y,u,r.2.1]
section
variable {E:lV->lW->Prop}
def Yfz{Q:lV->lW->Prop}(c:A.units+1<cLine)(I:mK X Y z H s)(g:X0 H a y o)(j:Yd y u)(rd:Yd d r)(h:∀i s',mK X Y z H s'->Yd (o.getD d) i->Q i s') :
  wpAny (model X.prog X.w) A (call (.builtin "dict.get") [.ref a,u,r]) Q E s:=by
 rcases g with⟨q,k,e,p,l⟩|⟨q,k,b,e,p,U,l⟩
 ·subst p;obtain⟨x,hd,N,n,w⟩:=qC I.hok e;refine vC EA w.typeIs Ox (Nm _ _ _) (meets_dict_get_default (Zy X.prog X.w) a (uG j) hd r) #[_,w.mapOf,h _ _ (I.tok _) ?_];rw[l];show(n.val k).getD rd
 ·subst p;cases(show u=Value.ref b from j);obtain⟨x,hd,N,n,w⟩:=xG I.hok e;refine vC EA w.typeIs Ox (Nm _ _ _) (meetsH_dict_get_default (tupleKind<|Zy X.prog X.w) a b hd r) #[yp c,k,N,yh I.hok U,w,h _ _ (I.tok _) ?_];rw[l];show(n.val k).getD rd
end
def UK(r q p:TE):TE:=λz H Q=>r z H λx u=>∃a,x=.ref a/\Dg u a/\q z u λy n=>p z n λw s=>∃o,X0 s a y o/\Q (o.getD w) s
def Vn(r q:TE):TE:=λz H Q=>r z H λx u=>∃a,x=.ref a/\Dg u a/\q z u λy s=>∃w k v,s a=some (.dK w)/\y=kV k/\Y7 w k=some v/\Q v (mM s a<|.dK<|wv w k)
def Bc(q:X.A.units+1<cLine)(p:PE X o n)(he:PE X e l)(j:PE X f i)(m:M2 X o "get" c e f Y):PE X (.Call (.Attribute o "get" c) [e,f] [] Y) (UK n l i):=by
 intro w s z H Q I h;refine Hh m.mG m.few m.line yl EA PySem.F.type_dict_get<|ng (p w s z H _ I h) λu U N=>?_;obtain⟨x,M,r,L,a,J,d,G⟩:=N;subst J;obtain rfl:u=Value.ref a:=L;obtain⟨E,D,_⟩:=GN r d;refine#[E,D,?_];rw[m.trees];refine vO rfl (zF (yL (ng (he w U z M _ r G) λiv x ⟨y,C,B,A,q2⟩ =>
  yL (ng (j w x z C _ B q2) λfv s3 ⟨y,H3,I3,rz,ov,g,q3⟩=>Aw ?_))))
 show Yfz q I3 g A rz λw' s4 I4 B6=>#[_,H3,I4,B6,q3]
def Oe(q:PE X o p)(he:PE X e n)(m:M1 X o "pop" j e i):PE X (.Call (.Attribute o "pop" j) [e] [] i) (Vn p n):=by
 intro w s z H Q I h;refine Hh m.mG m.few m.line yl MF PySem.F.type_dict_pop<|ng (q w s z H _ I h) λu g c=>?_;obtain⟨x,Y,r,U,a,N,d,M⟩:=c;subst N;obtain rfl:u=Value.ref a:=U;obtain⟨L,J,_⟩:=GN r d;refine#[L,J,?_];rw[m.trees];refine vO rfl<|zF<|yL<|ng (he w g z Y _ r M) λiv s2 ⟨y,H2,G,E,x,k,v,D,C,l,B⟩=>Aw ?_;subst C;show Ygh G D E l (.inl rfl) λw' s3 A B6=>#[v,_,A,B6,B]
section
variable {E:lV->lW->Prop}
def VR{Q:lV->lW->Prop}(I:mK X u z H s)(e:Rd H a (.dK kvs))(h:∀p s',H p=none->mK X u z (mM H p<|.dK kvs) s'->Q (.ref p) s'):wpAny (model X.prog X.w) A (call (.type "dict") [.ref a]) Q E s:=by
 obtain⟨y,hd,q,x,r⟩:=qC I.hok e;refine kt_call_dict hd r (by rw[<-x.length];show y) λj n l=>?_
 refine h _ _ (I.hok.fresh<|nH _)<|I.laid (a:=#v[s]) (o:=.dK kvs) (t':=s.toks) (λb q w=>?_) (nH _)<|yb y (su.mpr<|oY<|nU I.big) x n;show(l.2 b<|nU<|nQ w).trans (nS _ w)
end
end L2
namespace Att
open PySem PySem.W PySem.Calls PyProof.Rows
def ZH :∀(ns:lS Int)(vs:lS lV),WellAll P h vs (ns.map WData.int)->IntsAre vs ns:=by
 intro ns
 induction ns with
 | nil =>
  intro vs w;rw[uB]at w;cases w;show .nil
 | cons n ns z =>
  intro vs w;rw[oh]at w;cases w with
  | cons a b =>
   cases a;show .cons _ _<|z _ b
def Tj{l:OpenLaw}{n:Nat}(p:l.most=some n){P:Params}{h:ma}{args:lS WData}{vals:lS lV}
  (z:l.row.toRowW.claim.pre args=true) (w:WellAll P h vals args) :
  ∃a vs ns,vals=[Value.ref a]/\args=[WData.list (ns.map WData.int)]/\h.get? a=some {cls:=.type "list",data:=.seq vs.toArray}/\IntsAre vs ns/\ns.length<=n:=by
 have u:WShape.hasAll [] args [.list .int]=true:=(pre_splitW z).1;have s:l.pre.holds [] {args:=args}=true:=(pre_splitW z).2;obtain⟨d,r,rfl,o,j⟩:=hasAllW_cons u;obtain rfl:=hasAllW_nil j;obtain⟨r,rfl,i⟩:=hasW_list o;obtain⟨ns,rfl⟩:=items_int i;have g:ns.length<=n:=by
  unfold OpenLaw.pre at s;have y:(WTm.not<|.lt (.lit<|.int (n:Int))<|.len<|.arg 0).holds [] {args:=[.list (ns.map .int)]}=true:=by
   have y:=(holds_andW s).1;rw[p]at y;show y
  have x:=condW_of y<|w_not<|w_lt w_lit<|w_len_list<|w_arg rfl;rw[mO]at x;refine Nat.le_of_not_lt λq=>?_
  have e:(n:Int)<((ns.length:Nat):Int):=by lia
  first
   | (rw[nZ e]at x;show absurd x<|by lk)
   | (simp at x;lia)
 cases w with
 | cons r d =>
  cases d;cases r with
  | list c Y=>show#[_,_,ns,rfl,rfl,c,ZH ns _ Y,g]
def RG(l:OpenLaw)(args:lS WData):l.row.toRowW.claim.post args (.bool true) args=true :=
 postW_of (r:=l.row.toRowW) (X:=(true ==true))
  (show WShape.has [] (.bool true) .bool=true by first|rfl|decide|simp[WShape.has,WShape.arms,WShape.armsAll])
  (show(WTm.eq .res<|.lit<|.bool true).value [] {args:=args,res:=some<|.bool true,after:=args}=some (.bool<|true ==true)from w_eq_bool (w_res rfl) w_lit) rfl
def attach_call{l:OpenLaw}{n:Nat}{q:mh}{Q:lS lT}{N:(lT->lX lV)->ma->Prop}{M:md->ma->Prop}{d:DefRec}
  (I:l.most=some n) (j:d.params.defaults=[])
  (call:∀(w:md)(i z:lW)(s h:lT->lX lV)(y:lU)(o:Obj)(g p e:lV)(a:lU)(vs:lS lV)(ns:lS Int),
   Ground q Q [] N w i s h z.heap->M w z.heap->
   z.heap.get? y=some o->o.data=.func (docDef d.name d.params d.body d.scope g p e)->z.heap.CodeRec p d.name->s d.name=some (.ref y)->
   z.heap.get? a=some {cls:=.type "list",data:=.seq vs.toArray}->IntsAre vs ns->ns.length<=n->z.gens=#[]->
   codeAny (model l.prog w) callerA (.call (.ref y) #[[.ref a],[]]) (λr s'=>r=.ok (.ret<|.bool true)/\OldK z.heap s'.heap/\s'.os=z.os/\AllBare s'.gens) z) :
  WalkO q Q N M l.row.toRowW d [] (λf vs=>PySem.call f vs):=by
 intro w i z s h G Y y o g p e H kV E hd D L c C args vals as x J B U A;obtain rfl:H=.none:=Dflts.none L j;obtain rfl:kV=.none:=Dflts.noKw L;obtain⟨a,vs,ns,rfl,rfl,u,V0,g8⟩:=Tj I x U;refine enter_call<|vn (call w i z s h y o g p e a vs ns G Y E (fd_plain hd) D c u V0 g8 C) λr s' hq=>?_;obtain⟨rfl,h2,h3,h4⟩:=hq;show#[.inl #[.bool true,.bool true,[],rfl,λ_=>rfl,.bool true,RG l _,λ_=>#[List.Pairwise.nil,λ_ hm=>(nomatch hm)]],h2,h3,h4]
end Att
namespace L2
open PySem PySem.Spec PyProof.Rows
theorem Lz:∀{vs:lS lV}{ns:lS Int},IntsAre vs ns->Z8 (ns.map V.int) vs
 | _,_,.nil=>.nil
 | _,_,.cons n t h=>.cons #[t,rfl]<|Lz h
end L2
/- THE LAST THEOREM (shape;LID,My.* are yours):
   My.Adr:a structure of the addresses that your layer names (classes,functions);My.Txt K t:a structure (Prop) of the equations over K;
   My.txt_mk:{K} {implicit addresses ..} (e1:nsIn K mainGlobals "law"=some (some<|.ref f)) (e2:K.lookup f=some #[oc,od,.func<|fnOf "law" "law" params body scope dV kV A2 pm an d6 ct,sl]) (e3:codeIn K d6 "law"=true) .. :∃t,My.Txt K t
(the tactic k_is has no namespace:write k_is) -/
namespace L2
open PySem PySem.Spec PyProof.Rows
def Z7(s:lZ)(j:Nat):lZ:=match s with
 | .ClassDef _ _ _ body _ _ _ _ _ _ _=>body.getD j (.Pass #[0,0,0,0])
 | _=>.Pass #[0,0,0,0]
def Wv(s:lZ):Arguments:=match s with
 | .FunctionDef _ a _ _ _ _ _ _ _ _=>a
 | _=>{posonlyargs:=[],args:=[],vararg:=none,kwonlyargs:=[],kw_defaults:=[],kwarg:=none,defaults:=[]}
def Y4(s:lZ):lS lZ:=match s with
 | .FunctionDef _ _ b _ _ _ _ _ _ _=>b
 | _=>[]
def Zk(s:lZ):Scope:=match s with
 | .FunctionDef _ _ _ _ _ _ z _ _ _=>z
 | _=>{kind:=.function,names:=[],isGenerator:=false,isCoroutine:=false}
abbrev oP:vm:=λ_ _ _ _ _ _=>False
abbrev E0:XK:=λ_ _ _=>False
def Z0:sJ oP X E0:=λ_ _ _ _ _ _ _ h=>h.elim
structure qN(K:Frag)(x qual:Str)(st:Stmt)(f:Addr)(fd:FuncData):Prop where
 ex:∃(oc:Value)(od:Option Addr)(kV A2 pm:Value)(an:Option Addr)(d6 ct:Value)(N5:Array (Option Value)),
  fd=fnOf x qual (Wv st) (Y4 st) (Zk st) .none kV A2 pm an d6 ct/\K.lookup f=some #[oc,od,.func fd,N5]/\codeIn K d6 qual=true
 kp:keepIn K (.ref f)=true
section
variable {P:mh} {w:md} {K:lY} {mg:lT->lX lV} {mG:ma}
def qN.ok{x qual:lT}{st:lZ}{f:lU}{fd:mj}{N ps:lS lT}{k:Nat}{y:Sp}(F:qN K x qual st f fd)(S:Zx N ps (Zk st))(len:∀vs H Q E,y vs H Q E->vs.length=ps.length)
  (r:∀(z:lV)(A:mi)(u:lS Env)(s:lW)(H:Hp)(vs:lS V)(Q:VK)(E:XK),Y8 k (A.deeper<|envOfC qual (Zk st) #v[s] f z)->y vs H Q E->
   ∃t,qL (pb oP P w K mg mG N qual (Zk st) f z A u s H E).nox (Y4 st) t/\t {nx:=λ_ p=>Q .non p,rt:=Q} (start N vs) H):Y6 P w K mg mG oP (k+1) f fd ps y:=by
 obtain⟨j,i,kV,g,e,d,z,c,a,rfl,lk,o⟩:=F.ex;refine DE lk o S len λA u s H vs Q E n l=>?_
 obtain⟨t,h,q⟩:=r z A u s H vs Q E n l;show#[t,h.nox,q]
def qN.binds{x qual:lT}{st:lZ}{f:lU}{fd:mj}{ps:lS lT}(F:qN K x qual st f fd)
  (h:∀(kV z y:lV)(u:lX lU)(s r:lV)(us:lS lV),us.length=ps.length->bindArgs (fnOf x qual (Wv st) (Y4 st) (Zk st) .none kV z y u s r) #[us,[]]=pure (ps.zip us)):qr K fd ps []:=by
 obtain⟨q,p,kV,z,y,u,s,r,o,rfl,lk,n⟩:=F.ex;show .all<|h kV z y u s r
def DU{x qual:lT}{st:lZ}{f:lU}{q:lV}{od y:lX lU}{p:Array (lX lV)}{kV u s z r:lV}(l:K.lookup f=some #[q,od,.func<|fnOf x qual (Wv st) (Y4 st) (Zk st) .none kV u s y z r,p])
  (c:codeIn K z qual=true) (k:keepIn K (.ref f)=true):qN K x qual st f (fnOf x qual (Wv st) (Y4 st) (Zk st) .none kV u s y z r):=#[#[q,od,kV,u,s,y,z,r,p,rfl,l,c],k]
end
def Xy(z:Y8 k A):A.units+1<cLine:=EL (Nat.add_le_add_left (by lk:1<=64) _) z.units
def Zp(h:n<=1000):n<sizeLine:=EL h (by lk)
variable {X:Cx}
def pv(i:Nat)(z:X.N[i]? =some x:=by rfl)(y:Dt X.env.scope x:=by first|show yG rfl|show yy (yG rfl)|show yy<|yy rfl)(hd:(x ==("__debug__":lT))=false:=by lk)
  (w:(x ==("__classdict__":lT))=false:=by lk):PE X (.Name x pos) (ro i):=Yft z y hd w
def TH:Xd X (.builtin "len") (λxs H Q=>∃a kvs,xs=[V.ref a]/\H a=some (.dK kvs)/\Q (.int kvs.length) H):=by
 intro p s z H xs o Q I r h;obtain⟨a,kvs,rfl,y,q⟩:=h;obtain⟨u,rfl,x⟩:=Wz r;cases x;show VP I (.inl y) λt n w=>#[.int kvs.length,H,w,#[t,rfl],q]
def Yf{c A B:Prop}[Decidable c](z:c->A)(y:¬c->B):if c then A else B:=by
 by_cases h:c
 ·rw[mY h];show z h
 ·rw[mV h];show y h
def mF(H z:Hp):Prop:=∀b o,H b=some o->z b=some o
def mF.refl(H:Hp):mF H H:=λ_ _ h=>h
def mF.trans(a:mF H z)(b:mF z y):mF H y:=λc o h=>b c o<|a c o h
def mF.free(e:mF H z)(h:z l=Option.none):H l=Option.none:=by
 cases q:H l with
 | none=>rfl
 | some o =>
  rw[e l o q]at h;cases h
def mF.seq{K:lY}{H z:Hp}{a:lU}{xs:lS V}(e:mF H z)(h:SqL K H a xs):SqL K z a xs:=by
 rcases h with(h|⟨o,h⟩)|h
 ·show .inl<|.inl<|e _ _ h
 ·show .inl<|.inr #[o,e _ _ h]
 ·show .inr h
end L2
section
namespace L2
open PySem PySem.Spec PyProof.Rows
section
variable {R:Result->lW->Prop}
def JU(I:Nat->lW->Prop)
  (turn:∀n s,I n s->wpAny (model prog w) A (pyNext it) (λr j=>match r with
   | none=>R (.ok .next) j
   | some v=>wpAny (model prog w) A (letOwnedTupleGo i it v) (λ_ z=>wpAny (model prog w) A (assign i env v) (λ_ e =>
     wpAny (model prog w) A (forIn d true λc r=>if r=true then do let ok <-isTrue c env (eval c env);pure (ForInStep.yield ok)else pure (ForInStep.yield r)) (λok g =>
      if ok=true then wpAny (model prog w) A (eval a env) (λx u =>
       wpAny (model prog w) A (call (.builtin "list.append") [Y,x]) (λ_ q=>∃m,m<n/\I m q) (λ_ _=>False) u) (λ_ _=>False) g
      else ∃m,m<n/\I m g) (λ_ _=>False) e) (λ_ _=>False) z) (λ_ _=>False) j) (λ_ _=>False) s)
  (n:Nat) (h:I n s) :
  codeAny (model prog w) A (.compLoop (.ListComp a [#[i,Q,d,0]] scope pos) 0 it Y env) R s:=by
 refine codeAny_loop rfl I (λn s N=>?_) n h;change wpAny _ A ((compTurn (.ListComp a [#[i,Q,d,0]] scope pos) 0 it Y env).onRaise (λx=>do noteFrame x env;theTreesLotGoes x)) _ _ s;refine wpAny_noted ?_;rw[compTurn_list];refine mT<|zu<|mT<|pT (turn n s N) (λr j p=>?_) λ_ _ y=>y.elim;cases r with
 | none=>show nI p
 | some v =>
  refine mT<|pT p (λ_ z o=>?_) λ_ _ y=>y.elim;refine mT<|pT o (λ_ e l=>mT<|pT l (λok g U=>?_) λ_ _ y=>y.elim) λ_ _ y=>y.elim;cases ok with
  | false=>show nI #[rfl,U]
  | true =>
   show mT<|mT<|pT U (λx u l=>mT<|pT l (λ_ q M=>nI<|nI #[rfl,M]) λ_ _ y=>y.elim) λ_ _ y=>y.elim
end
def Y1(X:Cx)(scope:Scope)(z:lS (lT×lU))(y:lS lT)(s:lW)(H:Hp)(C:lU)(ex:lS lU):Cx where
 prog:=X.prog
 w:=X.w
 K:=X.K
 mg:=X.mg
 mG:=X.mG
 A:=X.A
 N:=y
 ml:=s
 mo:=H
 env:=compEnvC scope z C X.env
 mD:=X.stack
 stack:=X.stack
 ex:=ex
 fn:=λ_=>false
 calm:=X.calm
 pn:=[]
 xe:=λ_ _=>False
structure Wh(X:Cx)(scope:Scope)(cl:List (Str×Addr))(N':List Str)(fr:St->St):Prop where
 kind:scope.kind=.function
 cell:∀y∈scope.names,y.2≠.cell
 names:∀y∈scope.names,y.2=.local->scope.names.lookup y.1=some .local
 clos:closureFor scope X.env=pure cl
 sub:∀x c,cl.lookup x=some c->X.env.cells.lookup x=some c
 has:∀x,((relabel scope X.env).names.lookup x=some .cell\/(relabel scope X.env).names.lookup x=some .free)->∃c,cl.lookup x=some c
 len:∀σ:St,σ.length=X.N.length->(fr σ).length=N'.length
 fr:∀(σ:St)(i:Nat)(x:Str)(v:V),N'[i]? =some x->(fr σ)[i]? =some (some v)->Dt (relabel scope X.env) x->
  ((relabel scope X.env).names.lookup x=some .cell\/(relabel scope X.env).names.lookup x=some .free)/\
  (X.env.kindOf x=some .cell\/X.env.kindOf x=some .free)/\∃j:Nat,X.N[j]? =some x/\σ[j]? =some (some v)
def X3(a b:St):Prop:=∀(i:Nat)(v:V),a[i]? =some (some v)->b[i]? =some (some v)
def X3.set(h:a[i]? =some none):X3 a (a.set i<|some v):=λj u e=>by
 by_cases z:i=j
 ·subst z;rw[h]at e;cases e
 ·rw[FE z];show e
def X3.trans(h:X3 a b)(k:X3 b c):X3 a c:=λi v e=>k i v<|h i v e
def PF(X:Cx)(x:lS me)(t:TT):Prop :=
 ∀(y:lS (lU×Obj)) (s:lW) (z:St) (H:Hp) (Q:Bool->Hp->Prop),mK X y z H s->t z H Q->
  wpAny (model X.prog X.w) X.A (forIn x true λc r=>if r=true then do let ok <-isTrue c X.env (eval c X.env);pure (ForInStep.yield ok)else pure (ForInStep.yield r)) (TP X y z Q) X.xe s
def zQ:TT:=λ_ H Q=>Q true H
def X5:PF X [] zQ:=λ_ _ _ H _ I h=>wpAny_tests_nil #[H,I,h]
def uH(h:PT X c t):PF X [c] t:=λy s z H Q I x=>wpAny_tests_one<|h y s z H Q I x
def rW(J:It)(fr:St->St)(g:TG)(n:TT)(l:TE)(Q:VK)(z:St)(j:Hp)(D:lU):Prop :=
 ∃W:Nat->Nat->lS V->Hp->Prop,(∃m,W 0 m [] (mM j D<|.lst []))/\∀i m u H,W i m u H->
  (J.stop i H/\Q (.ref D) H)\/(J.go i H/\∃N:lS V->Hp->Prop,(∀r s,N r s->∃q,q<m/\W (i+1) q r s)/\
   ∀x s,J.yld i H x s->g x (fr z) s λw h=>X3 (fr z) w/\n w h λb p =>
    if b=true then l w p λy o=>o D=some (.lst u)/\u.length<sizeLine/\N (u++[y]) (mM o D<|.lst<|u++[y])else N u p)
def Br(x:TI)(fr:St->St)(g:TG)(w:TT)(u:TE):TE:=λz H Q=>x z H λJ y=>∀D,y D=none->rW J fr g w u Q z y D
section
variable {X:Cx} {fr:St->St}
def ZQ(I:mK X l z H s)(S:Wh X scope j i fr)(p:#v[s]<=C)(r:∀b∈n,sV X l H b)(g:∀b∈n,∃o,s.heap.get? b=some o):(Y1 X scope j i s H C n).Ok where
 mod:=I.ok.mod
 kind:=S.kind
 glob:=I.ok.glob
 blt:=I.ok.blt
 above:=p
 inj:=λx y c d a=>I.ok.inj x y c (S.sub x c d) (S.sub y c a)
 has:=λx h=>S.has x h
 cab:=λx c h=>absurd (show false=true from h) oW
 hd:=I.ok.hd
 frames:=I.ok.frames
 stk:=.inl rfl
 exf:=λb u=>by
  obtain⟨o,e⟩:=g b u;refine#[nU<|pM (nQ e) p,λx c h=>(r b u).2.2.2.2.1 x c (S.sub x c h)]
 bs:=I.bs
 bsz:=oo I.ok.bsz I.sz
 noex:=λb o e u=>by
  rcases(r b u).2.2.2.1 with w|w
  ·show I.ok.noex b o e w
  ·show absurd (pM (nQ e)<|oo I.ok.bsz w) (qT _)
 exfs:=λb u w=>by
  rcases nV.mp (I.stkSub b w)with q|q
  ·show(r b u).2.1 q
  ·show(r b u).2.2.1 q
 funs:=I.stack
 frf:=I.stkFree
def Km{h:lT->lX lV}(I:mK X L z H s)(S:Wh X scope J G fr)(a:#v[s]<C)(g:D=#v[s])(E:∀b∈U,sV X L H b)(B:∀b∈U,∃o,s.heap.get? b=some o)
  (n:∀b o,s.heap.get? b=some o->w.get? b=some o) (A:w.get? D=some {cls:=.type "list",data:=.seq ([]:lS lV).toArray 0}) (hn:w.Ns C h) (hCz:w.objs.size<=C+1) :
  mK (Y1 X scope J G s H C U) [] (fr z) (mM H D<|.lst []) {s with heap:=w,toks:=tk}:=by
 have fD:H D=none:=I.hok.fresh<|wm g.symm;have fC:H C=none:=I.hok.fresh<|uI a;have Y:D≠C:=by rw[g];show nU a
 refine#[ZQ I S (uI a) E B,rfl,I.bare,Un.laid n (wm g.symm) fD,#[h,hn,λi x v e1 e2 e3=>?_],λx c e=>?_,?_,λx c e=>?_,λp u=>absurd (show p∈([]:lS (lU×Obj))from u) (by simp),?_,S.len z I.len]
 ·obtain⟨p,Q,j,j1,j2⟩:=S.fr z i x v e1 e2 e3;obtain⟨c,N⟩:=S.has x p;have P5:=S.sub x c N;obtain⟨m,_,S7⟩:=I.loc;obtain⟨u,r,l⟩:=S7 j x v j1 j2 (by rcases Q with k|k;show .inr<|.inl k;show .inr<|.inr k);refine#[u,r,.inr #[p,c,N,?_]];rcases l with⟨k,_⟩|⟨_,c2,M,o,y,d⟩
  ·rcases Q with q|q<;>(rw[k]at q;cases q)
  ·rw[P5]at M;cases M;show#[o,n _ _ y,d]
 ·obtain⟨v,o,y,d⟩:=I.cell x c<|S.sub x c e;show#[v,o,n _ _ y,d]
 ·change mM H D (.lst []) C=none;rw[Zd Y.symm];show fC
 ·change mM H D (.lst []) c=none;rw[Zd (λy=>?_)]
  ·show I.freeC x c<|S.sub x c e
  ·obtain⟨v,o,q,d⟩:=I.cell x c<|S.sub x c e;have:=nQ q;rw[y,g]at this;show qT _ this
 ·show I.hok.laid n (wm g.symm) #[pJ _,[],0,.nil,A]
def Pr(I:mK X h z H s)(d:#v[s]<C)(a:∀b∈p,sV X h H b)(J:mK (Y1 X scope D B s H C p) [] (fr z) x s2)(l:Heap.SameBut C s2.heap h') :
  mK X h z x {s2 with heap:=h'}:=by
 have g:x C=none:=J.free;have u:Un (oi X.stack) p H x s.heap s2.heap:=J.mG;have j:∀b o,s.heap.get? b=some o->b≠C:=λb o e=>nU<|rj (nQ e) d
 have Y:Un (oi X.stack) p H x s.heap h':=by
  refine#[λb o e n w r=>?_,λb o e n w r=>?_,u.free,λb o e r=>?_,u.tups,u.frzs,u.tbls]
  ·rw[l.2 b (j b o e)];show u.keep b o e n w r
  ·obtain⟨U,q⟩:=u.slot b o e n w r;show#[U,by rw[l.2 b (j b o e)];show q]
  ·obtain⟨U,q⟩:=u.there b o e r;show#[U,by rw[l.2 b (j b o e)];show q]
 have i:ol X.prog X.w x h':=λb o e=>by
  refine(J.hok b o e).stay (λc v Q q=>?_) (λ_ q=>q) λ_ _ q=>q
  have N:c≠C:=by
   rintro rfl;rcases Q with y|y
   ·rw[<-y,g]at e;cases e
   ·rw[g]at y;cases y
  rw[l.2 c N];show q
 refine I.call' (s':={s2 with heap:=h'}) (ch:=p) J.os Y i J.bare λb w=>?_
 obtain⟨_,M,U,L,G,E⟩:=a b w;show#[L,M,G,E]
end
def Ycr{fr:St->St}
  (hc:X.calm=true) (S:Wh X scope U L fr) (hi:PI X tg u7 wi) (hg:∀s H C ex,PG (Y1 X scope U L s H C ex) tg g) (hf:∀s H C ex,PF (Y1 X scope U L s H C ex) L3 tf)
  (he:∀s H C ex,PE (Y1 X scope U L s H C ex) N6 te) (hs:∀x,foldedSetIterable u7 X.env x=pure x:=by intro _;rfl):PE X (.ListComp N6 [#[tg,u7,L3,0]] scope pos) (Br wi fr g tf te):=by
 intro c7 s z H Q I h;rw[eval_ListComp];refine LC (use:=none) rfl hs S.clos S.kind S.names<|ng (hi c7 s z H _ I h) λv d u=>ng u λr s2 h2=>?_;obtain⟨it,a,tn,J,Y,e,I2,T,d7,f2,q⟩:=h2;subst e;refine vJ<|Dp S.cell (by intro y u;simp at u) (λl P6 E3=>?_) S.kind;dsimp only at P6 E3 ⊢;generalize hP:s2.heap.push {cls:=.type "list",dict:=none,data:=.seq ([]:lS lV).toArray}=P at P6 E3 ⊢;have hPz:P.objs.size=#v[s2]+1:=by rw[<-hP,tN]
 have G:#v[s2]<P.objs.size:=by rw[hPz];show Ay _
 have N7:∀b∈a,∃o,s2.heap.get? b=some o:=λb j=>let⟨o,e,_⟩:=T.obj _ _ d7 b j;#[o,e]
 have N8:∀b,b<#v[s2]->b≠P.objs.size:=λb j=>nU<|rj j G
 have old:∀b o,s2.heap.get? b=some o->l.get? b=some o:=λb o e=>E3.extBut b o (N8 b<|nQ e)<|nS _<|hP ▸ nS _ e
 have D1:l.get? #v[s2]=some {cls:=.type "list",data:=.seq ([]:lS lV).toArray 0}:=E3.extBut _ _ (nU G)<|nS _<|hP ▸ oG _ rfl;have fD:Y #v[s2]=none:=I2.hok.fresh<|nH _;obtain⟨W,⟨m0,w0⟩,turn⟩:=q #v[s2] fD;have hz:l.objs.size<=P.objs.size+1:=by
  have e:=E3.1;rw[tN]at e;show wm e
 have U2:tn 0 l:=T.keep _ _ _ d7 λb j o e=>old b o e
 have E8:∀{y7:lS (lU×Obj)}{M:Hp},(∀p∈y7,p.1∉a)->(∀b∈a,M b=none)->∀b∈a,sV (Y1 X scope U L s2 Y P.objs.size a) y7 M b:=λ{y7 M} hp hn b j=>by
  obtain⟨o,e⟩:=N7 b j;obtain⟨_,f1,f2',u,f4,r⟩:=f2 b j;refine#[hn b j,N8 b<|nQ e,λw=>?_,.inl j,λx c h=>f4 x c<|S.sub x c h,λp E4 w=>?_]
  ·rcases nV.mp (I2.stkSub b w)with q|q
   ·show f1 q
   ·show f2' q
  ·have u:p∈y7:=by simpa[Y1]using E4
   show hp p u (by rw[w];show j)
 have E:∀A:lW,A={s2 with heap:=l,toks:=s2.toks+([]:lS (lT×lV)).length}->
   codeAny (model X.prog X.w) X.A (.compLoop (.ListComp N6 [#[tg,u7,L3,0]] scope pos) 0 (.ref it) (.ref #v[s2])<|compEnvC scope U P.objs.size X.env) (compPost (model X.prog X.w) X.A X.xe none (EP X c7 z Q) (.ref #v[s2]) P.objs.size) A:=by
  rintro A rfl;have I3:mK (Y1 X scope U L s2 Y P.objs.size a) [] (fr z) (mM Y #v[s2] (.lst [])) {s2 with heap:=l,toks:=s2.toks+([]:lS (lT×lV)).length}:=Km I2 S G rfl f2 N7 old D1 P6 hz;refine JU (λn u=>∃i ys M,mK (Y1 X scope U L s2 Y P.objs.size a) [] (fr z) M u/\tn i u.heap/\(∀b∈a,M b=none)/\W i n ys M) ?_ m0 #[0,[],_,I3,U2,λb j=>?_,w0]
  ·rintro n A ⟨i,ys,H3,I3,w5,fr3,w3⟩;rcases turn i n ys H3 w3 with⟨stop,qn⟩|⟨go,N,hN,step⟩
   ·refine ng (T.done (Y1 X scope U L s2 Y P.objs.size a) rfl rfl rfl hc i [] A (fr z) H3 _ I3 (E8 (by simp) fr3) w5 stop) λr s4 ⟨hr,d⟩=>?_
    subst hr;obtain⟨c,u,_⟩:=d.loc;show#[c,u,λD J=>#[.ref #v[s2],H3,Pr I2 G f2 d J,rfl,qn]]
   ·refine ng (T.item (Y1 X scope U L s2 Y P.objs.size a) rfl rfl rfl hc i [] A (fr z) H3 _ I3 (E8 (by simp) fr3) w5 go) λr s4 ⟨u,hr,h4⟩=>?_
    subst hr;refine ng h4 λ_ s5 h9=>?_
    obtain⟨x,H5,I5,r5,y5,z8,fr5⟩:=h9;have I5':=I5.pinned (E8 (by simp) fr5)<|T.obj _ _ z8;refine ng (hg s2 Y P.objs.size a _ s5 (fr z) H5 x u _ I5' r5<|step x H5 y5) λ_ s6 ⟨J,H6,I6,kp,q6⟩=>?_
    refine ng (hf s2 Y P.objs.size a _ s6 J H6 _ I6 q6) λok s7 ⟨H7,I7,q7⟩=>?_
    have C8:∀{D:St}{B:Hp}{s8:lW}{c:lS V},X3 (fr z) D->mK (Y1 X scope U L s2 Y P.objs.size a) ([]++xL a s5.heap) D B s8->N c B->
      ∃m,m<n/\∃i ys M,mK (Y1 X scope U L s2 Y P.objs.size a) [] (fr z) M s8/\tn i s8.heap/\(∀b∈a,M b=none)/\W i m ys M:=λ{D B s8 c} kp8 I8 n8=>by
     obtain⟨m',hm,w8⟩:=hN c B n8;refine#[m',hm,i+1,c,B,(I8.unpinned).weak (by rw[I8.len];show S.len z I2.len) kp8,T.keep _ _ _ z8 λb j o e=>(I8.pin (b,o)<|qm _<|qm _<|yY j e).1,λb j=>?_,w8];obtain⟨o,e,d⟩:=T.obj _ _ z8 b j;show(I8.pin (b,o)<|qm _<|qm _<|yY j e).2.1
    cases ok with
    | false=>show C8 kp I7 q7
    | true =>
     refine ng (he s2 Y P.objs.size a _ s7 J H7 _ I7 q7) λuy s8 h9=>?_
     obtain⟨y,B,I8,r8,d,hz8,q8⟩:=h9;show ng (FT _ s8 J B (.ref #v[s2]) [y] (.ref #v[s2]) [uy] (λ_ H9=>N (ys++[y]) H9) I8 rfl (.cons r8 .nil) #[d,hz8,q8]) λ_ s9 ⟨v9,H9,I9,_,q9⟩=>C8 kp I9 q9
  ·change mM Y #v[s2] (.lst []) b=none;obtain⟨o,e⟩:=N7 b j;rw[Zd (nU<|nQ e)];show(f2 b j).1
 show codeAny_compStart_list (E _ rfl)<|T.self X.A 0 _ _ _ U2<|E _ rfl
section
variable {K:lY} {a:lU} {fr:St->St} {g:TG} {tf:TT} {te:TE} {Q:VK} {σ:St} {H1:Hp} {D:lU}
def qu(fr:St->St)(g:TG)(tf:TT)(te:TE)(σ:St)(D:lU)(x:V)(w:lS V)(H:Hp)(N:lS V->Hp->Prop):Prop :=
 g x (fr σ) H λz r=>X3 (fr σ) z/\tf z r λb u=>if b=true then te z u λy s=>s D=some (.lst w)/\w.length<sizeLine/\N (w++[y]) (mM s D<|.lst<|w++[y])else N w u
def Yy(Pv:Nat->lS V->Hp->Prop)(u:Pv 0 [] (mM H1 D<|.lst []))(s:∀i z H,i<=xs.length->Pv i z H->SqL K H a xs)
  (r:∀i x z H,xs[i]? =some x->Pv i z H->qu fr g tf te σ D x z H (Pv<|i+1)) (hd:∀z H,Pv xs.length z H->Q (.ref D) H):rW (tV K a) fr g tf te Q σ H1 D:=by
 refine#[λi m z H=>m=xs.length-i/\i<=xs.length/\Pv i z H,#[xs.length,by simp,pJ _,u],?_];rintro i m z H ⟨rfl,o,p⟩;have q:=s i z H o p
 by_cases w:i<xs.length
 ·refine .inr #[#[xs,xs[i],q,oE w],Pv<|i+1,λj n l=>#[xs.length-(i+1),sN _ _ w,rfl,w,l],λx n y=>?_];obtain⟨e,y⟩:=y;subst e;show r i x z _ (y xs q) p
 ·have e:i=xs.length:=by lia
  subst e;show .inl #[#[xs,q,nH _],hd z H p]
def Ea(Pv:Nat->lS V->Hp->Prop)(u:Pv 0 [] (mM H1 D<|.lst []))(s:∀i z H,i<=xs.length->Pv i z H->SqT K H a xs)
  (r:∀i x z H,xs[i]? =some x->Pv i z H->qu fr g tf te σ D x z H (Pv<|i+1)) (hd:∀z H,Pv xs.length z H->Q (.ref D) H):rW (xO K a) fr g tf te Q σ H1 D:=by
 refine#[λi m z H=>m=xs.length-i/\i<=xs.length/\Pv i z H,#[xs.length,by simp,pJ _,u],?_];rintro i m z H ⟨rfl,o,p⟩;have q:=s i z H o p
 by_cases w:i<xs.length
 ·refine .inr #[#[xs,xs[i],q,oE w],Pv<|i+1,λj n l=>#[xs.length-(i+1),sN _ _ w,rfl,w,l],λx n y=>?_];obtain⟨e,y⟩:=y;subst e;show r i x z _ (y xs q) p
 ·have e:i=xs.length:=by lia
  subst e;show .inl #[#[xs,q,nH _],hd z H p]
def Iz{lo:Int}{n:Nat}(Pv:Nat->lS V->Hp->Prop)(u:Pv 0 [] (mM H1 D<|.lst []))
  (s:∀i z H,i<n->Pv i z H->qu fr g tf te σ D (.int<|lo+i) z H (Pv<|i+1)) (hd:∀z H,Pv n z H->Q (.ref D) H):rW (vR lo n) fr g tf te Q σ H1 D:=by
 refine#[λi m z H=>m=n-i/\i<=n/\Pv i z H,#[n,by simp,pJ _,u],?_];rintro i m z H ⟨rfl,y,p⟩
 by_cases w:i<n
 ·refine .inr #[w,Pv<|i+1,λo r q=>#[n-(i+1),sN _ _ w,rfl,w,q],λx r y=>?_];obtain⟨e,y⟩:=y;subst e y;show s i z _ w p
 ·have e:i=n:=by lia
  subst e;show .inl #[nH _,hd z H p]
def GS(x:lT):It:=#[λi _=>i<x.cps.size,λi H v z=>z=H/\∃c,x.cps[i]? =some c/\v=.str #[(List.toArray [c])],λi _=>x.cps.size<=i]
def Yap(Pv:Nat->lS V->Hp->Prop)(u:Pv 0 [] (mM H1 D<|.lst []))
  (s:∀i c z H,x.cps[i]? =some c->Pv i z H->qu fr g tf te σ D (.str #[(List.toArray [c])]) z H (Pv<|i+1)) (hd:∀z H,Pv x.cps.size z H->Q (.ref D) H):rW (GS x) fr g tf te Q σ H1 D:=by
 refine#[λi m z H=>m=x.cps.size-i/\i<=x.cps.size/\Pv i z H,#[x.cps.size,by simp,pJ _,u],?_];rintro i m z H ⟨rfl,y,p⟩
 by_cases w:i<x.cps.size
 ·refine .inr #[w,Pv<|i+1,λl r q=>#[x.cps.size-(i+1),sN _ _ w,rfl,w,q],λv r y=>?_];obtain⟨e,c,o,n⟩:=y;subst e n;show s i c z _ o p
 ·have e:i=x.cps.size:=by lia
  subst e;show .inl #[nH _,hd z H p]
end
def RW{P:mh}{w:md}{K:lY}{D:me}(it:lU)(x:lT)(t:Tok):ut P w K D (GS x) [it] it (λi h=>h.IsStrIter it "str_ascii_iterator" x t i) where
 mem:=by simp
 obj:=λi h st b u=>by
  have e:b=it:=by simpa using u
  subst e;obtain⟨o,e,c,d⟩:=st;show#[o,e,λv y=>by rw[d]at y;cases y]
 keep:=λi h q st k=>by
  obtain⟨o,e,r⟩:=st;show#[o,k it (by simp) o e,r]
 item:=by
  intro X n l j M i L s z H E I p st g;subst n l j;obtain⟨a,Y,C,U,Q,N⟩:=p it (by simp);have J:i<x.cps.size:=g;refine wpAny_pyNext_ascii_item st (c:=x.cps[i]) (by simp[J]) λq G B=>?_
  have A:mK X L z H {s with heap:=q,toks:=s.toks+1}:=I.turned (λb o u e=>(B.2 b u).trans e) a Y U Q N;obtain⟨o,e,c,d⟩:=id G;show#[_,rfl,xc (s:={s with heap:=q,toks:=s.toks+1}) e c d (by lk) #[.str #[(List.toArray [x.cps[i]])],H,A,#[_,rfl],#[rfl,_,by simp[J],rfl],G,λb u=>(p b u).1]]
 done:=by
  intro X n l j M i L s z H E I p st g;subst n l j;obtain⟨a,Y,C,U,Q,N⟩:=p it (by simp);have L9:x.cps.size<=i:=g;show wpAny_pyNext_ascii_end (I.ok.hd M) st (by simp[L9]) λq eb=>#[rfl,I.turned (t':=s.toks) (λb o u e=>eb b o u e) a Y U Q N]
 self:=λ_ _ _ _ _ st h=>wpAny_pyIter_striter_ascii st h
def Yis(y:TE):TI:=λz H R=>y z H λv w=>∃x,v=.str x/\x.cps.all (· < 128)=true/\R (GS x) w
def Ygc{X:Cx}{p l:me}{r:TE}(n:PE X l r):PI X p l (Yis r):=by
 intro j s z H R I h;refine ng (n j s z H _ I h) λv w ⟨y,i,u,g,d⟩=>?_
 obtain⟨x,e,c,q⟩:=d;subst e;obtain⟨t,rfl⟩:=g;refine wpAny_pyIter_ascii c ?_;refine#[#v[w],[#v[w]],_,_,i,rfl,u.kept (t':=w.toks) λb o e=>nS _ e,RW _ x t,#[_,oG _ rfl,rfl,rfl],λb a=>?_,q];have e:b=#v[w]:=by simpa using a
 subst e;show u.fpOk (nH _)<|u.hok.fresh<|nH _
theorem Z8.at_bool:∀{bs:lS Bool}{us:lS lV}{i:Nat}{u:lV},Z8 (bs.map V.bl) us->us[i]? =some u->∃b,bs[i]? =some b/\u=.bool b
 | [],_,_,_,.nil,e=>by simp at e
 | b ::bs,_,0,u,.cons r _,e=>by
  simp at e;subst e;show#[b,rfl,r]
 | b ::bs,_,i+1,u,.cons _ t,e=>by
  obtain⟨c,z,y⟩:=Z8.at_bool (i:=i) t (by simpa using e);show#[c,by simpa using z,y]
def WN(bs:lS Bool):(List.range bs.length).all (λi=>bs.getD i false)=bs.all id:=by
 have e:(List.range bs.length).map (λi=>bs.getD i false)=bs:=by
  apply List.ext_getElem
  ·simp
  ·intro i z y;simp at z;simp[z]
 calc (List.range bs.length).all (λi=>bs.getD i false)=((List.range bs.length).map (λi=>bs.getD i false)).all id:=by rw[List.all_map];rfl
  _=bs.all id:=by rw[e]
def VH(l:X.calm=true):Xd X (.builtin "all") (λxs H Q=>∃(p:lU)(bs:lS Bool),xs=[.ref p]/\SqL X.K H p (bs.map V.bl)/\Q (.bl<|bs.all id) H):=by
 intro N s z H xs M Q I r h;obtain⟨p,bs,rfl,j,q⟩:=h;obtain⟨u,rfl,g⟩:=Wz r;cases g;obtain⟨x,n,w,y⟩:=I.list j;have d:p<#v[s]:=by obtain⟨_,_,e,_⟩:=w;show nQ e
 refine call_all_walk<|wM w.isList ?_;refine#[#v[s],_,_,x.toArray.size,_,_,λi=>bs.getD i false,rfl,DJ (A:=X.A.in1) (show X.A.in1.handled=none from I.ok.hd l) #v[s] p (nU d) x.toArray,#[#[_,oG _ rfl,rfl,rfl],w.isList.push _],?_,λy c k=>?_]
 ·intro i v u o L a Y;obtain⟨b,U,rfl⟩:=Z8.at_bool (i:=i) n (by simpa using a);refine tU ?_;have e:bs.getD i false=b:=by rw[tI,U];rfl
  have y:o (bs.getD i false) u:=Y;rw[e]at y;show y
 ·have u:=n.length;rw[mO]at u;refine#[.bl<|bs.all id,H,?_,?_,q]
  ·refine I.kept (t':=c) λb o e=>k b o ?_<|nS _ e
   have:=nQ e;intro y;have a:b=#v[s]:=by simpa using y
   rw[a]at this;show qT _ this
  ·change Value.bool ((List.range x.toArray.size).all λi=>bs.getD i false)=Value.bool (bs.all id);rw[oz,<-u,WN]
def RV:Xd X (.builtin "isinstance") (λxs H Q=>∃x c b t,xs=[x,c]/\Xl X.K H x t/\((∃n,c=.ty n/\kitOne X.K t (.type n)=some b)\/∃a,c=.ref a/\kitOne X.K t (.ref a)=some b)/\Q (.bl b) H):=by
 intro l s z H xs j Q I r h;obtain⟨x,c,b,t,rfl,w,k,q⟩:=h;obtain⟨u,i,rfl,p,o⟩:=wg r;rcases k with⟨n,rfl,k⟩|⟨a,rfl,k⟩
 ·cases o;show NQ I p w k λy=>#[.bl b,H,I.tok y,rfl,q]
 ·cases o;show NQ I p w k λy=>#[.bl b,H,I.tok y,rfl,q]
def Qt:V->lX Int->lX Int->Hp->VK->Prop:=λx lo y H Q=>∃z,x=.str z/\z.length<=sizeLine/\Q (.str<|Txt.slice z lo y) H
def Uq:rQ X Qt:=by
 intro U s z H x v N M lo L J Q I c a Y e h;obtain⟨y,rfl,r,q⟩:=h;obtain⟨t,rfl⟩:=c;refine#["str",_,F.slot_str_getitem.lookup,xH _ _ _,?_];obtain⟨o,p,n,hd⟩:=a;cases Y with
 | none =>
  cases e with
  | none=>show Dr (l:=none) (u:=none) (st:=none) #[o,p,n,hd] rfl (DO #[oo (Bw y none none) r,λw k=>#[.str<|Txt.slice y none none,H,I.tok k,#[w,rfl],q]])
  | int j g=>show Dr (l:=none) (u:=some (j,g)) (st:=none) #[o,p,n,hd] rfl (DO #[oo (Bw y none<|some j) r,λw k=>#[.str<|Txt.slice y none<|some j,H,I.tok k,#[w,rfl],q]])
 | int i d =>
  cases e with
  | none=>show Dr (l:=some (i,d)) (u:=none) (st:=none) #[o,p,n,hd] rfl (DO #[oo (Bw y (some i) none) r,λw k=>#[.str<|Txt.slice y (some i) none,H,I.tok k,#[w,rfl],q]])
  | int j g=>show Dr (l:=some (i,d)) (u:=some (j,g)) (st:=none) #[o,p,n,hd] rfl<|DO #[oo (Bw y (some i)<|some j) r,λw k=>#[.str<|Txt.slice y (some i)<|some j,H,I.tok k,#[w,rfl],q]]
def JI(M:St->Hp->St->Hp->Prop)(t:TS):TS:=λD z H=>t {D with nx:=M z H} z H/\∀y x,M z H y x->D.nx y x
def VB{X:Cx}{st:lZ}{t:TS}(M:St->Hp->St->Hp->Prop)(h:PS X st t):PS X st (JI M t):=by
 intro r s z H D I x;refine ng (h r s z H {D with nx:=M z H} I x.1) λf p q=>?_
 cases f with
 | next=>obtain⟨y,w,u,m⟩:=q;show#[y,w,u,x.2 y w m]
 | brk=>show q
 | cont=>show q
 | ret u=>show q
def zN:me->Bool
 | .Starred .. =>false
 | _=>true
def zG(h:zN e=true):starEach (e ::z) env=(false,eval e env) ::starEach z env:=by
 cases e<;>first
  | rfl
  | show absurd h oW
def Zb(z:PE X e y)(x:PA X w t)(h:zN e=true:=by rfl):PA X (e ::w) (tR y t):=Uv z x<|zG h
structure WSs(X:Cx)(b:List Stmt)(D:pV)(σ:St)(H:Hp):Prop where
 run:∀(c7:List (Addr×Obj)) (s:Shared),mK X c7 σ H s->wpAny (model X.prog X.w) X.A (execs b X.env) (SP X c7 D) X.xe s
structure WS(X:Cx)(st:Stmt)(D:pV)(σ:St)(H:Hp):Prop where
 run:∀(c7:List (Addr×Obj)) (s:Shared),mK X c7 σ H s->wpAny (model X.prog X.w) X.A (exec st X.env) (SP X c7 D) X.xe s
structure WE(X:Cx)(e:Expr)(σ:St)(H:Hp)(Q:VK):Prop where
 run:∀(c7:List (Addr×Obj)) (s:Shared),mK X c7 σ H s->wpAny (model X.prog X.w) X.A (eval e X.env) (EP X c7 σ Q) X.xe s
section
variable {X:Cx} {b Zt:lS lZ} {st:lZ} {e:me} {D:pV} {σ:St} {H:Hp} {t:TS} {te:TE} {Q:VK}
def Zo:qL X b (WSs X b):=λz s _ _ _ I h=>h.run z s I
def Yim:PS X st (WS X st):=λz s _ _ _ I h=>h.run z s I
def AG:PE X e (WE X e):=λz s _ _ _ I h=>h.run z s I
def WSs.of(h:qL X b t)(q:t D σ H):WSs X b D σ H:=#[λz s I=>h z s σ H D I q]
def WS.of(h:PS X st t)(q:t D σ H):WS X st D σ H:=#[λz s I=>h z s σ H D I q]
def WE.of(h:PE X e te)(q:te σ H Q):WE X e σ H Q:=#[λz s I=>h z s σ H Q I q]
def WSs.step(h:PS X st t)(q:t {D with nx:=WSs X Zt D} σ H):WSs X (st ::Zt) D σ H:=WSs.of (Zzd h Zo) q
def WSs.last(h:PS X st t)(q:t D σ H):WSs X [st] D σ H:=WSs.of (Ybc h) q
def WSs.nil(q:D.nx σ H):WSs X [] D σ H:=WSs.of Zj q
def WSs.cut(M:St->Hp->Prop)(h:WS X st {D with nx:=M} σ H)(k:∀z y,M z y->WSs X Zt D z y):WSs X (st ::Zt) D σ H:=by
 refine WSs.step (t:=JI (λ_ _=>M)<|WS X st) (VB (λ_ _=>M) Yim) #[h,λz y m=>k z y m]
end
def uL{z:Type}(P:z->Prop):lS z->Prop
 | []=>True
 | a ::l=>P a/\uL P l
theorem uL.mem{z:Type}{P:z->Prop}:∀{l:lS z}{a:z},uL P l->a∈l->P a
 | _ ::_,a,h,m=>by
  rcases nV.mp m with rfl|m
  ·show h.1
  ·show uL.mem h.2 m
theorem Qg{env:Env}:∀{names:lS (lT×NameKind)}{x:lT},names.lookup x=some .free->
  (names.map λ(n,k)=>if(k ==NameKind.free && env.scope.kind ==.function && env.kindOf n ==some .cell)then(n,NameKind.cell)else(n,k)).lookup x=some .cell\/
  (names.map λ(n,k)=>if(k ==NameKind.free && env.scope.kind ==.function && env.kindOf n ==some .cell)then(n,NameKind.cell)else(n,k)).lookup x=some .free
 | [],_,h=>by simp at h
 | (n,k) ::r,x,h=>by
  have w:=@Qg env r x
  by_cases z:x ==n
  ·have u:k=.free:=by
    rw[rO,z]at h;show oF h
   subst u
   by_cases y:(NameKind.free ==NameKind.free && env.scope.kind ==.function && env.kindOf n ==some .cell)=true
   ·left
    rw[oh];change List.lookup x ((if _ then(n,NameKind.cell)else(n,NameKind.free)) ::_)=_;rw[mY y,rO,z]
   ·right
    rw[oh];change List.lookup x ((if _ then(n,NameKind.cell)else(n,NameKind.free)) ::_)=_;rw[mV y,rO,z]
  ·have z:(x ==n)=false:=by simpa using z
   rw[rO,z]at h;have q:=w h;rw[oh];have e:∀(b:Bool)(l:lS (lT×NameKind)),List.lookup x ((if b=true then(n,NameKind.cell)else(n,k)) ::l)=l.lookup x:=λb l=>by
    cases b<;>simp[rO,z]
   rcases q with q|q
   ·show .inl<|(e _ _).trans q
   ·show .inr<|(e _ _).trans q
def IM{env:Env}:∀{names:lS (lT×NameKind)}{x:lT},
    ((names.map λ(n,k)=>if(k ==NameKind.free && env.scope.kind ==.function && env.kindOf n ==some .cell)then(n,NameKind.cell)else(n,k)).lookup x=some .cell\/
     (names.map λ(n,k)=>if(k ==NameKind.free && env.scope.kind ==.function && env.kindOf n ==some .cell)then(n,NameKind.cell)else(n,k)).lookup x=some .free)->
    names.lookup x=some .cell\/names.lookup x=some .free
  | [],_,h=>by simp at h
  | (n,k) ::r,x,h=>by
    have w:=@IM env r x;rw[oh]at h
    by_cases y:x ==n
    · rw[rO,y];have e:∀(c:Prop) [Decidable c] (l:lS (lT×NameKind)),List.lookup x ((if c then(n,NameKind.cell)else(n,k)) ::l)=some (if c then .cell else k):=λc _ l=>by
        split<;>rw[rO,y]
      rcases h with h|h
      · have h:=(e _ _).symm.trans h;have h:=oF h;split at h
        · rename_i c
          right
          have:k=.free:=by
            rw[qv,qv]at c;simpa using c.1.1
          rw[this]
        · left;rw[h]
      · have h:=(e _ _).symm.trans h;have h:=oF h;split at h
        · cases h
        · right;rw[h]
    · have y:(x ==n)=false:=by simpa using y
      have e:∀(c:Prop) [Decidable c] (l:lS (lT×NameKind)),List.lookup x ((if c then(n,NameKind.cell)else(n,k)) ::l)=l.lookup x:=λc _ l=>by
        split<;>rw[rO,y]
      rw[rO,y];show w<|h.imp (λz=>(e _ _).symm.trans z) λz=>(e _ _).symm.trans z
def Wh.std{X:Cx}{scope:Scope}{l:lS (lT×lU)}{d:lS lT}(n:Nat)(r:lS Nat)(kind:scope.kind=.function)(cell:∀y∈scope.names,y.2≠.cell)
  (names:∀y∈scope.names,y.2=.local->scope.names.lookup y.1=some .local) (clos:closureFor scope X.env=pure l) (L:uL (λp=>X.env.cells.lookup p.1=some p.2) l)
  (Q:(scope.names.all λy=>y.2 !=.free || ((l.lookup y.1).isSome && (X.env.kindOf y.1 ==some .cell || X.env.kindOf y.1 ==some .free)))=true)
  (J:d.length=n+r.length) (I:uL (λp:Nat×Nat=>∃x,d[n+p.1]? =some x/\X.N[p.2]? =some x/\scope.names.lookup x=some .free) ((List.range r.length).zip r)) :
  Wh X scope l d (λz=>List.replicate n none++r.map λj=>(z[j]?).join) where
 kind:=kind
 cell:=cell
 names:=names
 clos:=clos
 sub:=λx c h=>uL.mem (P:=λp=>X.env.cells.lookup p.1=some p.2) (a:=(x,c)) L (rH h)
 has:=λx h=>by
  rcases IM (env:=X.env) h with h|h
  ·show absurd rfl<|cell _<|rH h
  ·have q:=wE.mp Q _<|rH h;simp only[DA,Ht,qv]at q;show EW.mp q.1
 len:=λz _=>by simp[J]
 fr:=λz i x v H u _=>by
  have G:n<=i:=by
   rcases yk i n with g|Y
   ·rw[DZ (by simpa using g),Iw,mY g]at u;cases u
   ·show Y
  rw[CZ (by simpa using G),Jq,nR]at u;cases s:r[i-n]? with
  | none=>rw[s]at u;cases u
  | some j =>
   rw[s]at u;have u:(z[j]?).join=some v:=oF u;have g:i-n<r.length:=by
    rcases yk (i-n) r.length with w|w
    ·show w
    ·rw[uV w]at s;cases s
   have E:(i-n,j)∈(List.range r.length).zip r:=by
    rw[List.mem_iff_getElem?];refine#[i-n,?_];rw[List.getElem?_zip_eq_some];show#[by simp[g],s]
   obtain⟨o,U,D,N⟩:=uL.mem I E;have e:n+(i-n)=i:=by lia
   simp only[e]at U;rw[H]at U;cases U;have q:=wE.mp Q _<|rH N;simp only[DA,Ht,qv,An,rG]at q;refine#[Qg N,q.2,j,D,?_];cases M:z[j]? with
   | none=>rw[M]at u;cases u
   | some o=>rw[M]at u;show oN some u
inductive Tr where
 | non|int (i:Int)|str (x:Str)|tup (ts:List Tr)|lst (ts:List Tr)
noncomputable instance:DecidableEq Tr:=λ_ _=>Classical.propDecidable _
mutual
inductive Im(K:Frag)(H:Hp):Nat->Tr->V->Prop where
 | non {n:Nat}:Im K H n .non .non
 | int {n:Nat} (i:Int):Im K H n (.int i) (.int i)
 | str {n:Nat} (x:Str):Im K H n (.str x) (.str x)
 | tupI {n:Nat} {a:Addr} {xs:List V} {ts:List Tr}:SqT K H a xs->ur K H n ts xs->Im K H (n+1) (.tup ts) (.ref a)
 | lstI {n:Nat} {a:Addr} {xs:List V} {ts:List Tr}:SqL K H a xs->ur K H n ts xs->Im K H (n+1) (.lst ts) (.ref a)
inductive ur(K:Frag)(H:Hp):Nat->List Tr->List V->Prop where
 | nil {n:Nat}:ur K H n [] []
 | cons {n:Nat} {t:Tr} {v:V} {ts:List Tr} {vs:List V}:Im K H n t v->ur K H n ts vs->ur K H n (t ::ts) (v ::vs)
end
theorem ur.toP{K:lY}{H:Hp}{n:Nat}:∀{ts:lS Tr}{xs:lS V},ur K H n ts xs->Paired (Im K H n) ts xs
 | [],_,h=>by cases h;show .nil
 | _ ::_,_,h=>by
  cases h with
  | cons r t=>show .cons r t.toP
theorem ur.ofP{K:lY}{H:Hp}{n:Nat}:∀{ts:lS Tr}{xs:lS V},Paired (Im K H n) ts xs->ur K H n ts xs
 | _,_,.nil=>.nil
 | _,_,.cons r t=>.cons r<|ur.ofP t
def Im.tup{K:lY}{H:Hp}{n:Nat}{a:lU}{xs:lS V}{ts:lS Tr}(z:SqT K H a xs)(ps:Paired (Im K H n) ts xs):Im K H (n+1) (.tup ts) (.ref a):=.tupI z<|.ofP ps
def Im.lst{K:lY}{H:Hp}{n:Nat}{a:lU}{xs:lS V}{ts:lS Tr}(z:SqL K H a xs)(ps:Paired (Im K H n) ts xs):Im K H (n+1) (.lst ts) (.ref a):=.lstI z<|.ofP ps
theorem Paired.get{z y:Type}{R:z->y->Prop}:∀{l₁:lS z}{l₂:lS y}{i:Nat}{a:z},Paired R l₁ l₂->l₁[i]? =some a->∃b,l₂[i]? =some b/\R a b
 | _,_,_,_,.nil,e=>by simp at e
 | _,_,0,_,.cons r _,e=>by simp at e;subst e;show#[_,rfl,r]
 | _,_,i+1,a,.cons _ t,e=>by
  obtain⟨u,x,w⟩:=Paired.get (i:=i) (a:=a) t (by simpa using e);show#[u,by simpa using x,w]
theorem Paired.get'{y z:Type}{R:y->z->Prop}:∀{l₁:lS y}{l₂:lS z}{i:Nat}{b:z},Paired R l₁ l₂->l₂[i]? =some b->∃a,l₁[i]? =some a/\R a b
 | _,_,_,_,.nil,e=>by simp at e
 | _,_,0,_,.cons r _,e=>by simp at e;subst e;show#[_,rfl,r]
 | _,_,i+1,a,.cons _ t,e=>by
  obtain⟨u,x,w⟩:=Paired.get' (i:=i) (b:=a) t (by simpa using e);show#[u,by simpa using x,w]
def Paired.append{z y:Type}{R:z->y->Prop}{x:lS z}{w:lS y}{u:lS z}{q:lS y}(h:Paired R x w)(s:Paired R u q):Paired R (x++u) (w++q):=by
 induction h with
 | nil=>show s
 | cons r t p=>show .cons r p
theorem Paired.strs{K:lY}{H:Hp}{n:Nat}:∀xs:lS lT,Paired (Im K H n) (xs.map Tr.str) (xs.map V.str)
 | []=>.nil
 | x ::xs=>.cons (.str x)<|Paired.strs (K:=K) (H:=H) (n:=n) xs
def mF.at(e:mF H z)(h:H b=some o):z b=some o:=e b o h
def mF.new(h:H p=none):mF H (mM H p o):=λb u e=>by rw[Zd (Zf e h)];show e
def Paired.uniq{z y:Type}{R:z->y->Prop}(f:∀a w b,R a b->R w b->a=w){l x:lS z}{m:lS y}(h:Paired R l m)(h':Paired R x m):l=x:=by
 induction h generalizing x with
 | nil=>cases h';rfl
 | cons r t u=>cases h' with
  | cons s q=>rw[f _ _ _ r s,u q]
variable {X:Cx}
def mK.lt_excl(I:mK X u z H s)(h:SqL X.K H a xs)(h':SqT X.K H a r):False:=by
 obtain⟨q,_,x,_⟩:=I.list h;obtain⟨y,_,w,_⟩:=I.tuple h';show SeqAt.ne_of_list_tuple x.isList (show s.heap.IsTuple a y.toArray from w) rfl
def Im.inj(I:mK X g z H s):∀{n:Nat}{t u:Tr}{v:V},Im X.K H n t v->Im X.K H n u v->t=u:=by
 intro n
 induction n with
 | zero=>intro t u v h r;cases h<;>cases r<;>rfl
 | succ n j =>
  intro t u v h r;cases h with
  | non=>cases r;rfl
  | int i=>cases r;rfl
  | str x=>cases r;rfl
  | tupI p o =>
   cases r with
   | tupI q w =>
    have e:=I.tuple_inj p q;subst e;rw[Paired.uniq (R:=Im X.K H n) (λ_ _ _ y l=>j y l) o.toP w.toP]
   | lstI q w=>show(I.lt_excl q p).elim
  | lstI p o =>
   cases r with
   | tupI q w=>show(I.lt_excl p q).elim
   | lstI q w =>
    have e:=I.list_inj p q;subst e;rw[Paired.uniq (R:=Im X.K H n) (λ_ _ _ y l=>j y l) o.toP w.toP]
def Yh(h:SeqAt.EqAt A s u v b)(e:b=z):SeqAt.EqAt A s u v z:=e ▸ h
def QA(ts us:lS Tr):(((List.range<|min ts.length us.length).all λj=>decide<|ts[j]? =us[j]?) && ts.length ==us.length)=decide (ts=us):=by
 rw[rF];simp only[qv,wE,AT,yJ,rG]
 constructor
 ·rintro⟨h,e⟩;refine List.ext_getElem? λi=>?_
  by_cases z:i<ts.length
  ·show h i (by lia)
  ·rw[uV (by lia),uV<|by lia]
 ·rintro rfl;show#[λ_ _=>rfl,rfl]
def Zqn{ts us:lS Tr}(h:ts.length=us.length):((List.range ts.length).all λj=>decide<|ts[j]? =us[j]?)=decide (ts=us):=by
 have q:=QA ts us;rw[h,Nat.min_self,Ae,Bool.and_true]at q;rw[h];show q
def Xu(A:mi):A.in1.units=A.units+1:=rfl
def Bv
  (d:∀{t u:Tr}{x y:V}{l h:lV},Im X.K H n t x->Im X.K H n u y->Yd x l->Yd y h->SeqAt.EqAt A s l h (decide<|t=u))
  (ps:Paired (Im X.K H n) ts xs) (c:Paired (Im X.K H n) us q) (g:Z8 xs z) (e:Z8 q its') :
  ∀j (p:j<z.toArray.size) (o:j<its'.toArray.size),SeqAt.EqAt A s z.toArray[j] its'.toArray[j] (decide<|ts[j]? =us[j]?):=by
 intro j p o;have a:=g.length;have Y:=e.length;have w:j<xs.length:=by simpa[a]using p
 have r:j<q.length:=by simpa[Y]using o
 obtain⟨t,U,Q⟩:=Paired.get' ps (i:=j) (b:=xs[j]) (by simp[w]);obtain⟨u,N,M⟩:=Paired.get' c (i:=j) (b:=q[j]) (by simp[r]);obtain⟨L,J,I⟩:=g.get (i:=j) (x:=xs[j]) (by simp[w]);obtain⟨G,E,D⟩:=e.get (i:=j) (x:=q[j]) (by simp[r]);have C:z.toArray[j]=L:=by
  have:z[j]? =some z.toArray[j]:=by simp[show j<z.length by simpa using p]
  rw[J]at this;show(oF this).symm
 have B:its'.toArray[j]=G:=by
  have:its'[j]? =some its'.toArray[j]:=by simp[show j<its'.length by simpa using o]
  rw[E]at this;show(oF this).symm
 rw[C,B,U,N];refine Yh (d Q M I D) ?_;rw[rF];simp
def Im.tuple_rc(I:mK X G z H s)
  (l:∀{t u:Tr}{x y:V}{i h:lV},Im X.K H n t x->Im X.K H n u y->Yd x i->Yd y h->SeqAt.EqAt A.in1 s i h (decide<|t=u)) (g:A.units<cLine)
  (Y:SqT X.K H a xs) (ps:Paired (Im X.K H n) ts xs) (U:SqT X.K H b Q) (q:Paired (Im X.K H n) us Q) :
  SeqAt.RcAt A s (.ref a) (.ref b) (decide<|Tr.tup ts=Tr.tup us)/\SeqAt.RcNeAt A s (.ref a) (.ref b) (!decide (Tr.tup ts=Tr.tup us)):=by
 obtain⟨r,p,d,_⟩:=I.tuple Y;obtain⟨w,o,c,_⟩:=I.tuple U;have N:=p.length;have M:=o.length;have L:=nJ ps;have J:=nJ q;have e:((List.range<|min r.toArray.size w.toArray.size).all (λj=>decide<|ts[j]? =us[j]?) && r.toArray.size ==w.toArray.size)=decide (Tr.tup ts=Tr.tup us):=by
  rw[oz,oz,<-N,<-M,<-L,<-J,QA,rF];simp
 constructor
 ·rw[<-e];show SeqAt.RcAt.tuples (show s.heap.IsTuple a r.toArray from d) (show s.heap.IsTuple b w.toArray from c) g<|Bv l ps q p o
 ·rw[<-e];show SeqAt.RcNeAt.tuples (show s.heap.IsTuple a r.toArray from d) (show s.heap.IsTuple b w.toArray from c) g<|Bv l ps q p o
def Im.list_rc(I:mK X E z H s){n:Nat}{A:mi}{a b:lU}{ts us:lS Tr}{xs c:lS V}
  (Y:∀{t u:Tr}{x y:V}{U Q:lV},Im X.K H n t x->Im X.K H n u y->Yd x U->Yd y Q->SeqAt.EqAt A.in1 s U Q (decide<|t=u)) (p:A.units<cLine)
  (M:SqL X.K H a xs) (ps:Paired (Im X.K H n) ts xs) (L:SqL X.K H b c) (i:Paired (Im X.K H n) us c) :
  SeqAt.RcAt A s (.ref a) (.ref b) (decide<|Tr.lst ts=Tr.lst us)/\SeqAt.RcNeAt A s (.ref a) (.ref b) (!decide (Tr.lst ts=Tr.lst us)):=by
 obtain⟨h,g,o,_⟩:=I.list M;obtain⟨r,d,l,_⟩:=I.list L;have J:=g.length;have D:=d.length;have G:=nJ ps;have C:=nJ i
 by_cases N:ts.length=us.length
 ·have e:((List.range h.toArray.size).all λj=>decide<|ts[j]? =us[j]?)=decide (Tr.lst ts=Tr.lst us):=by
   rw[oz,<-J,<-G,Zqn N,rF];simp
  have q:h.toArray.size=r.toArray.size:=by rw[oz,oz];lia
  constructor
  ·rw[<-e];show SeqAt.RcAt.lists o.isList l.isList q p<|Bv Y ps i g d
  ·rw[<-e];show SeqAt.RcNeAt.lists o.isList l.isList q p<|Bv Y ps i g d
 ·have e:decide (Tr.lst ts=Tr.lst us)=false:=ow λw=>N (by injection w with w;rw[w])
  have q:(h.toArray.size !=r.toArray.size)=true:=by rw[oz,oz];simp;lia
  rw[e];show#[SeqAt.RcAt.lists_lengths o.isList l.isList q p,SeqAt.RcNeAt.lists_lengths o.isList l.isList q p]
def Im.eqAt(I:mK X c7 z H s):∀(n:Nat)(A:mi){t u:Tr}{x y:V}{U Q:lV},Im X.K H n t x->Im X.K H n u y->Yd x U->Yd y Q->A.units+n<cLine->SeqAt.EqAt A s U Q (decide<|t=u):=by
 intro n
 induction n with
 | zero =>
  intro A t u x y U Q h N c o D;cases h<;>cases N<;>show Yh (zS c o rfl rfl) (by rw[rF];(delta rM;simp))
 | succ n C =>
  intro A t u x y U Q h N c o D;have e:A.units<cLine:=by lia
  have B:A.in1.units+n<cLine:=by rw[Xu];lia
  have L:∀{t u:Tr}{x y:V}{U Q:lV},Im X.K H n t x->Im X.K H n u y->Yd x U->Yd y Q->SeqAt.EqAt A.in1 s U Q (decide<|t=u):=λw z' r r'=>C A.in1 w z' r r' B
  cases h with
  | @tupI _ a xs ts M J =>
   cases c;obtain⟨G,rv,Y,_⟩:=I.tuple M;cases N with
   | non=>cases o;show Yh (SeqAt.EqAt.tuple_none (show s.heap.IsTuple _ G.toArray from Y) e) (ow λw=>nomatch w).symm
   | int i=>obtain⟨g,rfl⟩:=o;show Yh (SeqAt.EqAt.tuple_int i g (show s.heap.IsTuple _ G.toArray from Y) e) (ow λw=>nomatch w).symm
   | str i=>obtain⟨g,rfl⟩:=o;show Yh (SeqAt.EqAt.tuple_str i g (show s.heap.IsTuple _ G.toArray from Y) e) (ow λw=>nomatch w).symm
   | @tupI _ b ys us l p =>
    cases o
    by_cases E:a=b
    ·subst E;rw[Im.inj I (Im.tupI M J) (Im.tupI l p),nZ rfl];show Ab _
    ·show SeqAt.EqAt.of_refs E (Im.tuple_rc I L e M J.toP l p.toP).1
   | lstI l p =>
    cases o;obtain⟨q,M0,d,_⟩:=I.list l;show Yh (SeqAt.EqAt.tuple_list (show s.heap.IsTuple _ G.toArray from Y) d.isList e) (ow λw=>nomatch w).symm
  | @lstI _ a xs ts M J =>
   cases c;obtain⟨G,rv,Y,_⟩:=I.list M;cases N with
   | non=>cases o;show Yh (SeqAt.EqAt.list_none Y.isList e) (ow λw=>nomatch w).symm
   | int i=>obtain⟨g,rfl⟩:=o;show Yh (SeqAt.EqAt.list_int i g Y.isList e) (ow λw=>nomatch w).symm
   | str i=>obtain⟨g,rfl⟩:=o;show Yh (SeqAt.EqAt.list_str i g Y.isList e) (ow λw=>nomatch w).symm
   | tupI l p =>
    cases o;obtain⟨q,M0,d,_⟩:=I.tuple l;show Yh (SeqAt.EqAt.list_tuple Y.isList (show s.heap.IsTuple _ q.toArray from d) e) (ow λw=>nomatch w).symm
   | @lstI _ b ys us l p =>
    cases o
    by_cases E:a=b
    ·subst E;rw[Im.inj I (Im.lstI M J) (Im.lstI l p),nZ rfl];show Ab _
    ·show SeqAt.EqAt.of_refs E (Im.list_rc I L e M J.toP l p.toP).1
  | non =>
   cases c;cases N with
   | non=>cases o;show Yh (Ab _) (nZ rfl).symm
   | int i=>obtain⟨g,rfl⟩:=o;show Yh (SeqAt.EqAt.none_int i g) (ow λw=>nomatch w).symm
   | str i=>obtain⟨g,rfl⟩:=o;show Yh (SeqAt.EqAt.none_str i g) (ow λw=>nomatch w).symm
   | tupI l p=>cases o;obtain⟨q,_,d,_⟩:=I.tuple l;show Yh (SeqAt.EqAt.none_tuple (show s.heap.IsTuple _ q.toArray from d) e) (ow λw=>nomatch w).symm
   | lstI l p=>cases o;obtain⟨q,_,d,_⟩:=I.list l;show Yh (SeqAt.EqAt.none_list d.isList e) (ow λw=>nomatch w).symm
  | int j =>
   cases N with
   | tupI l p=>obtain⟨g,rfl⟩:=c;cases o;obtain⟨q,_,d,_⟩:=I.tuple l;show Yh (SeqAt.EqAt.int_tuple j g (show s.heap.IsTuple _ q.toArray from d) e) (ow λw=>nomatch w).symm
   | lstI l p=>obtain⟨g,rfl⟩:=c;cases o;obtain⟨q,_,d,_⟩:=I.list l;show Yh (SeqAt.EqAt.int_list j g d.isList e) (ow λw=>nomatch w).symm
   | _=>show Yh (zS c o rfl rfl) (by rw[rF];(delta rM;simp))
  | str j =>
   cases N with
   | tupI l p=>obtain⟨g,rfl⟩:=c;cases o;obtain⟨q,_,d,_⟩:=I.tuple l;show Yh (SeqAt.EqAt.str_tuple j g (show s.heap.IsTuple _ q.toArray from d) e) (ow λw=>nomatch w).symm
   | lstI l p=>obtain⟨g,rfl⟩:=c;cases o;obtain⟨q,_,d,_⟩:=I.list l;show Yh (SeqAt.EqAt.str_list j g d.isList e) (ow λw=>nomatch w).symm
   | _=>show Yh (zS c o rfl rfl) (by rw[rF];(delta rM;simp))
def BE(K:lY)(neg:Bool):R2:=λx y H Q=>∃n t u,n<=60/\((∃z w,t=Tr.tup z/\u=Tr.tup w)\/∃z w,t=Tr.lst z/\u=Tr.lst w)/\Im K H n t x/\Im K H n u y/\Q (.bl<|if neg then !decide (t=u)else decide (t=u)) H
def UN{X:Cx}(M:X.A.units+64<cLine):og X (compareOp .Eq) (BE X.K false):=by
 intro L s z H x y v u Q I e d h;obtain⟨n,t,J,G,Y,c,a,q⟩:=h;rcases Y with⟨U,N,rfl,rfl⟩|⟨U,N,rfl,rfl⟩
 ·cases c with
  | tupI o l =>
   cases a with
   | tupI j p =>
    cases e;cases d;show(Im.tuple_rc (A:=X.A) I (λw i r g=>Im.eqAt I _ _ w i r g<|by rw[Xu];lia) (by lia) o l.toP j p.toP).1 _ _ _ _ #[.bl _,H,I,rfl,q]
 ·cases c with
  | lstI o l =>
   cases a with
   | lstI j p =>
    cases e;cases d;show(Im.list_rc (A:=X.A) I (λw i r g=>Im.eqAt I _ _ w i r g<|by rw[Xu];lia) (by lia) o l.toP j p.toP).1 _ _ _ _ #[.bl _,H,I,rfl,q]
def Yf0{X:Cx}(M:X.A.units+64<cLine):og X (compareOp .NotEq) (BE X.K true):=by
 intro L s z H x y v u Q I e d h;obtain⟨n,t,J,G,Y,c,a,q⟩:=h;rcases Y with⟨U,N,rfl,rfl⟩|⟨U,N,rfl,rfl⟩
 ·cases c with
  | tupI o l =>
   cases a with
   | tupI j p =>
    cases e;cases d;show(Im.tuple_rc (A:=X.A) I (λw i r g=>Im.eqAt I _ _ w i r g<|by rw[Xu];lia) (by lia) o l.toP j p.toP).2 _ _ _ _ #[.bl _,H,I,rfl,q]
 ·cases c with
  | lstI o l =>
   cases a with
   | lstI j p =>
    cases e;cases d;show(Im.list_rc (A:=X.A) I (λw i r g=>Im.eqAt I _ _ w i r g<|by rw[Xu];lia) (by lia) o l.toP j p.toP).2 _ _ _ _ #[.bl _,H,I,rfl,q]
def Oz(t:TA):TE:=λz H Q=>t z H λx w=>x.length<=sizeLine/\∀p y,mF w y->w p=none->y p=some (.tup x)->Q (.ref p) y
def Yhd(t:TA):TE:=λz H Q=>t z H λx w=>x.length<=sizeLine/\∀p y,mF w y->w p=none->y p=some (.lst x)->Q (.ref p) y
def Zi{n}(h:PA X l t):PE X (.Tuple l n pos) (Oz t):=by
 intro j s z H Q I i;refine wpAny_Tuple_spliced<|ng (h pos j s z H _ I i) λg x ⟨d,w,p,r,y,q⟩=>#[by rw[<-r.length];show y,?_];have o:w #v[x]=none:=p.hok.fresh<|nH _;refine#[.ref #v[x],mM w #v[x] (.tup d),p.laid (t':=x.toks) (λb u e=>nS _ e) (nH _) ?_,rfl,q _ _ (mF.new o) o Zc];show#[y,g,r,#[_,oG _ rfl,rfl,_,rfl]]
def Zn(h:PA X n t):PE X (.List n pos) (Yhd t):=by
 intro l s z H Q I j;refine wpAny_List_spliced<|ng (h pos l s z H _ I j) λi x ⟨g,w,p,r,y,q⟩=>#[by rw[<-r.length];show y,?_];have o:w #v[x]=none:=p.hok.fresh<|nH _;refine#[.ref #v[x],mM w #v[x] (.lst g),p.laid (t':=x.toks) (λb u e=>nS _ e) (nH _) ?_,rfl,q _ _ (mF.new o) o Zc];show#[y,i,0,r,oG _ rfl]
def og.imp{f:lV->lV->Sem lV}(h:og X f r)(g:∀x y H Q,w x y H Q->r x y H Q):og X f w:=λp s z H x y v u Q I o n q=>h p s z H x y v u Q I o n<|g _ _ _ _ q
def rQ.imp{r y:V->lX Int->lX Int->Hp->VK->Prop}(h:rQ X r)(g:∀x l u H Q,y x l u H Q->r x l u H Q):rQ X y:=λw s z H x v p o lo n j Q I i e d c q=>h w s z H x v p o lo n j Q I i e d c<|g _ _ _ _ _ q
def Xd.imp{r y:lS V->Hp->VK->Prop}(h:Xd X f r)(g:∀xs H Q,y xs H Q->r xs H Q):Xd X f y:=λx s z H xs w Q I u q=>h x s z H xs w Q I u<|g _ _ _ q
def pK(H:Hp)(o:HO)(Q:VK):Prop:=∀p z,mF H z->H p=none->z p=some o->Q (.ref p) z
def pK.at(h:pK H o Q)(p:lU)(z:H p=none):Q (.ref p) (mM H p o):=h p _ (mF.new z) z Zc
inductive Ky(H:Hp)(Q:VK):V->V->Prop
 | mk {l b xs zs}:H l=some (.lst xs)->H b=some (.lst zs)->xs.length+zs.length<=sizeLine->pK H (.lst<|xs++zs) Q->Ky H Q (.ref l) (.ref b)
def Ka:R2:=λx y H Q=>Ky H Q x y
def XC:og X (binaryOp .Add) Ka:=Ye7.imp λx y H Q h=>by
 obtain@⟨l,b,z,w,u,s,r,q⟩:=h;show#[l,b,z,w,rfl,rfl,u,s,r,λp o=>q.at p o]
inductive Jg(K:Frag)(lo hi:Option Int)(H:Hp)(Q:VK):V->Prop
 | mk {a xs}:SqT K H a xs->¬(HT.sIx xs.length 0 lo=0/\HT.sIx xs.length xs.length hi=xs.length)->pK H (.tup<|qF xs lo hi) Q->Jg K lo hi H Q (.ref a)
def PQ(K:lY):V->lX Int->lX Int->Hp->VK->Prop:=λx lo z H Q=>Jg K lo z H Q x
def Ycn:rQ X (PQ X.K):=Yfu.imp λx l u H Q h=>by
 obtain@⟨a,z,y,w,s⟩:=h;show#[a,z,rfl,y,w,λp r=>s.at p r]
inductive Dw(K:Frag)(lo hi:Option Int)(H:Hp)(Q:VK):V->Prop
 | mk {a xs}:SqL K H a xs->pK H (.lst<|qF xs lo hi) Q->Dw K lo hi H Q (.ref a)
def Ma(K:lY):V->lX Int->lX Int->Hp->VK->Prop:=λx lo z H Q=>Dw K lo z H Q x
def RL:rQ X (Ma X.K):=Yc4.imp λx l u H Q h=>by
 obtain@⟨a,z,y,w⟩:=h;show#[a,z,rfl,y,λp s=>w.at p s]
def wc(o:lS V->Hp->VK->Prop)(M:Mk X.K C f)
  (F:Y6 X.prog X.w X.K X.mg X.mG l k f fd ps j) (i:Y8 (k+1) X.A) (g:Gl X x) (d:X.mg x=some (.ref C)) (c:qr X.K fd ps ds) (hd:Z8 a ds) (Y:sJ l X E)
  (u:∀vs H Q,o vs H Q->∀x y,H x=none->H y=none->y≠x->j (.ref x ::(vs++a)) (mM (mM H y<|.own x) x<|.ins C y []) (λv U=>v=.non/\Q (.ref x) U) E)
  (N:PA X (e ::w) t) (L:(x ==("__debug__":lT))=false:=by lk) (he:starEach (e ::w) X.env=(false,eval e X.env) ::starEach w X.env:=by rfl) (J:(backTo pos<|starEach w X.env).any (·.1)=false:=by rfl) :
  PE X (.Call (.Name x p) (e ::w) [] pos) (yN o t):=by
 intro G s z H Q I h;refine uZ<|xJ I g d ?_ L;refine zU (h₀:=X.mG) I.ok.mod.kin M.kp (ng (N pos G s z H _ I h) λB A ⟨vs,D,n,r,q⟩=>#[n.kIn,?_]) he J;show Zzy M F i c hd Y n r<|u vs D Q q
def Rm(w:X.A.units+1<cLine):og X (compareOp .In) (λy x H Q=>∃a o,x=.ref a/\X0 H a y o/\Q (.bl o.isSome) H):=by
 intro j s z H y x v u Q I r p h;obtain⟨a,n,rfl,g,q⟩:=h;cases p;show QT w I g r λi l=>#[.bl n.isSome,H,l,rfl,q]
def QN(w:X.A.units+1<cLine):og X (compareOp .NotIn) (λy x H Q=>∃a o,x=.ref a/\X0 H a y o/\Q (.bl (!o.isSome)) H):=by
 intro j s z H y x v u Q I r p h;obtain⟨a,n,rfl,g,q⟩:=h;cases p;show RH w I g r λi l=>#[.bl (!n.isSome),H,l,rfl,q]
def Wl:og X (binaryOp .Add) (λx y H Q=>vI (λi j=>.int<|i+j) x y H Q\/(∃i j,x=.str i/\y=.str j/\i.length+j.length<=sizeLine/\Q (.str<|i++j) H)\/Ka x y H Q):=SK.or<|SO.or XC
def sz(h:n<=1000):n<=sizeLine:=uI<|Zp h
structure xI(K:Frag)(x qual:Str)(st:Stmt)(dV:Value)(f:Addr)(fd:FuncData):Prop where
 ex:∃(oc:Value)(od:Option Addr)(kV A2 pm:Value)(an:Option Addr)(d6 ct:Value)(N5:Array (Option Value)),
  fd=fnOf x qual (Wv st) (Y4 st) (Zk st) dV kV A2 pm an d6 ct/\K.lookup f=some #[oc,od,.func fd,N5]/\codeIn K d6 qual=true
 kp:keepIn K (.ref f)=true
section
variable {P:mh} {w:md} {K:lY} {mg:lT->lX lV} {mG:ma}
def xI.ok{x qual:lT}{st:lZ}{r:lV}{f:lU}{fd:mj}{N ps:lS lT}{k:Nat}{y:Sp}(F:xI K x qual st r f fd)(S:Zx N ps (Zk st))(len:∀vs H Q E,y vs H Q E->vs.length=ps.length)
  (q:∀(z:lV)(A:mi)(u:lS Env)(s:lW)(H:Hp)(vs:lS V)(Q:VK)(E:XK),Y8 k (A.deeper<|envOfC qual (Zk st) #v[s] f z)->y vs H Q E->
   WSs (pb oP P w K mg mG N qual (Zk st) f z A u s H E).nox (Y4 st) {nx:=λ_ p=>Q .non p,rt:=Q} (start N vs) H):Y6 P w K mg mG oP (k+1) f fd ps y:=by
 obtain⟨j,i,kV,h,g,e,z,d,c,rfl,lk,o⟩:=F.ex;refine DE lk o S len λA u s H vs Q E n l=>?_
 show#[_,qL.nox Zo,q z A u s H vs Q E n l]
def qN.okW{x qual:lT}{st:lZ}{f:lU}{fd:mj}{N ps:lS lT}{k:Nat}{z:Sp}(F:qN K x qual st f fd)(S:Zx N ps (Zk st))
  (y:∀(d6:lV)(A:mi)(mD:lS Env)(s:lW)(H:Hp)(vs:lS V)(Q:VK)(E:XK),Y8 k (A.deeper<|envOfC qual (Zk st) #v[s] f d6)->z vs H Q E->
   let X:=(pb oP P w K mg mG N qual (Zk st) f d6 A mD s H E).nox;let D:pV:={nx:=λ_ u=>Q .non u,rt:=Q};WSs X (Y4 st) D (start N vs) H) (len:∀vs H Q E,z vs H Q E->vs.length=ps.length:=by rintro _ _ _ _ ⟨⟩<;>subst_vars<;>rfl):Y6 P w K mg mG oP (k+1) f fd ps z :=
 F.ok S len λd6 A mD s H vs Q E hr h=>#[_,Zo,y d6 A mD s H vs Q E hr h]
def qN.okA{x qual:lT}{st:lZ}{f:lU}{fd:mj}{ps:lS lT}{k:Nat}{z:Sp}(F:qN K x qual st f fd)
  (y:∀(d6:lV)(A:mi)(mD:lS Env)(s:lW)(H:Hp)(vs:lS V)(Q:VK)(E:XK),Y8 k (A.deeper<|envOfC qual (Zk st) #v[s] f d6)->z vs H Q E->
   let X:=(pb oP P w K mg mG ps qual (Zk st) f d6 A mD s H E).nox;let D:pV:={nx:=λ_ u=>Q .non u,rt:=Q};WSs X (Y4 st) D (start ps vs) H) (len:∀vs H Q E,z vs H Q E->vs.length=ps.length:=by rintro _ _ _ _ ⟨⟩<;>subst_vars<;>rfl) (S:Zx ps ps (Zk st):=by show{}):Y6 P w K mg mG oP (k+1) f fd ps z:=F.okW S y len
def KA{x qual:lT}{st:lZ}{f:lU}{p y:lV}{od u:lX lU}{o:Array (lX lV)}{kV s r z q:lV}(l:K.lookup f=some #[p,od,.func<|fnOf x qual (Wv st) (Y4 st) (Zk st) y kV s r u z q,o])
  (c:codeIn K z qual=true) (k:keepIn K (.ref f)=true):xI K x qual st y f (fnOf x qual (Wv st) (Y4 st) (Zk st) y kV s r u z q):=#[#[p,od,kV,s,r,u,z,q,o,rfl,l,c],k]
end
structure Dn(K:Frag)(x qual:Str)(st:Stmt)(ps:List Str) where
 f:Addr
 fd:FuncData
 F:qN K x qual st f fd
 b:qr K fd ps []
def EE{z:Type}{l:lS z}{a:z}(h:l[i]? =some a):l.drop i=a ::l.drop (i+1):=by
 have x:i<l.length:=by
  rcases yk i l.length with y|y
  ·show y
  ·rw[uV y]at h;cases h
 rw[zg x];rw[oE x]at h;rw[oF h]
theorem Wb:∀l:lS lT,(l.map V.str).all tz=true
 | []=>rfl
 | _ ::l=>by rw[oh,Hc,Wb l];rfl
theorem vM(x:lT):∀l:lS lT,uM (.str x) (l.map V.str)=decide (x∈l)
 | []=>by simp[uM]
 | y ::l=>by
  have z:=vM x l;unfold uM at z ⊢;rw[oh,xF,z,rF]
  delta rM
  simp only[An,rG,yJ,nV]
  constructor
  ·rintro(h|h)
   ·show .inl h.symm
   ·show .inr h
  ·rintro(h|h)
   ·show .inl h.symm
   ·show .inr h
end L2
end
section
namespace NM
open PySem L2
def qH:lS Nat:=[97,98,99,100,101,102,103,104,105,106,107,108,109,110,111,112,113,114,115,116,117,118,119,120,121,122]
def BQ:("abcdefghijklmnopqrstuvwxyz":lT).cps.toList=qH:=by left
def CY:("abcdefghijklmnopqrstuvwxyz":lT).length=26:=by left
end NM
end
section
namespace L2
open PySem PySem.Spec PyProof.Rows
def Yh7:HO->Bool
 | .dK _=>true
 | .dT _=>true
 | _=>false
variable {X:Cx}
def ol.retold(x:ol P w H h)(hd:H d=some v)(r:∀y,v≠.own y)(p:∀xs,v≠.tup xs)(n:∀o y,v≠.frz o (.own y))(l:∀ps,v≠.tbl ps)(new:Yb P w (mM H d u) h d u):ol P w (mM H d u) h:=λb q e=>by
 by_cases s:b=d
 ·subst s;rw[Zc]at e;cases e;show new
 ·rw[Zd s]at e;refine(x b q e).stay (λ_ _ _ z=>z) (λc z=>?_) (λc xs z=>?_) (λc j z=>?_) (λc ps z=>?_)
  ·rw[Zd (λy=>by subst y;rw[hd]at z;show r _<|oF z)];show z
  ·rw[Zd (λy=>by subst y;rw[hd]at z;show p _<|oF z)];show z
  ·rw[Zd (λy=>by subst y;rw[hd]at z;show n _ _<|oF z)];show z
  ·rw[Zd (λy=>by subst y;rw[hd]at z;show l _<|oF z)];show z
def OZ(hd:H d=some v)(s:∀y,v≠.own y)(r:∀xs,v≠.tup xs)(q:∀o y,v≠.frz o (.own y))(p:∀ps,v≠.tbl ps)(x:Yb P w H h d u):Yb P w (mM H d n) h d u :=
 x.stay (λ_ _ _ z=>z) (λc z=>by rw[Zd (λy=>by subst y;rw[hd]at z;show s _<|oF z)];show z) (λc xs z=>by rw[Zd (λy=>by subst y;rw[hd]at z;show r _<|oF z)];show z) (λc l z=>by rw[Zd (λy=>by subst y;rw[hd]at z;show q _ _<|oF z)];show z) (λc ps z=>by rw[Zd (λy=>by subst y;rw[hd]at z;show p _<|oF z)];show z)
def mK.retell(I:mK X h z H s)(hd:H d=some v)(g:∀y,v≠.own y)(l:∀xs,v≠.tup xs)(a:∀o y,v≠.frz o (.own y))(j:∀ps,v≠.tbl ps)(Y:∀o u,X.mo d≠some (.frz o u))(new:Yb X.prog X.w (mM H d i) s.heap d i) :
  mK X h z (mM H d i) s:=by
 have r:∀b,H b=none->b≠d:=λb n x=>by subst x;rw[n]at hd;cases hd
 refine#[I.ok,I.os,I.bare,?_,I.loc,I.cell,?_,λw c e=>?_,λp U=>?_,I.hok.retold hd g l a j new,I.len]
 ·have b:=I.mG;refine#[b.keep,b.slot,λc q e n Q=>?_,b.there,λc xs e=>?_,λc N q e=>?_,λc ps e=>?_]
  ·have x:=b.free c q e n Q;rw[Zd (r c x)];show x
  ·have x:=b.tups c xs e;rw[Zd (λy=>by subst y;rw[hd]at x;show l _<|oF x)];show x
  ·have x:=b.frzs c N q e;rw[Zd (λy=>by subst y;show Y _ _ e)];show x
  ·obtain⟨m,x⟩:=b.tbls c ps e;show#[m,by rw[Zd (λy=>by subst y;rw[hd]at x;show j _<|oF x)];show x]
 ·rw[Zd (r _ I.free)];show I.free
 ·rw[Zd (r _<|I.freeC w c e)];show I.freeC w c e
 ·obtain⟨Q,q,N⟩:=I.pin p U;show#[Q,by rw[Zd (r _ q)];show q,N]
def mK.notFrz(I:mK X x z H s)(hd:H d=some v)(n:∀o u,v≠.frz o u):∀o u,X.mo d≠some (.frz o u):=λo u y=>by
 have:=I.mG.frzs d o u y;rw[hd]at this;show n _ _<|oF this
def mK.freeze(I:mK X n z H s)(hd:H d=some u)(w:Yh7 u=true)(l:s.heap.get? d=some o):mK X n z (mM H d<|.frz o u) s:=by
 have r:∀y,u≠.own y:=λy x=>by subst x;cases w
 have q:∀j,u≠.tup j:=λy x=>by subst x;cases w
 have p:∀o y,u≠.frz o (.own y):=λo y x=>by subst x;cases w
 refine I.retell hd r q p (λy x=>by subst x;cases w) (I.notFrz hd λ_ _ x=>by subst x;cases w) #[l,OZ hd r q p (λy x=>by subst x;cases w)<|I.hok d u hd]
def mK.thaw(I:mK X p z H s)(hd:H d=some (.frz o u))(n:∀o u,X.mo d≠some (.frz o u))(l:∀y,u≠.own y:=by show λ_ x=>nomatch x):mK X p z (mM H d u) s:=by
 obtain⟨_,q⟩:=I.hok d _ hd;have w:∀r y,HO.frz o u≠.frz r (.own y):=λr y x=>l y (HO.frz.inj x).2
 show I.retell hd (λ_ x=>nomatch x) (λ_ x=>nomatch x) w (λ_ x=>nomatch x) n<|OZ hd (λ_ x=>nomatch x) (λ_ x=>nomatch x) w (λ_ x=>nomatch x) q
def mF.thaw(hd:H d=some u)(h:mF (mM H d<|.frz o u) y):mF H (mM y d u):=λb q e=>by
 by_cases z:b=d
 ·subst z;rw[hd]at e;cases e;show Zc
 ·rw[Zd z];show h b q (by rw[Zd z];show e)
def mF.rd(e:mF H z)(h:Rd H a u):Rd z a u:=by
 rcases h with h|⟨o,h⟩
 ·show .inl<|e _ _ h
 ·show .inr #[o,e _ _ h]
def AB(d:lU)(o:Obj)(kvs:lS (nj×V)):It :=
 #[λi H=>H d=some (.frz o<|.dK kvs)/\i<kvs.length,λi H x z=>z=H/\∃kv,kvs[i]? =some kv/\x=kV kv.1,λi H=>H d=some (.frz o<|.dK kvs)/\kvs.length<=i]
def Gj(h:(Zy P w).is k u=true):Yd (kV k) u:=by
 rcases Xg (show vT k u=true from h)with⟨i,t,rfl,rfl⟩|⟨x,t,rfl,rfl⟩
 ·show#[t,rfl]
 ·show#[t,rfl]
def KV.get{kvs:lS (nj×V)}{vs:lS (nj×lV)}{i:Nat}{kv:nj×V}(r:KV kvs vs)(h:kvs[i]? =some kv):∃u,vs[i]? =some (kv.1,u)/\Yd kv.2 u:=by
 obtain⟨q,z,y,x⟩:=Paired.get r h;show#[q.2,by rw[z,y],x]
def Zxi{P:mh}{w:md}{K:lY}{tg:me}{d:lU}{o:Obj}{kvs:lS (nj×V)}{vs:lS (nj×lV)}{ep:Nat}(it:lU)(G:KV kvs vs)
  (D:∀h:ma,h.get? d=some o->h.DictAt (Zy P w) d vs ep):ut P w K tg (AB d o kvs) [it] it (λi h=>h.IsKeyIter it d i vs.length ep) where
 mem:=by simp
 obj:=λi h st b x=>by
  have e:b=it:=by simpa using x
  subst e;obtain⟨r,e,c,n⟩:=st;show#[r,e,λv y=>by rw[n]at y;cases y]
 keep:=λi h q st k=>st.at λr e=>k it (by simp) r e
 item:=by
  intro X l j g C i B s z H E I p st a;subst l j g;obtain⟨Y,A⟩:=a;obtain⟨U,Q,f2,N,M,L⟩:=p it (by simp);have J:s.heap.get? d=some o:=(I.hok d _ Y).1;obtain⟨u,hu,_⟩:=G.get (i:=i) (kv:=kvs[i]) (by simp[A]);refine wpAny_pyNext_dict_item (knd:=Zy X.prog X.w) st (D _ J) hu λkey q J6 C1 sb=>?_
  have I1:mK X B z H {s with heap:=q}:=I.turned (t':=s.toks) (λb o x e=>(sb.2 b x).trans e) U Q N M L;obtain⟨r,e,c,n⟩:=id C1;show#[key,rfl,xc (s:={s with heap:=q}) e c n (by lk) #[kV kvs[i].1,H,I1,Gj J6,#[rfl,kvs[i],by simp[A],rfl],C1,λb x=>(p b x).1]]
 done:=by
  intro X l j g C i B s z H E I p st a;subst l j g;obtain⟨Y,y⟩:=a;obtain⟨U,Q,f2,N,M,L⟩:=p it (by simp);have J:s.heap.get? d=some o:=(I.hok d _ Y).1;have hl:=KV.length G;show wpAny_pyNext_dict_end (knd:=Zy X.prog X.w) (I.ok.hd C) st (D _ J) (uV<|by lia) λq eb=>#[rfl,I.turned (t':=s.toks) (λb o x e=>eb b o x e) U Q N M L]
 self:=λ_ _ _ _ _ st h=>wpAny_pyIter_keyiter st h
def NF(X:Cx)(d:lU)(u:HO):Prop:=(∀o u,X.mo d≠some (.frz o u))/\∀y,u≠.own y
def xr(X:Cx)(Q:Hp->Prop)(H:Hp):Prop:=∃d o u,H d=some (.frz o u)/\NF X d u/\Q (mM H d u)
def xr.run{Q:Hp->Prop}(I:mK X w z H s)(h:xr X Q H):∃y,mK X w z y s/\Q y:=by
 obtain⟨d,o,u,hd,x,q⟩:=h;show#[_,I.thaw hd x.1 x.2,q]
inductive HR(X:Cx)(I:Addr->Obj->List (nj×V)->It)(R:It->Hp->Prop)(H:Hp):V->Prop
 | mk {d kvs}:H d=some (.dK kvs)->(∀o,NF X d (.dK kvs)->R (I d o kvs) (mM H d<|.frz o<|.dK kvs))->HR X I R H (.ref d)
def Yh9(X:Cx)(y:TE):TI:=λz H R=>y z H λx w=>HR X AB R w x
def Bg{P:mh}{w:md}{h:ma}{d:lU}{o:Obj}{vs:lS (nj×lV)}(x:h.DictOf (Zy P w) d vs)(z:h.get? d=some o):∃ep,∀h':ma,h'.get? d=some o->h'.DictAt (Zy P w) d vs ep:=by
 obtain⟨u,y,ep,e,r⟩:=x;rw[z]at e;cases e;show#[ep,λh' u=>#[o,y,u,r]]
def Yik{X:Cx}{g l:me}{p:TE}(c:PE X l p):PI X g l (Yh9 X p):=by
 intro n s z H R I h;refine ng (c n s z H _ I h) λv s1 ⟨y,a,x,Y,U⟩=>?_
 obtain@⟨d,w,hd,q⟩:=U;cases Y;obtain⟨y,Q,N,kv,j⟩:=wP x.hok hd;obtain⟨o,_,_,u,_⟩:=id j;obtain⟨M,i⟩:=Bg j u;have r:=x.freeze hd rfl u;refine wpAny_pyIter_dict (knd:=Zy X.prog X.w) Q (i _ u) ?_;have L:mK X n z (mM a d<|.frz o<|.dK w) {s1 with heap:=s1.heap.push {cls:=.type "dict_keyiterator",data:=.fields (List.toArray [.ref d,.int 0 0,.int N.length 0,.int M 0])}}:=r.kept (t':=s1.toks) λb o e=>nS _ e
 refine#[#v[s1],[#v[s1]],_,_,_,rfl,L,Zxi _ kv i,#[_,oG _ rfl,rfl,rfl],λb J=>?_,q o #[x.notFrz hd (λ_ _ y=>nomatch y),λ_ y=>nomatch y]];have e:b=#v[s1]:=by simpa using J
 subst e;show r.fpOk (nH _)<|r.hok.fresh<|nH _
def Ub(X:Cx)(t:TS):TS:=λD z H=>t {nx:=λy=>xr X<|D.nx y,rt:=λv=>xr X<|D.rt v,bk:=λy=>xr X<|D.bk y,ct:=λy=>xr X (D.ct y)} z H
def Il{X:Cx}{st:lZ}{t:TS}(h:PS X st t):PS X st (Ub X t):=by
 intro j s z H D I i;refine ng (h j s z H _ I i) λf g y=>?_
 cases f with
 | next=>obtain⟨x,l,w,q⟩:=y;obtain⟨p,o,n⟩:=q.run w;show#[x,p,o,n]
 | brk=>obtain⟨x,l,w,q⟩:=y;obtain⟨p,o,n⟩:=q.run w;show#[x,p,o,n]
 | cont=>obtain⟨x,l,w,q⟩:=y;obtain⟨p,o,n⟩:=q.run w;show#[x,p,o,n]
 | ret u=>obtain⟨v,x,l,w,r,q⟩:=y;obtain⟨p,o,n⟩:=q.run w;show#[v,x,p,o,r,n]
def Yf2(X:Cx)(t:TE):TE:=λz H Q=>t z H λv=>xr X<|Q v
def FG(h:PE X e t):PE X e (Yf2 X t):=by
 intro y s z H Q I x;refine ng (h y s z H _ I x) λu l ⟨v,j,w,r,q⟩=>?_
 obtain⟨p,o,n⟩:=q.run w;show#[v,p,o,r,n]
def Yie{d:lU}{o:Obj}{kvs:lS (nj×V)}{g:TG}{l:TS}{D:pV}{z:St}{H:Hp}(Pv:Nat->St->Hp->Prop)(h:Pv 0 z H)(c:∀i z H,i<=kvs.length->Pv i z H->H d=some (.frz o<|.dK kvs))
  (a:∀i kv z H,kvs[i]? =some kv->Pv i z H->g (kV kv.1) z H λw r=>l {D with nx:=Pv<|i+1,ct:=Pv<|i+1,bk:=D.nx} w r) (hd:∀z H,Pv kvs.length z H->D.nx z H) :
  ∃W:Nat->Nat->St->Hp->Prop,(∃m,W 0 m z H)/\∀i m z H,W i m z H->
   ((AB d o kvs).stop i H/\D.nx z H)\/((AB d o kvs).go i H/\∃N:St->Hp->Prop,(∀u s,N u s->∃j,j<m/\W (i+1) j u s)/\∀x s,(AB d o kvs).yld i H x s->g x z s λw r=>l {D with nx:=N,ct:=N,bk:=D.nx} w r):=by
 refine#[λi m z H=>m=kvs.length-i/\i<=kvs.length/\Pv i z H,#[kvs.length,by simp,pJ _,h],?_];rintro i m z H ⟨rfl,Y,p⟩;have q:=c i z H Y p
 by_cases n:i<kvs.length
 ·refine .inr #[#[q,n],Pv<|i+1,λu s U=>#[kvs.length-(i+1),sN _ _ n,rfl,n,U],λx s y=>?_];obtain⟨e,kv,Q,M⟩:=y;subst e M;show a i kv z _ Q p
 ·have e:i=kvs.length:=by lia
  subst e;show .inl #[#[q,nH _],hd z H p]
def mK.turnedNew{ch:lS lU}{o:HO}{h':ma}{t':Nat}(I:mK X h z H s)(l:∀b∈ch,sV X h H b)(k:∀b u,b∉ch->s.heap.get? b=some u->h'.get? b=some u)
  (new:Yb X.prog X.w (mM H #v[s] o) h' #v[s] o):mK X h z (mM H #v[s] o) {s with heap:=h',toks:=t'}:=by
 have w:H #v[s]=none:=I.fresh;have j:∀b u,s.heap.get? b=some u->b≠#v[s]:=λb u e=>nU<|nQ e
 have tQ:∀b u,H b=some u->b∉ch:=λb u e y=>by rw[(l b y).1]at e;cases e
 refine I.step (g':=s.gens) (d':=s.drawn) (ch:=ch) (λb p=>?_) (λb o _ _ x e _=>k b o x e) (λb o _ _ x e _=>#[o.slots,k b o x e]) (λb o _ e n=>by rw[Zd (j b o e)];show n)
  (λb o x e=>#[o,k b o x e]) (λb g e=>by rw[Zd (Zf e w)];show e) (λb i u e=>by rw[Zd (Zf e w)];show e) (λb r e=>#[#[],by rw[Zd (Zf e w),e];simp]) (λm d=>?_) (λb u e=>?_) I.bare
 ·obtain⟨a,r,Y,q,n,c⟩:=l b p;show#[q,r,n,c]
 ·obtain⟨i,q,n,c,r⟩:=d;show#[i,q,n,k _ i (λy=>(l _ y).2.1 rfl) c,r]
 ·by_cases p:b=#v[s]
  ·subst p;rw[Zc]at e;cases e;show new
  ·rw[Zd p]at e;refine(I.hok b u e).stay (λc v x q=>k c v ?_ q) (λc q=>by rw[Zd (Zf q w)];show q) λc g q=>by rw[Zd (Zf q w)];show q
   rcases x with y|y
   ·rw[y];show tQ b u e
   ·show tQ c _ y
def zB(K:lY)(l:lU):It :=
 #[λi H=>∃z x,SqL K H l z/\z[i]? =some x,λi H x w=>∃p y,x=.ref p/\H p=none/\w=mM H p (.tup [.int (i:Nat),y])/\∀z,SqL K H l z->z[i]? =some y,λi H=>∃z,SqL K H l z/\z.length<=i]
def Zxx{P:mh}{w:md}{K:lY}{S0:lS me}{x1:Nat}{pos:Pos}{l:lU}(e it:lU)(B:e≠it) :
  ut P w K (.Tuple S0 x1 pos) (zB K l) [e,it] e (λi h=>(∃r,IsEnum h e it (i:Nat) r)/\h.IsListIter it l i) where
 mem:=by simp
 obj:=λi h st b n=>by
  obtain⟨⟨r,he⟩,j⟩:=st;rcases nV.mp n with rfl|n
  ·show#[_,he,λv y=>nomatch y]
  ·have q:b=it:=by simpa using n
   subst q;obtain⟨o,e,c,d⟩:=j;show#[o,e,λv y=>by rw[d]at y;cases y]
 keep:=λi h A st k=>by
  obtain⟨⟨r,he⟩,j⟩:=st;show#[#[r,k e (by simp) _ he],j.at λo q=>k it (by simp) o q]
 item:=by
  intro X U Q N hc i c7 s z H E I a st M;subst U Q N;obtain⟨⟨r,he⟩,j⟩:=st;obtain⟨xs,x,Y,L⟩:=M;obtain⟨c8,J,p,hz⟩:=I.list Y;obtain⟨u,hu,ru⟩:=J.get L;refine wpAny_pyNext_enum_item he j p.isList (x:=u) (by simpa using hu) B λA ho U8 ht hsz kk=>?_
  refine#[_,rfl,wpAny_letOwnedTupleGo_enum ho λG D C=>?_];have T8:e<#v[s]:=nQ he;have D5:it<#v[s]:=let⟨o,q,_⟩:=j;nQ q;have k2:∀b v,b∉[e,it]->s.heap.get? b=some v->G.get? b=some v:=λb v n q=>by
   have b1:b≠e:=λy=>n (by simp[y])
   have b2:b≠it:=λy=>n (by simp[y])
   show(C.2 b b1).trans (kk b v b1 b2 q)
  have g:G.get? #v[s]=some {cls:=.type "tuple",data:=.seq (List.toArray [.int i s.toks,u])}:=(C.2 _<|xA T8).trans ht;have new:Yb X.prog X.w (mM H #v[s] (.tup [.int (i:Nat),x])) G #v[s] (.tup [.int (i:Nat),x]) :=
   #[sz (by simp),[.int i s.toks,u],.cons #[_,rfl]<|.cons ru .nil,#[_,g,rfl,_,rfl]]
  refine#[.ref #v[s],_,I.turnedNew (t':=s.toks+1) a k2 new,rfl,#[_,x,rfl,I.fresh,rfl,λc d=>by rw[I.list_inj d Y];show L],#[#[_,D],?_],λb n=>?_]
  ·show U8.at λo q=>(C.2 it B.symm).trans q
  ·rw[Zd ?_]
   ·show(a b n).1
   ·rcases nV.mp n with rfl|n
    ·show nU T8
    ·have q:b=it:=by simpa using n
     subst q;show nU D5
 done:=by
  intro X U Q N hc i c7 s z H E I a st M;subst U Q N;obtain⟨⟨r,he⟩,j⟩:=st;obtain⟨xs,Y,L⟩:=M;obtain⟨c8,J,p,hz⟩:=I.list Y;obtain⟨f0,f1,d,f3,f4,f5⟩:=a it (by simp);have hl:=J.length;show wpAny_pyNext_enum_end (I.ok.hd hc) he j p.isList (by simp;lia) λA eb=>#[rfl,I.turned (t':=s.toks) (λb o n e=>eb b o n e) f0 f1 f3 f4 f5]
 self:=λ_ _ _ _ _ st h=>by
  obtain⟨⟨r,he⟩,_⟩:=st;show wpAny_pyIter_enum he h
inductive Jb(K:Frag)(R:It->Hp->Prop)(H:Hp):List V->Prop
 | mk {l xs}:SqL K H l xs->R (zB K l) H->Jb K R H [.ref l]
def Vb(K:lY)(y:TA):TI:=λz H R=>y z H λx w=>Jb K R w x
def Ao{X:Cx}{j:lS me}{i:Nat}{x:Pos}{a:me}{r:TA}{p pos:Pos}(g:Gl X "enumerate")(d:X.mg "enumerate"=none)(c:PA X [a] r)(Y:starEach [a] X.env=[(false,eval a X.env)]:=by rfl) :
  PI X (.Tuple j i x) (.Call (.Name "enumerate" p) [a] [] pos) (Vb X.K r):=by
 intro o s z H R I h;refine Call_<|ww I g d boot_enumerate<|yH (ng (c pos o s z H _ I h) λu s1 ⟨l,n,y,U,Q⟩=>?_) Y rfl;obtain@⟨l,u,N,q⟩:=Q;obtain⟨u,rfl,M⟩:=Wz U;cases M;obtain⟨u,l,L,e⟩:=y.list N;refine call_enumerate_list L.isList λJ he G E D=>wpAny_pyIter_enum he ?_
 have C:mK X o z n {s1 with heap:=J}:=y.kept (t':=s1.toks) D;refine#[#v[s1]+1,[#v[s1]+1,#v[s1]],_,_,n,rfl,C,Zxx _ _<|Nat.succ_ne_self _,#[#[_,he],G],λb w=>?_,q];rcases nV.mp w with rfl|w
 ·show y.fpOk (sQ _)<|y.hok.fresh<|sQ _
 ·have e:b=#v[s1]:=by simpa using w
  subst e;show y.fpOk (nH _)<|y.hok.fresh<|nH _
def AV{K:lY}{l:lU}{xs:lS V}{g:TG}{j:TS}{D:pV}{z:St}{H:Hp}(Pv:Nat->St->Hp->Prop)(c:Pv 0 z H)(Y:∀i z H,i<=xs.length->Pv i z H->SqL K H l xs)
  (U:∀i x z H,xs[i]? =some x->Pv i z H->∀p r,mF H r->H p=none->r p=some (.tup [.int (i:Nat),x])->g (.ref p) z r λw o=>j {D with nx:=Pv<|i+1,ct:=Pv<|i+1,bk:=D.nx} w o) (hd:∀z H,Pv xs.length z H->D.nx z H) :
  ∃W:Nat->Nat->St->Hp->Prop,(∃m,W 0 m z H)/\∀i m z H,W i m z H->
   ((zB K l).stop i H/\D.nx z H)\/((zB K l).go i H/\∃N:St->Hp->Prop,(∀u s,N u s->∃h,h<m/\W (i+1) h u s)/\∀x s,(zB K l).yld i H x s->g x z s λw o=>j {D with nx:=N,ct:=N,bk:=D.nx} w o):=by
 refine#[λi m z H=>m=xs.length-i/\i<=xs.length/\Pv i z H,#[xs.length,by simp,pJ _,c],?_];rintro i m z H ⟨rfl,Q,p⟩;have q:=Y i z H Q p
 by_cases n:i<xs.length
 ·refine .inr #[#[xs,xs[i],q,oE n],Pv<|i+1,λu s M=>#[xs.length-(i+1),sN _ _ n,rfl,n,M],λx s y=>?_];obtain⟨a,y,e,d,L,J⟩:=y;subst e L;show U i y z H (J xs q) p a _ (mF.new d) d Zc
 ·have e:i=xs.length:=by lia
  subst e;show .inl #[#[xs,q,nH _],hd z H p]
def zi(d:lU)(o:Obj)(kvs:lS (nj×V)):It :=
 #[λi H=>H d=some (.frz o<|.dK kvs)/\i<kvs.length,λi H x z=>∃p kv,x=.ref p/\H p=none/\kvs[i]? =some kv/\z=mM H p (.tup [kV kv.1,kv.2]),λi H=>H d=some (.frz o<|.dK kvs)/\kvs.length<=i]
def Uj{P:mh}{w:md}{K:lY}{S0:lS me}{x1:Nat}{pos:Pos}{d:lU}{o:Obj}{kvs:lS (nj×V)}{vs:lS (nj×lV)}{ep:Nat}(it:lU)(M:KV kvs vs)
  (L:∀h:ma,h.get? d=some o->h.DictAt (Zy P w) d vs ep):ut P w K (.Tuple S0 x1 pos) (zi d o kvs) [it] it (λi h=>∃ok r,IsItemIter h it d i vs.length ep ok r) where
 mem:=by simp
 obj:=λi h st b x=>by
  have e:b=it:=by simpa using x
  subst e;obtain⟨ok,r,e⟩:=st;show#[_,e,λv y=>nomatch y]
 keep:=λi h J st k=>by
  obtain⟨ok,r,e⟩:=st;show#[ok,r,k it (by simp) _ e]
 item:=by
  intro X j g c G i c7 s z H E I l st a;subst j g c;obtain⟨ok,r,p⟩:=st;obtain⟨Y,D⟩:=a;have U:s.heap.get? d=some o:=(I.hok d _ Y).1;obtain⟨u,hu,ru⟩:=M.get (i:=i) (kv:=kvs[i]) (by simp[D]);refine wpAny_pyNext_items_item (knd:=Zy X.prog X.w) p (L _ U) hu λkey J J6 ho ht hsz kk=>?_
  refine#[_,rfl,wpAny_letOwnedTupleGo_items ho λQ N C=>?_];have B:it<#v[s]:=nQ p;have k2:∀b v,b∉[it]->s.heap.get? b=some v->Q.get? b=some v:=λb v x q=>by
   have A:b≠it:=λy=>x (by simp[y])
   show(C.2 b A).trans (kk b v A q)
  have n:Q.get? #v[s]=some {cls:=.type "tuple",data:=.seq (List.toArray [key,u])}:=(C.2 _<|xA B).trans ht;have new:Yb X.prog X.w (mM H #v[s] (.tup [kV kvs[i].1,kvs[i].2])) Q #v[s] (.tup [kV kvs[i].1,kvs[i].2]) :=
   #[sz (by simp),[key,u],.cons (Gj J6)<|.cons ru .nil,#[_,n,rfl,_,rfl]]
  refine#[.ref #v[s],_,I.turnedNew (t':=s.toks) l k2 new,rfl,#[_,kvs[i],rfl,I.fresh,by simp[D],rfl],#[_,_,N],λb x=>?_];have e:b=it:=by simpa using x
  subst e;rw[Zd (nU B)];show(l _ x).1
 done:=by
  intro X j g c G i c7 s z H E I l st a;subst j g c;obtain⟨ok,r,p⟩:=st;obtain⟨Y,L9⟩:=a;obtain⟨f0,f1,f2,f3,f4,f5⟩:=l it (by simp);have U:s.heap.get? d=some o:=(I.hok d _ Y).1;have hl:=KV.length M;show wpAny_pyNext_items_end (knd:=Zy X.prog X.w) (I.ok.hd G) p (L _ U) (uV<|by lia) λJ eb=>#[rfl,I.turned (t':=s.toks) (λb o x e=>eb b o x e) f0 f1 f3 f4 f5]
 self:=λ_ _ _ _ _ st h=>by
  obtain⟨ok,r,p⟩:=st;show PySem.W.kcp_self p h
def SC(X:Cx)(y:TE):TI:=λz H R=>y z H λx w=>HR X zi R w x
def AK{X:Cx}{Y:lS me}{U:Nat}{x j i:Pos}{o:me}{to:TE}(Q:PE X o to)(N:attributeBase o "items" X.env (eval o X.env)=eval o X.env:=by rfl)(M:(j.endLine ==i.line)=true:=by rfl) :
  PI X (.Tuple Y U x) (.Call (.Attribute o "items" j) [] [] i) (SC X to):=by
 intro g s z H R I h;refine Dq N M<|ng (Q g s z H _ I h) λv s1 ⟨y,L,r,J,G⟩=>?_;obtain@⟨d,p,hd,q⟩:=G;cases J;obtain⟨y,E,D,kv,w⟩:=wP r.hok hd;obtain⟨n,_,_,u,C,_⟩:=id w;obtain⟨y,c⟩:=Bg w u;refine#["dict","dict.items",yl,Px,PySem.F.type_dict_items,w.typeIs,λa e=>?_,vO rfl<|Cd ?_]
 ·cases e;show#[n,u,C.2.1]
 refine vC Px w.typeIs PySem.F.entry_dict_items (PySem.F.args_dict_items_1 _) (meets_dict_items (Zy X.prog X.w) d E) #[#[D,w],?_];have B:=r.freeze hd rfl u;have l:mK X g z (mM L d<|.frz n<|.dK p) {s1 with heap:=s1.heap.push {cls:=.type "dict_items",data:=.fields (List.toArray [.ref d])}}:=B.kept (t':=s1.toks) λb o e=>nS _ e
 refine wpAny_pyIter_items (knd:=Zy X.prog X.w) (d:=d) #[_,oG _ rfl,rfl,rfl] (c _<|nS _ u) ?_;refine#[_,[_],_,_,_,rfl,l.kept (t':=s1.toks) λb o e=>nS _ e,Uj _ kv c,#[_,_,oG _ rfl],λb A=>?_,q n #[r.notFrz hd (λ_ _ y=>nomatch y),λ_ y=>nomatch y]];have e:=pQ.mp A;subst e;show l.fpOk (nH _)<|l.hok.fresh<|nH _
def Jv{d:lU}{o:Obj}{kvs:lS (nj×V)}{g:TG}{j:TS}{D:pV}{z:St}{H:Hp}(Pv:Nat->St->Hp->Prop)(Y:Pv 0 z H)(U:∀i z H,i<=kvs.length->Pv i z H->H d=some (.frz o<|.dK kvs))
  (Q:∀i kv z H,kvs[i]? =some kv->Pv i z H->∀p r,mF H r->H p=none->r p=some (.tup [kV kv.1,kv.2])->g (.ref p) z r λw n=>j {D with nx:=Pv<|i+1,ct:=Pv<|i+1,bk:=D.nx} w n) (hd:∀z H,Pv kvs.length z H->D.nx z H) :
  ∃W:Nat->Nat->St->Hp->Prop,(∃m,W 0 m z H)/\∀i m z H,W i m z H->
   ((zi d o kvs).stop i H/\D.nx z H)\/((zi d o kvs).go i H/\∃N:St->Hp->Prop,(∀u s,N u s->∃h,h<m/\W (i+1) h u s)/\∀x s,(zi d o kvs).yld i H x s->g x z s λw n=>j {D with nx:=N,ct:=N,bk:=D.nx} w n):=by
 refine#[λi m z H=>m=kvs.length-i/\i<=kvs.length/\Pv i z H,#[kvs.length,by simp,pJ _,Y],?_];rintro i m z H ⟨rfl,M,p⟩;have q:=U i z H M p
 by_cases l:i<kvs.length
 ·refine .inr #[#[q,l],Pv<|i+1,λu s L=>#[kvs.length-(i+1),sN _ _ l,rfl,l,L],λx s y=>?_];obtain⟨a,kv,e,c,J,I⟩:=y;subst e I;show Q i kv z H J p a _ (mF.new c) c Zc
 ·have e:i=kvs.length:=by lia
  subst e;show .inl #[#[q,nH _],hd z H p]
def vh(K:lY)(H:Hp)(x y:V):Prop:=(tz x=true/\tz y=true/\rM x y=true)\/∃n t,n<=60/\Im K H n t x/\Im K H n t y
def vh.eqAt(I:mK X j z H s)(h:vh X.K H x y)(w:Yd x u)(r:Yd y v)(i:A.units+60<cLine):SeqAt.EqAt A s u v true:=by
 rcases h with⟨q,p,e⟩|⟨n,t,g,o,l⟩
 ·show Yh (zS w r q p) e
 ·show Yh (Im.eqAt I n A o l w r<|by lia)<|nZ rfl
def Kw(K:lY):R2:=λx y H Q=>∃a b z w,x=.ref a/\y=.ref b/\Rd H a (.dK z)/\Rd H b (.dK w)/\z.length=w.length/\(∀kv∈z,∃v,Y7 w kv.1=some v/\vh K H kv.2 v)/\Q (.bl true) H
def Sm(hu:X.A.units+64<cLine):og X (compareOp .Eq) (Kw X.K):=by
 intro c7 s z H x y v u Q I N w h;obtain⟨a,b,ka,M,rfl,rfl,L,J,G,E,q⟩:=h;cases N;cases w;obtain⟨_,D,C,g,B⟩:=qC I.hok L;obtain⟨_,sb,e,d,db⟩:=qC I.hok J;have la:=KV.length g;have lb:=KV.length d;have E9:∀{o:lS (nj×V)}{n:lS (nj×lV)},KV o n->(∀kv∈o,∃v,Y7 M kv.1=some v/\vh X.K H kv.2 v)->PySem.W.KeqHits X.A.in1 s e n true:=by
  intro o n r
  induction r with
  | nil=>intro _;show .nil
  | cons r t ih =>
   rename_i p q l m;intro c;obtain⟨e1,r2⟩:=r;obtain⟨v,j,i⟩:=c p oM;have Y:=KV.val d p.1;rw[j]at Y;obtain⟨y,U,w⟩:=pS.some_of Y;rw[e1]at U;have:=FP (k:=q.1) (v:=q.2) U (i.eqAt (A:=X.A.in1) I r2 w<|by rw[Xu];lia)<|ih λkv B8=>c kv<|pe _ B8;simpa using this
 refine PySem.W.keq_eq (knd:=Zy X.prog X.w) D sb B db (by lia) (λ_=>E9 g E) #[.bl true,H,I,?_,q];rw[show(C.length ==e.length)=true by rw[<-la,<-lb,G];simp]
 rfl
def Ax(K:lY):R2:=λx y H Q=>Pj x y H Q\/BE K false x y H Q\/Kw K x y H Q
inductive DT(K:Frag)(H:Hp)(Q:VK):List V->Prop
 | mk {p ys}:(SqL K H p ys\/SqT K H p ys)->Q (.int ys.length) H->DT K H Q [.ref p]
def Qa(K:lY):lS V->Hp->VK->Prop:=λx H Q=>DT K H Q x\/(∃z,x=[.str z]/\z.length<=sizeLine/\Q (.int z.length) H)\/∃a y,x=[V.ref a]/\H a=some (.dK y)/\Q (.int y.length) H
def rY(K:lY):V->lX Int->lX Int->Hp->VK->Prop:=λx lo z H Q=>PQ K x lo z H Q\/Ma K x lo z H Q\/Qt x lo z H Q
def CV(z:Y8 k X.A):og X (compareOp .Eq) (Ax X.K):=Pm.or<|(UN z.units).or (Sm z.units)
def Yhy:Xd X (.builtin "len") (Qa X.K):=(TL.imp λz H Q (h:DT X.K H Q z)=>by
 obtain@⟨p,y,x,w⟩:=h;show#[p,y,rfl,x,w]).or (YQ.or TH)
def sI:rQ X (rY X.K):=Ycn.or<|RL.or Uq
inductive OR(K:Frag)(H:Hp)(Q:VK):List V->Prop
 | mk {p ys}:(SqL K H p ys\/SqT K H p ys)->pK H (.lst ys) Q->OR K H Q [.ref p]
def Av(K:lY):lS V->Hp->VK->Prop:=λz H Q=>OR K H Q z
def CK:Xd X (.type "list") (Av X.K):=XU.imp λu H Q h=>by
 obtain@⟨p,z,y,x⟩:=h;show#[p,z,rfl,y,λl w=>x.at l w]
inductive Ou(H:Hp)(Q:VK):List V->Prop
 | mk {p kvs}:Rd H p (.dK kvs)->pK H (.dK kvs) Q->Ou H Q [.ref p]
def EG:lS V->Hp->VK->Prop:=λz H Q=>Ou H Q z
def ML:Xd X (.type "dict") EG:=by
 intro n s z H l j Q I r h;obtain@⟨p,y,hd,q⟩:=h;obtain⟨u,rfl,x⟩:=Wz r;cases x;show VR I hd λa i w o=>#[.ref a,_,o,rfl,q.at a w]
def Ybu:TE:=λ_ H Q=>pK H (.dK []) Q
def Ww:PE X (.Dict [] [] pos) Ybu:=λy s z H Q I h=>UG y s z H Q I λp x=>h.at p x
def Tv:TE:=λ_ H Q=>pK H (.dT []) Q
def Qw:PE X (.Dict [] [] pos) Tv:=λy s z H Q I h=>YB y s z H Q I λp x=>h.at p x
def NB(K:lY):lS V->Hp->VK->Prop:=λz H Q=>∃(p:lU)(bs:lS Bool),z=[.ref p]/\SqL K H p (bs.map V.bl)/\Q (.bl<|bs.all id) H
def RD(z:X.calm=true):Xd X (.builtin "all") (NB X.K):=VH z
inductive IV(K:Frag)(H:Hp)(Q:VK):List V->Prop
 | mk {x c b t}:Xl K H x t->((∃n,c=.ty n/\kitOne K t (.type n)=some b)\/∃a,c=.ref a/\kitOne K t (.ref a)=some b)->Q (.bl b) H->IV K H Q [x,c]
def yW(K:lY):lS V->Hp->VK->Prop:=λz H Q=>IV K H Q z
def Cf:Xd X (.builtin "isinstance") (yW X.K):=RV.imp λu H Q h=>by
 obtain@⟨x,c,b,t,z,y,w⟩:=h;show#[x,c,b,t,rfl,z,y,w]
def Ue{fr:St->St}
  (hN:X.N.Nodup) (U8:X.N[i]? =some y) (hy:vd X.env.scope y) (hc:X.calm=true) (S:Wh X scope M E fr) (hi:PI X tg u7 wi) (hg:∀s H C ex,PG (Y1 X scope M E s H C ex) tg g) (hf:∀s H C ex,PF (Y1 X scope M E s H C ex) L3 tf)
  (he:∀s H C ex,PE (Y1 X scope M E s H C ex) N6 te) (hs:∀x,foldedSetIterable u7 X.env x=pure x:=by intro _;rfl)
  (hsw:swapsWith (.ListComp N6 [#[tg,u7,L3,0]] scope pos) (some<|.Name y py) spos.line X.env=pure true:=by rfl) (N1:X.fn y=true\/X.env.scope.names.lookup y=some .local:=by first|show .inl rfl|show .inr rfl|assumption) :
  PS X (.Assign [.Name y py] (.ListComp N6 [#[tg,u7,L3,0]] scope pos) spos) (zL (Br wi fr g tf te)<|qX i):=by
 intro c7 s z H D I h;rw[exec_Assign_Name_used _ _ _ _ hsw];refine mT<|zu<|mT ?_;change wpAny _ X.A (do let _ <-comprehension (.ListComp N6 [⟨tg,u7,L3,0⟩] scope pos) scope X.env _ (newList []) false (eval u7 X.env) (some (assign (.Name y py) X.env))) _ _ s;refine mT<|pT (LC (use:=some<|assign (.Name y py) X.env) (Q:=λ_ A=>∃L a,mK X c7 L a A/\D.nx L a) rfl hs S.clos S.kind S.names<|ng (hi c7 s z H _ I h) λv d u=>ng u λr s2 h2=>?_) (λ_ A u=>nI<|nI u) λ_ _ e=>e;obtain⟨it,Y,tn,J,U,e,I2,T,d7,f2,q⟩:=h2;subst e;refine vJ<|Dp S.cell (by intro y hy;simp at hy) (λl P6 E3=>?_) S.kind;dsimp only at P6 E3 ⊢;generalize hP:s2.heap.push {cls:=.type "list",dict:=none,data:=.seq ([]:lS lV).toArray}=P at P6 E3 ⊢;have hPz:P.objs.size=#v[s2]+1:=by rw[<-hP,tN]
 have G:#v[s2]<P.objs.size:=by rw[hPz];show Ay _
 have N7:∀b∈Y,∃o,s2.heap.get? b=some o:=λb j=>let⟨o,e,_⟩:=T.obj _ _ d7 b j;#[o,e]
 have N8:∀b,b<#v[s2]->b≠P.objs.size:=λb j=>nU<|rj j G
 have old:∀b o,s2.heap.get? b=some o->l.get? b=some o:=λb o e=>E3.extBut b o (N8 b<|nQ e)<|nS _<|hP ▸ nS _ e
 have D1:l.get? #v[s2]=some {cls:=.type "list",data:=.seq ([]:lS lV).toArray 0}:=E3.extBut _ _ (nU G)<|nS _<|hP ▸ oG _ rfl;have fD:U #v[s2]=none:=I2.hok.fresh<|nH _;obtain⟨W,⟨m0,w0⟩,turn⟩:=q #v[s2] fD;have hz:l.objs.size<=P.objs.size+1:=by
  have e:=E3.1;rw[tN]at e;show wm e
 have U2:tn 0 l:=T.keep _ _ _ d7 λb j o e=>old b o e
 have E8:∀{y7:lS (lU×Obj)}{a:Hp},(∀p∈y7,p.1∉Y)->(∀b∈Y,a b=none)->∀b∈Y,sV (Y1 X scope M E s2 U P.objs.size Y) y7 a b:=λ{y7 a} hp hn b j=>by
  obtain⟨o,e⟩:=N7 b j;obtain⟨_,f1,f2',u,f4,r⟩:=f2 b j;refine#[hn b j,N8 b<|nQ e,λw=>?_,.inl j,λx c h=>f4 x c<|S.sub x c h,λp E4 w=>?_]
  ·rcases nV.mp (I2.stkSub b w)with q|q
   ·show f1 q
   ·show f2' q
  ·have u:p∈y7:=by simpa[Y1]using E4
   show hp p u (by rw[w];show j)
 have B:∀s3:lW,s3={s2 with heap:=l,toks:=s2.toks+([]:lS (lT×lV)).length}->
   codeAny (model X.prog X.w) X.A (.compLoop (.ListComp N6 [#[tg,u7,L3,0]] scope pos) 0 (.ref it) (.ref #v[s2])<|compEnvC scope M P.objs.size X.env) (compPost (model X.prog X.w) X.A X.xe (some<|assign (.Name y py) X.env) (λ_ A=>∃L a,mK X c7 L a A/\D.nx L a) (.ref #v[s2]) P.objs.size) s3:=by
  rintro s3 rfl;have I3:mK (Y1 X scope M E s2 U P.objs.size Y) [] (fr z) (mM U #v[s2] (.lst [])) {s2 with heap:=l,toks:=s2.toks+([]:lS (lT×lV)).length}:=Km I2 S G rfl f2 N7 old D1 P6 hz;refine JU (λn A=>∃i ys a,mK (Y1 X scope M E s2 U P.objs.size Y) [] (fr z) a A/\tn i A.heap/\(∀b∈Y,a b=none)/\W i n ys a) ?_ m0 #[0,[],_,I3,U2,λb j=>?_,w0]
  ·rintro n s3 ⟨i,ys,J,I3,w5,fr3,w3⟩;rcases turn i n ys J w3 with⟨stop,qn⟩|⟨go,N,hN,step⟩
   ·refine ng (T.done (Y1 X scope M E s2 U P.objs.size Y) rfl rfl rfl hc i [] s3 (fr z) J _ I3 (E8 (by simp) fr3) w5 stop) λr s4 ⟨hr,c⟩=>?_
    subst hr;obtain⟨m4,hn4,_⟩:=c.loc;obtain⟨oC,esC,epC,hoC,d⟩:=id hn4;have J0:mK X c7 z J s4:=Pr I2 G f2 c (h':=s4.heap) #[rfl,λ_ _=>rfl];have big:#v[s2]<=P.objs.size:=uI G;have fC:J P.objs.size=none:=c.free;have u:=I2.fpOk big fC;have J1:mK X (c7++[(P.objs.size,oC)]) z J s4:=J0.pins_of λp hp=>by
     rcases oA.mp hp with hp|hp
     ·show J0.pin p<|qm _ hp
     ·have e:p=(P.objs.size,oC):=by simpa using hp
      subst e;show#[hoC,fC,u.2.1,u.2.2.1,λv w=>by rw[d.1]at w;cases w]
    refine ng (Hw hN U8 hy N1 (X:=X) (pos:=py) _ s4 z J (.ref #v[s2]) (.ref #v[s2]) _ J1 rfl qn) λ_ s5 ⟨σ5,H5,I5,q5⟩=>?_
    obtain⟨p1,p2,p3,p4,p5⟩:=I5.pin (P.objs.size,oC) (qm _<|qm _<|by simp);show#[m4,#[oC,esC,epC,p1,d],λh' N0=>#[σ5,H5,(I5.unpinned).turned (t':=s5.toks) (it:=P.objs.size) (λb o j e=>(N0.2 b j).trans e) p2 p3 u.2.2.2.1 u.2.2.2.2.1 u.2.2.2.2.2,q5]]
   ·refine ng (T.item (Y1 X scope M E s2 U P.objs.size Y) rfl rfl rfl hc i [] s3 (fr z) J _ I3 (E8 (by simp) fr3) w5 go) λr s4 ⟨u,hr,h4⟩=>?_
    subst hr;refine ng h4 λ_ s5 h9=>?_
    obtain⟨x,H5,I5,r5,y5,z8,fr5⟩:=h9;have I5':=I5.pinned (E8 (by simp) fr5)<|T.obj _ _ z8;refine ng (hg s2 U P.objs.size Y _ s5 (fr z) H5 x u _ I5' r5<|step x H5 y5) λ_ s6 ⟨σ6,H6,I6,kp,q6⟩=>?_
    refine ng (hf s2 U P.objs.size Y _ s6 σ6 H6 _ I6 q6) λok s7 ⟨H7,I7,q7⟩=>?_
    have C8:∀{σ8:St}{H8:Hp}{s8:lW}{c:lS V},X3 (fr z) σ8->mK (Y1 X scope M E s2 U P.objs.size Y) ([]++xL Y s5.heap) σ8 H8 s8->N c H8->
      ∃m,m<n/\∃i ys a,mK (Y1 X scope M E s2 U P.objs.size Y) [] (fr z) a s8/\tn i s8.heap/\(∀b∈Y,a b=none)/\W i m ys a:=λ{σ8 H8 s8 c} kp8 I8 n8=>by
     obtain⟨m',hm,w8⟩:=hN c H8 n8;refine#[m',hm,i+1,c,H8,(I8.unpinned).weak (by rw[I8.len];show S.len z I2.len) kp8,T.keep _ _ _ z8 λb j o e=>(I8.pin (b,o)<|qm _<|qm _<|yY j e).1,λb j=>?_,w8];obtain⟨o,e,d⟩:=T.obj _ _ z8 b j;show(I8.pin (b,o)<|qm _<|qm _<|yY j e).2.1
    cases ok with
    | false=>show C8 kp I7 q7
    | true =>
     refine ng (he s2 U P.objs.size Y _ s7 σ6 H7 _ I7 q7) λuy s8 h9=>?_
     obtain⟨y,H8,I8,r8,d,hz8,q8⟩:=h9;show ng (FT _ s8 σ6 H8 (.ref #v[s2]) [y] (.ref #v[s2]) [uy] (λ_ H9=>N (ys++[y]) H9) I8 rfl (.cons r8 .nil) #[d,hz8,q8]) λ_ s9 ⟨v9,H9,I9,_,q9⟩=>C8 kp I9 q9
  ·change mM U #v[s2] (.lst []) b=none;obtain⟨o,e⟩:=N7 b j;rw[Zd (nU<|nQ e)];show(f2 b j).1
 show codeAny_compStart_list (B _ rfl)<|T.self X.A 0 _ _ _ U2<|B _ rfl
def AU{X:Cx}{K:lY}{z:lS me}{k:Nat}{pos:Pos}{t:xz}{n:Nat}(y:X.K=K)(x:X.calm=true)(h:yx X z t)
  (w:(assignEach z X.env).length=n:=by rfl) (u:(assignEach z X.env).findIdx? (·.1)=none:=by rfl):PG X (.Tuple z k pos) (EO K n t):=y ▸ tL x h w u
def Yei:lS V->Hp->VK->Prop:=λy H Q=>∃p z,y=[.ref p]/\Rd H p (.dK z)/\pK H (.lst<|z.map λkv=>kV kv.1) Q
theorem HI :∀{kvs:lS (nj×V)}{z:lS (nj×lV)}{vs:lS lV},KV kvs z->vs.length=z.length->(∀(j:Nat)(v:lV),vs[j]? =some v->∃(k:nj)(x:lV),z[j]? =some (k,x)/\(Zy P w).is k v=true)->Z8 (kvs.map λkv=>kV kv.1) vs
 | [],_,[],.nil,_,_=>.nil
 | [],_,_ ::_,.nil,h,_=>by simp at h
 | p ::kvs,q ::z,[],.cons r t,h,_=>by simp at h
 | p ::kvs,q ::z,v ::vs,.cons r t,h,y=>by
  obtain⟨k,x,e,s⟩:=y 0 v rfl;simp only[List.getElem?_cons_zero,Option.some.injEq]at e;subst e;rw[oh];refine .cons ?_ (HI (P:=P) (w:=w) t (by simpa using h) λj u o=>by simpa using y (j+1) u (by simpa using o));rw[r.1];show Gj s
def Yfx(l:X.calm=true):Xd X (.type "list") Yei:=by
 intro E s z H D C Q I r h;obtain⟨p,y,rfl,hd,q⟩:=h;obtain⟨u,rfl,i⟩:=Wz r;cases i;obtain⟨g,lo,d,kv,c⟩:=qC I.hok hd;obtain⟨a,Y⟩:=c.dictAt;have B:=KV.length kv;refine PySem.W.kdl_call (PySem.W.kdl_dict (knd:=Zy X.prog X.w) (kvs:=d) (ep:=a) lo) (I.ok.hd l) Y (by lia) λU N x M L J n=>?_
 have G:Z8 (y.map λkv=>kV kv.1) x.toList:=HI (P:=X.prog) (w:=X.w) kv (by rw[ub];show n.1) λj v e=>n.2 j v (by rw[<-wj];show e)
 show#[.ref #v[s],_,I.laid (o:=.lst<|y.map λkv=>kV kv.1) (t':=N) L (nH _) (show Yb X.prog X.w _ U _ (.lst _)from#[by rw[mO];show g,x.toList,M,G,by rw[J]]),rfl,q.at _<|I.hok.fresh<|nH _]
def MW(K:lY):R2:=λx y H Q=>∃a b z w,x=.ref a/\y=.ref b/\Rd H a (.dK z)/\Rd H b (.dK w)/\z.length=w.length/\(∀kv∈z,∃v,Y7 w kv.1=some v/\vh K H kv.2 v)/\Q (.bl false) H
def RY(hu:X.A.units+64<cLine):og X (compareOp .NotEq) (MW X.K):=by
 intro c7 s z H x y v u Q I N w h;obtain⟨a,b,ka,M,rfl,rfl,L,J,G,E,q⟩:=h;cases N;cases w;obtain⟨_,D,C,g,B⟩:=qC I.hok L;obtain⟨_,sb,e,d,db⟩:=qC I.hok J;have la:=KV.length g;have lb:=KV.length d;have E9:∀{o:lS (nj×V)}{n:lS (nj×lV)},KV o n->(∀kv∈o,∃v,Y7 M kv.1=some v/\vh X.K H kv.2 v)->PySem.W.KeqHits X.A.in1 s e n true:=by
  intro o n r
  induction r with
  | nil=>intro _;show .nil
  | cons r t ih =>
   rename_i p q l m;intro c;obtain⟨e1,r2⟩:=r;obtain⟨v,j,i⟩:=c p oM;have Y:=KV.val d p.1;rw[j]at Y;obtain⟨y,U,w⟩:=pS.some_of Y;rw[e1]at U;have:=FP (k:=q.1) (v:=q.2) U (i.eqAt (A:=X.A.in1) I r2 w<|by rw[Xu];lia)<|ih λkv B8=>c kv<|pe _ B8;simpa using this
 refine PySem.W.keq_ne (knd:=Zy X.prog X.w) D sb B db (by lia) (λ_=>E9 g E) #[.bl false,H,I,?_,q];rw[show(C.length ==e.length)=true by rw[<-la,<-lb,G];simp]
 rfl
def CB(K:lY)(neg:Bool):R2:=λx y H Q=>∃(p:lU)(n:Nat)(t:Tr)(z:lS Tr)(w:lS lU),y=.ref p/\SqL K H p (w.map V.ref)/\n<=60/\Im K H n t x/\Paired (Im K H n) z (w.map V.ref)/\Q (.bl<|if neg then !decide (t∈z)else decide (t∈z)) H
def uX(K:lY)(H:Hp)(n:Nat)(t:Tr)(u:lV):Bool:=match u with
 | .ref a=>@decide (Im K H n t<|.ref a) (Classical.propDecidable _)
 | _=>false
theorem Ey(I:mK X x z H s) :∀{ts:lS Tr}{as:lS lU}{us:lS lV},Paired (Im X.K H n) ts (as.map V.ref)->Z8 (as.map V.ref) us->us.any (uX X.K H n t)=decide (t∈ts)
 | [],[],_,_,v=>by rw[uB]at v;cases v;simp
 | [],a ::as,_,p,_=>by rw[oh]at p;cases p
 | t' ::ts,[],_,p,_=>by rw[uB]at p;cases p
 | t' ::ts,a ::as,us,p,v=>by
  rw[oh]at p v;cases p with
  | cons i p =>
   cases v with
   | cons r v =>
    cases r;rw[xF,Ey I p v,rF,An];simp only[uX,yJ,nV]
    constructor
    ·rintro(y|y)
     ·show .inl<|Im.inj I y i
     ·show .inr y
    ·rintro(y|y)
     ·show .inl<|y ▸ i
     ·show .inr y
theorem Gk(I:mK X h z H s)(w:A.units+n<cLine)(q:Im X.K H n t x)(o:Yd x l) :
  ∀{ts:lS Tr}{as:lS lU}{us:lS lV},Paired (Im X.K H n) ts (as.map V.ref)->Z8 (as.map V.ref) us->∀u∈us,SeqAt.EqAt A s u l (uX X.K H n t u)
 | [],[],_,_,v=>by rw[uB]at v;cases v;simp
 | [],a ::as,_,p,_=>by rw[oh]at p;cases p
 | t' ::ts,[],_,p,_=>by rw[uB]at p;cases p
 | t' ::ts,a ::as,us,p,v=>by
  rw[oh]at p v;cases p with
  | cons i p =>
   cases v with
   | cons r v =>
    cases r;intro u j;rcases nV.mp j with e|e
    ·subst e;refine Yh (Im.eqAt I n A i q rfl o w) ?_;simp only[uX,Ii];show#[λy=>y ▸ i,λy=>(Im.inj I y i).symm]
    ·show Gk I w q o p v u e
def Yfe(c:X.A.units+64<cLine):og X (compareOp .In) (CB X.K false):=by
 intro a s z H x y v u Q I j i h;obtain⟨p,n,t,w,Y,rfl,g,U,e,o,q⟩:=h;cases i;obtain⟨l,r,d,w⟩:=I.list g;refine SeqAt.in_listAt (uX X.K H n t) d.isList (λw p=>Gk I (by rw[Xu];lia) e j o r w<|by simpa using p) #[.bl _,H,I,rfl,?_];rw[show l.toArray.any (uX X.K H n t)=l.any (uX X.K H n t) by simp,Ey I o r];show q
def SX(c:X.A.units+64<cLine):og X (compareOp .NotIn) (CB X.K true):=by
 intro a s z H x y v u Q I j i h;obtain⟨p,n,t,w,Y,rfl,g,U,e,o,q⟩:=h;cases i;obtain⟨l,r,d,w⟩:=I.list g;refine SeqAt.notIn_listAt (uX X.K H n t) d.isList (λw p=>Gk I (by rw[Xu];lia) e j o r w<|by simpa using p) #[.bl _,H,I,rfl,?_];rw[show l.toArray.any (uX X.K H n t)=l.any (uX X.K H n t) by simp,Ey I o r];show q
def uj(K:lY):R2:=λx y H Q=>KU x y H Q\/BE K true x y H Q\/MW K x y H Q
def wC(z:Y8 k X.A):og X (compareOp .NotEq) (uj X.K):=TD.or<|(Yf0 z.units).or (RY z.units)
def Dk(K:lY):R2:=λx y H Q=>Aq K false x y H Q\/(∃a o,y=.ref a/\X0 H a x o/\Q (.bl o.isSome) H)\/(∃i j,x=.str i/\y=.str j/\Q (.bl (!(Builtin.Str.occurrences j i 0 j.length 1).isEmpty)) H)\/CB K false x y H Q
def Gn(z:Y8 k X.A):og X (compareOp .In) (Dk X.K):=Qi.or<|(Rm<|Xy z).or (Zw8.or<|Yfe z.units)
def FS(K:lY):R2:=λx y H Q=>Aq K true x y H Q\/(∃a o,y=.ref a/\X0 H a x o/\Q (.bl (!o.isSome)) H)\/CB K true x y H Q
def Lc(z:Y8 k X.A):og X (compareOp .NotIn) (FS X.K):=Ur.or<|(QN<|Xy z).or (SX z.units)
end L2
end
section
namespace L2
open PySem
def TZ(h mG:ma)(e:lU)(cls u:lV)(s:lX lU)(r:lV):Prop :=
 ∃z y T x w,h.get? e=some z/\z.cls=cls/\z.dict=s/\z.data=.fields y/\(y[0]? =some u/\y[2]? =some .none)/\y[1]? =some (.ref T)/\mG.get? T=none/\T≠e/\h.get? T=some x/\x.data=.fields w/\w[3]? =some r
def qd(mG:ma)(l:lS Env)(e:lU)(cls z:lV)(y:lX lU)(x:lV)(h:ma):Prop:=mG.StaysIn h/\mG.get? e=none/\h.FunFrames mG l/\TZ h mG e cls z y x
def VX(f:Array lV->Array lV)(o:Obj):(Obj.mapFields f o).dict=o.dict:=by
 obtain⟨c,d,z,y⟩:=o;cases z<;>rfl
def qd.there(x:qd mG l e cls r y q h):∃z,h.get? e=some z/\z.cls=cls/\z.dict=y/\∃vs,z.data=.fields vs:=by
 obtain⟨_,_,_,w,vs,_,_,_,he,u,s,hd,_⟩:=x;show#[w,he,u,s,vs,hd]
def qd.ctx(x:qd mG l e cls u s r h):∃z vs,h.get? e=some z/\z.data=.fields vs/\vs[2]? =some .none:=by
 obtain⟨_,_,_,y,vs,_,_,_,he,q,p,hd,w,_⟩:=x;show#[y,vs,he,hd,w.2]
section
variable {M:Model} {A:mi} {E:lV->lW->Prop} {s:lW} {mG:ma} {env:Env} {mD l:lS Env} {L e:lU} {oe:Obj} {vs:Array lV} {head a0 cls fl:lV} {dx:lX lU} {Q:Unit->lW->Prop}
def NT(G:A.frames=some (env ::mD))(r:s.heap.FunFrames mG (env ::mD))(D:env.frame=some L)(he:s.heap.get? e=some oe)(n:mG.StaysIn s.heap)(j:mG.get? e=none)(hd:oe.data=.fields vs)(hsz:1<vs.size)
  (i:vs[0]? =some a0/\vs[2]? =some .none) (h:∀h',qd mG (env ::mD) e oe.cls a0 oe.dict (rawInt L) h'->s.heap.UpToSlots h'->Q () {s with heap:=h'}) :
  wpAny M A (do let a <-frameOf env;let pl <-entryPlaceOf L hadNext;let b <-EntryCells.newEntry head a .none (rawInt L) .none pl;setField (.ref e) 1 b) Q E s:=by
 have off:e∉(env ::mD).filterMap (·.frame):=λz=>by
  obtain⟨_,o,q,w⟩:=r.mem z;rw[he]at q;cases q;show w vs hd
 refine mT<|wpAny_frameOf_fun G r D λg p=>mT<|wpAny_entryPlaceOf λpl d=>?_;unfold EntryCells.newEntry newFields;refine mT<|vJ ?_<|d.sizeOk5 _ _ _ _ _;have c:g.get? e=some oe:=by rw[p.2.1 e off];show he
 have Y:mG.StaysIn g:=λb o q=>by
  rw[p.2.1 b λz=>by rw[(r.mem z).1]at q;cases q];show n b o q
 generalize U:({cls:=.type "traceback",dict:=none,data:=.fields ([head,.ref L,.none,rawInt L,.none]++(if pl.isEmpty then List.replicate 6 Value.none else pl)).toArray}:Obj)=x;have N:(g.push x).get? e=some oe:=nS _ c;have J:g.objs.size≠e:=xA<|nQ c;have C:(g.push x).get? g.objs.size=some x:=oG g (by rw[<-U];rfl);refine Gr N hd hsz<|h _ ?_ ?_
 ·have I:=Cb hd (·.setIfInBounds 1 (Value.ref g.objs.size));have B:=CS (Obj.mapFields (·.setIfInBounds 1 (Value.ref g.objs.size))) N<|Do I;have t3:((g.push x).update e (Obj.mapFields (·.setIfInBounds 1 (Value.ref g.objs.size)))).get? g.objs.size=some x:=by rw[tW _ _ J.symm];show C
  have u:∀b o,b≠e->g.get? b=some o->((g.push x).update e (Obj.mapFields (·.setIfInBounds 1 (Value.ref g.objs.size)))).get? b=some o:=λb o nb q=>by
   rw[tW _ _ nb.symm];show nS _ q
  refine#[λb o q=>u b o (λz=>by rw[z,j]at q;cases q)<|Y b o q,j,r.of_keeps λb o q w=>?_,?_]
  ·obtain⟨H,z⟩:=p.2.2 b o q;refine#[_,u b _ (λy=>?_) z,rfl];rw[y,he]at q;cases q;show w vs hd
  ·refine#[_,_,g.objs.size,x,_,B,Obj.cls_mapFields _ _,VX _ _,I,?_,by simp[hsz],Y.fresh,J,t3,by rw[<-U],?_]
   ·show#[by rw[Pa (by lk)];show i.1,by rw[Pa (by lk)];show i.2]
   ·rcases d with rfl|⟨_,_,_,_,_,_,_,rfl⟩<;>simp
 ·intro b o q w;obtain⟨H,z⟩:=p.2.2 b o q;refine#[H,?_];change((g.push x).update e (Obj.mapFields (·.setIfInBounds 1 (Value.ref g.objs.size)))).get? b=_;rw[tW _ _ λy=>by rw[<-y,he]at q;cases q;show w vs hd];show nS _ z
def Uh(w:A.frames=some (env ::mD))(u:s.heap.FunFrames mG (env ::mD))(y:env.frame=some L)(he:s.heap.get? e=some oe)(z:mG.StaysIn s.heap)(r:mG.get? e=none)(hd:oe.data=.fields vs)
  (x:vs[1]? =some .none) (q:vs[0]? =some a0/\vs[2]? =some .none) (h:∀h',qd mG (env ::mD) e oe.cls a0 oe.dict (rawInt L) h'->s.heap.UpToSlots h'->Q () {s with heap:=h'}):wpAny M A (noteFrame (.ref e) env) Q E s:=by
 unfold noteFrame;simp only[y];refine mT<|xl he hd x ?_;rw[mV (by lk)];show NT w u y he z r hd (BF.mp x).1 q h
def NK(d:A.frames=some (env ::mD))(n:env.frame=some L)(x:qd mG (env ::mD) e cls a0 dx .none s.heap)
  (h:∀h',qd mG (env ::mD) e cls a0 dx (rawInt L) h'->s.heap.UpToSlots h'->Q () {s with heap:=h'}):wpAny M A (noteFrame (.ref e) env) Q E s:=by
 obtain⟨u,c,a,oe,vs,T,B,Y,he,U,N,hd,J,j,I,H,r,p,i⟩:=x;subst U N;unfold noteFrame;simp only[n];refine mT<|xl he hd j ?_;rw[mY (by simp)];refine mT<|xl r p i ?_;rw[mV (by simp[rawInt])];refine mT<|Gr r p (BF.mp i).1 ?_;have y:∀b,b≠T->(s.heap.update T<|Obj.mapFields (·.setIfInBounds 3 Value.none)).get? b=s.heap.get? b:=λb G=>tW _ _ G.symm
 have g:∀b o,s.heap.get? b=some o->(∀vs,o.data≠.fields vs)->b≠T:=λb o q w z=>by
  rw[z,r]at q;cases q;show w Y p
 refine NT d (a.of_keeps λb o q w=>#[o,by rw[y b (g b o q w)];show q,rfl]) n (by rw[y e H.symm];show he) (λb o q=>?_) c hd (BF.mp j).1 J λh' D C=>h h' D λb o q w=>C b o (by
  change(s.heap.update T _).get? b=_;rw[y b (g b o q w)];show q) w
 change(s.heap.update T _).get? b=_;rw[y b λz=>by rw[z,I]at q;cases q];show u b o q
def Da(x:qd mG l e cls a0 dx fl s.heap)(h:∀h',qd mG l e cls a0 dx .none h'->s.heap.UpToSlots h'->Q () {s with heap:=h'}):wpAny M A (setFlight (.ref e) none) Q E s:=by
 obtain⟨p,a,Y,oe,vs,T,G,j,he,U,N,hd,J,i,g,d,n,r,I⟩:=x;have w:3<j.size:=(BF.mp I).1;have y:∀b,b≠T->(s.heap.update T<|Obj.mapFields (·.setIfInBounds 3 ((none:lX lU).elim Value.none λf=>rawInt f))).get? b=s.heap.get? b:=λb H=>tW _ _ H.symm
 have c:∀b o,s.heap.get? b=some o->(∀vs,o.data≠.fields vs)->b≠T:=λb o q u z=>by
  rw[z,n]at q;cases q;show u j r
 unfold setFlight;refine mT<|xl he hd i ?_;rw[mY (by simp)];refine Gr n r w<|h _ #[λb o q=>?_,a,Y.of_keeps λb o q u=>#[o,?_,rfl],oe,vs,T,_,_,?_,U,N,hd,J,i,g,d,CS _ n<|Do<|Cb r _,Cb r _,by simp[w]] λb o q u=>#[o.slots,?_]
 ·rw[y b λz=>by rw[z,g]at q;cases q];show p b o q
 ·rw[y b (c b o q u)];show q
 ·rw[y e d.symm];show he
 ·change(s.heap.update T _).get? b=_;rw[y b (c b o q u)];show q
def qd.out(x:qd mG (env ::mD) e cls a0 dx fl s.heap):qd mG mD e cls a0 dx fl s.heap:=by
 obtain⟨a,b,⟨_,_,c⟩,d⟩:=x;show#[a,b,c,d]
def MT(y:A.frames=some (env ::mD))(w:env.frame=some L)(x:qd mG (env ::mD) e cls a0 dx .none s.heap)(h:∀h',qd mG mD e cls a0 dx .none h'->s.heap.UpToSlots h'->Q () {s with heap:=h'}) :
  wpAny M A (leaving env<|.ref e) Q E s:=by
 unfold leaving;refine mT<|NK y w x λu r q=>Da (s:={s with heap:=u}) r λz p o=>h z ?_<|q.trans o;show qd.out (s:={s with heap:=z}) p
def Nd(w:A.frames=some (env ::mD))(u:s.heap.FunFrames mG (env ::mD))(r:env.frame=some L)(he:s.heap.get? e=some oe)(z:mG.StaysIn s.heap)(q:mG.get? e=none)(hd:oe.data=.fields vs)
  (y:vs[1]? =some .none) (p:vs[0]? =some a0/\vs[2]? =some .none) (h:∀h',qd mG mD e oe.cls a0 oe.dict .none h'->s.heap.UpToSlots h'->Q () {s with heap:=h'}):wpAny M A (leaving env<|.ref e) Q E s:=by
 unfold leaving;refine mT<|Uh w u r he z q hd y p λy o n=>Da (s:={s with heap:=y}) o λx j i=>h x ?_<|n.trans i;show qd.out (s:={s with heap:=x}) j
end
end L2
end
section
namespace L2
open PySem PySem.Spec PyProof.Rows
def BW(K:lY)(z:lT->lX lV)(x:lT)(C:lU)(bm:lS lV)(newId:String):Prop:=∀h:ma,K.In h->OwnCls x C bm newId z h
def tO{K:lY}{s:lT->lX lV}{x:lT}{C:lU}{z:lS lV}{newId:String}(m:s x=some (.ref C))(q:PySem.W.excIn K C z newId=true):BW K s x C z newId:=by
 intro h X;refine#[m,?_];unfold PySem.W.excIn at q;split at q
 case h_2=>cases q
 case h_1 d w c a =>
  split at q
  case h_2=>cases q
  case h_1 Y U r p o l n j i Q =>
   rw[qv,qv,qv,qv,qv]at q;obtain⟨⟨⟨⟨⟨N,M⟩,L⟩,J⟩,u⟩,I⟩:=q;have H:Y=C:=rG.mp N;have G:n=newId:=rG.mp M;have g:nsIn K w.ns "__init__"=some none:=rG.mp I;have e:w.hasDel=false:=by simpa using L
   subst H G;have E:c=(List.toArray [r,p,o,l,some<|.builtin n,j]):=Array.toList_inj.mp Q;obtain⟨nm,bs,mro,D,B,y,A,sub,ab,col,pW⟩:=w;dsimp only at i e u g;subst i e E;show#[U,D,nm,B,bs,y,A,sub,ab,col,d,r,p,o,l,j,_,X _ _ a,.of_isNs<|PySem.W.isNs_of_in X u,PySem.W.nsMap_none_of_in X u g,PySem.W.tail_of_in X J]
def QZ(z:lS Env)(cls:lV)(y:lX lU)(x:Hp)(g:ma)(w:lU)(h:ma):Prop :=
 ∃u B,qd B z w cls u y .none h/\∀b o,h.get? b=some o->((∃s,g.get? b=some s)\/x b≠none)->b∉oi z->B.get? b=some o
def nX(P:mh)(w:md):vm:=λx H s E e z=>∃u cls r y,e=.ref u/\z.os=s.os/\AllBare z.gens/\Un (oi x) [] H y s.heap z.heap/\ol P w y z.heap/\QZ x cls r y s.heap u z.heap/\E cls r y
def Yb.there(x:Yb P w H h a o):∃r,h.get? a=some r:=by
 cases o with
 | lst q=>obtain⟨_,_,_,_,e⟩:=x;show#[_,e]
 | tup q=>obtain⟨_,_,_,_,e,_⟩:=x;show#[_,e]
 | dK s=>obtain⟨_,_,_,_,o,_,_,e,_⟩:=x;show#[_,e]
 | dT s=>obtain⟨_,_,_,_,o,_,_,e,_⟩:=x;show#[_,e]
 | set S n=>obtain⟨o,_,_,_,e,_⟩:=x;show#[_,e]
 | ins C z fs=>obtain⟨_,_,_,e,_⟩:=x;show#[_,e]
 | own y=>obtain⟨_,e⟩:=x;show#[_,e]
 | xd fs=>obtain⟨_,⟨_,_,_,e,_⟩,_⟩:=x;show#[_,e]
 | rng lo z=>obtain⟨_,_,_,e⟩:=x;show#[_,e]
 | frz r u=>obtain⟨e,_⟩:=x;show#[_,e]
 | tbl z =>
  obtain⟨_,e,_⟩:=x;show#[_,e]
 | met f y=>show#[_,show h.get? a=some _ from x]
 | ext z=>obtain⟨_,⟨_,e⟩,_⟩:=x;show#[_,e]
section
variable {P:mh} {w:md} {K:lY} {mg:lT->lX lV} {mG:ma} {N:lS lT} {qual:lT} {scope:Scope} {f:lU} {cd:lV} {A:mi} {mD:lS Env} {ml:lW} {mo:Hp} {E:XK}
def Ig(I:mK (pb CX P w K mg mG N qual scope f cd A mD ml mo E) c7 z q s1)
  (U:qd B mD L cls C J .none h') (up:s1.heap.UpToSlots h') (H:∀b o,s1.heap.get? b=some o->((∃o',ml.heap.get? b=some o')\/q b≠none)->b∉oi (envOfC qual scope #v[ml] f cd ::mD)->B.get? b=some o)
  (hE:E cls J q):nX P w mD mo ml E (.ref L) {s1 with heap:=h'}:=by
 have stay:∀b o,s1.heap.get? b=some o->((∃o',ml.heap.get? b=some o')\/q b≠none)->b∉oi (envOfC qual scope #v[ml] f cd ::mD)->h'.get? b=some o:=λb o x s r=>U.1 b o<|H b o x s r
 have d:oi (envOfC qual scope #v[ml] f cd ::mD)=#v[ml] ::oi mD:=rfl;have Y:∀b,((∃o',ml.heap.get? b=some o')\/q b≠none)->b∉oi mD->b∉oi (envOfC qual scope #v[ml] f cd ::mD):=λb x s r=>by
  rw[d]at r;rcases nV.mp r with e|e
  ·rcases x with x|x
   ·obtain⟨o',x⟩:=x;rw[e]at x;show absurd (nQ x)<|qT _
   ·have:q #v[ml]=none:=I.free;rw[e]at x;show x this
  ·show s e
 have tQ:∀b,q b≠none->b∉oi mD:=λb x s=>x (I.stkFree b (by change b∈oi (envOfC qual scope #v[ml] f cd ::mD);rw[d];show pe _ s))
 have c:∀b,b∈oi mD->∃o,s1.heap.get? b=some o/\∀vs,o.data≠.fields vs:=λb i=>by
  have x:s1.heap.FunFrames mG (envOfC qual scope #v[ml] f cd ::mD):=I.stack;show(x.mem (yR.mpr (by
   obtain⟨env,he,y⟩:=yR.mp i;show#[env,pe _ he,y]))).2
 have p:Un (oi mD) [] mo q ml.heap s1.heap:=I.mG;refine#[L,cls,J,q,rfl,I.os,I.bare,#[λb o x s r l=>?_,λb o x s r l=>?_,p.free,λb o x l=>?_,p.tups,p.frzs,p.tbls],λa o G=>?_,#[C,B,U,λb o x s r=>?_],hE]
 ·show stay b o (p.keep b o x s r l) (.inl #[_,x])<|Y b (.inl #[_,x]) r
 ·obtain⟨y,j⟩:=p.slot b o x s r l;obtain⟨n,h,g⟩:=c b r;rw[j]at h;cases h;obtain⟨D,Q⟩:=up b _ j g;show#[D,Q]
 ·obtain⟨n,j⟩:=p.there b o x l
  by_cases i:b∈oi mD
  ·obtain⟨y,h,g⟩:=c b i;obtain⟨D,Q⟩:=up b _ h g;show#[_,Q]
  ·show#[n,stay b n j (.inl #[_,x])<|Y b (.inl #[_,x]) i]
 ·refine(I.hok a o G).stay (λb u i x=>?_) (λ_ y=>y) (λ_ _ y=>y);have M:q b≠none:=by
   rcases i with e|e
   ·rw[e,G];show xE _
   ·rw[e];show xE _
  show stay b u x (.inr M)<|Y b (.inr M)<|tQ b M
 ·have M:∃n,s1.heap.get? b=some n:=by
   rcases s with⟨o',s⟩|s
   ·show p.there b o' s (by simp)
   ·cases y:q b with
    | none=>show absurd y s
    | some u=>show(I.hok b u y).there
  obtain⟨n,l⟩:=M;have j:=H b n l s<|Y b s r;have h:=U.1 b n j;have g:h'.get? b=some o:=x;rw[h]at g;cases g;show j
def W3:sJ (nX P w) (pb (nX P w) P w K mg mG N qual scope f cd A mD ml mo E) E:=by
 intro Y z H s e p I h;obtain⟨n,cls,o,g,rfl,os,x,un,u,⟨d,B,l,j⟩,i⟩:=h;have q:=I.call' os un u x (λb y=>absurd y<|by simp);change wpAny _ _ (leaving _<|.ref n) _ _ p;refine MT q.ok.frames rfl l λU r up=>?_
 show Ig q r up (λb o g d c=>j b o g (d.imp_left λ⟨a,y⟩=>I.mG.there b a y<|by change b∉([]:lS lU);simp) c) i
def Se(C:lU)(E:XK)(t:TA):TS:=λ_ z H=>t z H λy x=>y.length<=sizeLine/\E (.ref C) none x
def Xr{x:lT}{C:lU}{bm:lS lV}{a newId Y:String}{U p pos:Pos}{r:me}{Zt:lS me}{t:TA}(Q:BW K mg x C bm newId)(FB:ExcBaseFacts a newId Y bm)
  (M:Gl (pb (nX P w) P w K mg mG N qual scope f cd A mD ml mo E) x) (L:PA (pb (nX P w) P w K mg mG N qual scope f cd A mD ml mo E) (r ::Zt) t)
  (he:starEach (r ::Zt) (envOfC qual scope #v[ml] f cd)=(false,eval r<|envOfC qual scope #v[ml] f cd) ::starEach Zt (envOfC qual scope #v[ml] f cd):=by rfl)
  (J:(backTo p<|starEach Zt<|envOfC qual scope #v[ml] f cd).any (·.1)=false:=by rfl) (hd:(x ==("__debug__":lT))=false:=by lk) :
  PS (pb (nX P w) P w K mg mG N qual scope f cd A mD ml mo E) (.Raise (some<|.Call (.Name x U) (r ::Zt) [] p) none pos) (Se C E t):=by
 intro G s z H D I h;have O:OwnCls x C bm newId mg mG:=Q mG I.ok.mod.kin;obtain⟨B,N',nm,q,bs,n,sn,sub,ab,col,dd,k0,k1,k2,k3,k5,mN,hC,hN,i,T⟩:=O.obj;refine wpAny_Raise_call_subT (C:=C) (nm:=nm) (q:=q) (N:=N') (bs:=bs) (bm:=B) (hdct:=n) (sn:=sn) (sub:=sub) (ab:=ab) (col:=col) (dd:=dd) (k0:=k0) (k1:=k1) (k2:=k2) (k3:=k3) (k5:=k5)
  FB (mN:=mN) (T.hasType FB.hasBase) (I.ok.hd rfl) (by change(backTo p<|starEach (r ::Zt)<|envOfC qual scope #v[ml] f cd).any (·.1)=false;rw[he];change(false || (backTo p<|starEach Zt<|envOfC qual scope #v[ml] f cd).any (·.1))=false;rw[J];rfl) i (xJ I M O.bound #[rfl,?_] hd)
 have c:=L p G s z H _ I h;have C7:starEach (r ::Zt) (pb (nX P w) P w K mg mG N qual scope f cd A mD ml mo E).env=(false,eval r<|envOfC qual scope #v[ml] f cd) ::starEach Zt (envOfC qual scope #v[ml] f cd):=he;rw[C7]at c ⊢;refine zF<|ng c λy g h9=>?_;obtain⟨y,H2,j,r2,hl,hE⟩:=h9;have u:∀b o,mG.get? b=some o->g.heap.get? b=some o:=λb o e=>(j.bs b o e).1
 refine#[rfl,by rw[<-r2.length];show hl,u _ _ hC,hN.keeps u,T.keeps u,λy e l=>?_];change wpAny _ _ (leaving _<|.ref e) _ _ _;obtain⟨t,d,_,_⟩:=l.there;have T0:∀env∈(envOfC qual scope #v[ml] f cd ::mD),∀b,env.frame=some b->b∈oi (envOfC qual scope #v[ml] f cd ::mD):=λenv he b hb=>yR.mpr #[env,he,hb]
 refine Nd (mG:=PySem.W.hideAll g.heap<|oi<|envOfC qual scope #v[ml] f cd ::mD) j.ok.frames ((OV j.stack T0).of_keeps λb o q _=>#[o,l.keeps b o q,rfl]) rfl d (λb o q=>l.keeps b o<|CN _ q) ?_ rfl rfl #[rfl,rfl] λh'' fl up=>?_
 ·cases q:(PySem.W.hideAll g.heap<|oi<|envOfC qual scope #v[ml] f cd ::mD).get? e with
  | none=>rfl
  | some o=>show absurd (CN _ q) (by rw[l.new];show λy=>nomatch y)
 ·have R:=Ig j fl ((Heap.UpToSlots.of_keeps l.keeps).trans up) (λb o y _ h3=>Fm _ y h3) hE;show R
end
def UA{P:mh}{w:md}{fs:lS lU}{H x:Hp}{g h h' B:ma}(un:Un fs [] H x g h)(j:ol P w x h)(fr:∀b∈fs,x b=none/\∃o,h.get? b=some o/\∀vs,o.data≠.fields vs)(st:B.StaysIn h')(up:h.UpToSlots h')
  (N:∀b o,h.get? b=some o->((∃o',g.get? b=some o')\/x b≠none)->b∉fs->B.get? b=some o):Un fs [] H x g h'/\ol P w x h':=by
 have stay:∀b o,h.get? b=some o->((∃o',g.get? b=some o')\/x b≠none)->b∉fs->h'.get? b=some o:=λb o y r s=>st b o<|N b o y r s
 refine#[#[λb o y r s q=>stay b o (un.keep b o y r s q) (.inl #[_,y]) s,λb o y r s q=>?_,un.free,λb o y q=>?_,un.tups,un.frzs,un.tbls],λa o Y=>?_]
 ·obtain⟨z,p⟩:=un.slot b o y r s q;obtain⟨_,i,n,d⟩:=fr b s;rw[p]at n;cases n;obtain⟨U,c⟩:=up b _ p d;show#[U,c]
 ·obtain⟨i,p⟩:=un.there b o y q
  by_cases l:b∈fs
  ·obtain⟨_,z,n,d⟩:=fr b l;obtain⟨U,c⟩:=up b _ n d;show#[_,c]
  ·show#[i,stay b i p (.inl #[_,y]) l]
 ·refine(j a o Y).stay (λb u l y=>?_) (λ_ z=>z) (λ_ _ z=>z);have Q:x b≠none:=by
   rcases l with e|e
   ·rw[e,Y];show xE _
   ·rw[e];show xE _
  show stay b u y (.inr Q) λz=>Q (fr b z).1
abbrev Cx.tried(X:Cx)(pn:lS (lU×Obj))(E:lV->lW->Prop):Cx:={X with pn:=pn,xe:=E}
abbrev Cx.caught(X:Cx)(ea:lU):Cx:={X with A:=X.A.mark<|some<|.ref ea,calm:=false,xe:=λ_ _=>False}
section
variable {X:Cx} {E:lV->lW->Prop}
def mK.tryIn(I:mK X y z H s)(E:lV->lW->Prop):mK (X.tried (X.pn++y) E) [] z H s :=
 #[#[I.ok.mod,I.ok.kind,I.ok.glob,I.ok.blt,I.ok.above,I.ok.inj,I.ok.has,I.ok.cab,I.ok.hd,I.ok.frames,I.ok.stk,I.ok.exf,I.ok.bs,I.ok.bsz,I.ok.noex,I.ok.exfs,I.ok.funs,I.ok.frf],I.os,I.bare,I.mG,I.loc,I.cell,I.free,I.freeC,λp x=>I.pin p (by simpa using x),I.hok,I.len]
def mK.tryOut(I:mK (X.tried (X.pn++y) E) w z H s):mK X y z H s :=
 #[#[I.ok.mod,I.ok.kind,I.ok.glob,I.ok.blt,I.ok.above,I.ok.inj,I.ok.has,I.ok.cab,I.ok.hd,I.ok.frames,I.ok.stk,I.ok.exf,I.ok.bs,I.ok.bsz,I.ok.noex,I.ok.exfs,I.ok.funs,I.ok.frf],I.os,I.bare,I.mG,I.loc,I.cell,I.free,I.freeC,λp x=>I.pin p<|AI _ x,I.hok,I.len]
def mK.catch(I:mK X x z H s)(w:lU):mK (X.caught w) x z H s :=
 #[#[I.ok.mod,I.ok.kind,I.ok.glob,I.ok.blt,I.ok.above,I.ok.inj,I.ok.has,I.ok.cab,λy=>absurd y oW,I.ok.frames,I.ok.stk,I.ok.exf,I.ok.bs,I.ok.bsz,I.ok.noex,I.ok.exfs,I.ok.funs,I.ok.frf],I.os,I.bare,I.mG,I.loc,I.cell,I.free,I.freeC,I.pin,I.hok,I.len]
def mK.uncatch(y:X.A.handled=none)(I:mK (X.caught w) x z H s):mK X x z H s :=
 #[#[I.ok.mod,I.ok.kind,I.ok.glob,I.ok.blt,I.ok.above,I.ok.inj,I.ok.has,I.ok.cab,λ_=>y,I.ok.frames,I.ok.stk,I.ok.exf,I.ok.bs,I.ok.bsz,I.ok.noex,I.ok.exfs,I.ok.funs,I.ok.frf],I.os,I.bare,I.mG,I.loc,I.cell,I.free,I.freeC,I.pin,I.hok,I.len]
end
section
variable {P:mh} {w:md} {K:lY} {mg:lT->lX lV} {mG:ma}
def qN.okX{x qual:lT}{st:lZ}{f:lU}{fd:mj}{N ps:lS lT}{k:Nat}{y:Sp}(F:qN K x qual st f fd)(S:Zx N ps (Zk st))
  (r:∀(z:lV)(A:mi)(u:lS Env)(s:lW)(H:Hp)(vs:lS V)(Q:VK)(E:XK),Y8 k (A.deeper<|envOfC qual (Zk st) #v[s] f z)->y vs H Q E->
   let X:=(pb (nX P w) P w K mg mG N qual (Zk st) f z A u s H E);let D:pV:={nx:=λ_ q=>Q .non q,rt:=Q};WSs X (Y4 st) D (start N vs) H) (len:∀vs H Q E,y vs H Q E->vs.length=ps.length:=by rintro _ _ _ _ ⟨⟩<;>subst_vars<;>first|rfl|(rename_i h;cases h;subst_vars;rfl)):Y6 P w K mg mG (nX P w) (k+1) f fd ps y:=by
 obtain⟨l,j,kV,i,g,e,z,d,c,rfl,lk,p⟩:=F.ex;show DE lk p S len λA u s H vs Q E o n=>#[_,Zo,r z A u s H vs Q E o n]
end
theorem BS:∀{ss:lS lT}{us:lS lV},Z8 (ss.map V.str) us->StrsAre us ss
 | [],_,r=>by rw[uB]at r;cases r;show .nil
 | x ::ss,_,r=>by
  rw[oh]at r;cases r with
  | cons r t =>
   obtain⟨z,rfl⟩:=r;show .cons _ _<|BS t
theorem Lk:∀{ss:lS lT}{us:lS lV},StrsAre us ss->Z8 (ss.map V.str) us
 | [],_,r=>by cases r;show .nil
 | x ::ss,_,r=>by
  cases r with
  | cons _ _ t=>show .cons #[_,rfl]<|Lk t
def mK.laidAt(I:mK X r z H s)(k:∀b u,s.heap.get? b=some u->h'.get? b=some u)(w:s.heap.get? a=none)(new:Yb X.prog X.w (mM H a o) h' a o) :
  H a=none/\mK X r z (mM H a o) {s with heap:=h',toks:=t'}:=by
 have x:H a=none:=by
  cases e:H a with
  | none=>rfl
  | some u =>
   obtain⟨q,y⟩:=(I.hok a u e).there;rw[w]at y;cases y
 have p:∀b u,s.heap.get? b=some u->b≠a:=λb u e y=>by rw[y,w]at e;cases e
 refine#[x,I.call' (s':={s with heap:=h',toks:=t'}) rfl #[λb u e _ _ _=>k b u e,λb u e _ _ _=>#[u.slots,k b u e],λb u e n _=>by rw[Zd (p b u e)];show n,λb u e _=>#[u,k b u e],λb l e=>?_,λb q u e=>?_,λb j e=>#[#[],?_]] (λb u e=>?_) I.bare λb y=>absurd y wN]
 ·rw[Zd (Zf e x)];show e
 ·rw[Zd (Zf e x)];show e
 ·rw[Zd (Zf e x)];simpa using e
 ·by_cases y:b=a
  ·rw[y,Zc]at e;cases e;rw[y];show new
  ·rw[Zd y]at e;show(I.hok b u e).stay (λc v _ h=>k c v h) (λc h=>by rw[Zd (Zf h x)];show h) (λc q h=>by rw[Zd (Zf h x)];show h)
def BD:lS V->Hp->VK->Prop:=λw H Q=>∃(p:lU)(z:lS (nj×V)) (y:lS lT),w=[.ref p]/\Rd H p (.dK z)/\z.map (λkv=>kV kv.1)=y.map V.str/\y.length<64/\∀x:lS lT,x.Perm y->sortedS x=true->pK H (.lst<|x.map V.str) Q
def Gh(G:X.calm=true):Xd X (.builtin "sorted") BD:=by
 intro c7 s z H xs us Q I r h;obtain⟨p,d,E,rfl,hd,D,u,q⟩:=h;obtain⟨u,rfl,C⟩:=Wz r;cases C;obtain⟨u,lo,B,kv,da⟩:=qC I.hok hd;obtain⟨ep,C9⟩:=da.dictAt;have hlv:=KV.length kv;refine Gq kind_sorted plain_sorted entry_sorted (args_sorted1 _) ?_;unfold Builtin.«sorted»;refine mT (m:=checkCount "sorted" 1 1 _)<|nI ?_;refine mT<|PySem.W.kdu_collect (A:=X.A.in1) (PySem.W.kdl_dict (knd:=Zy X.prog X.w) (kvs:=B) (ep:=ep) lo) (I.ok.hd G) C9 (by lia) λx tk i g N=>?_;have c:Z8 (d.map λkv=>kV kv.1) i.toList:=HI (P:=X.prog) (w:=X.w) kv (by rw[ub];show N.1) λj v e=>N.2 j v (by rw[<-wj];show e)
 rw[D]at c;have Y:=BS c;have g8:i.toList.length=E.length:=by have:=c.length;rw[mO]at this;show this.symm
 refine mT (wpAny_newList ?_ (by rw[g8];show sz<|by lia));have n:(x.push<|seqObj "list" i.toList.toArray 0).get? x.objs.size=some (seqObj "list" i.toList.toArray 0):=oG _ rfl;refine mT<|qx<|CD slot_list_sort #[_,n,rfl] entry_list_sort (list_sort_treeK strKind_oneLt n Y.keysOf (λu p Zt e=>keyKind_strs (by rw[<-e];show Y)) (by lia) λU a1 a2=>#[_,rfl,?_])<|args_list_sort _;obtain⟨M,b1,L,b3⟩:=sorted_out_str Y a1 a2;obtain⟨e,he⟩:=sortedHeap_at (out:=(arrOf U).map (·.2)) n;have hp:=L.length_eq;have l:s.heap.get? x.objs.size=none:=by
  cases y:s.heap.get? x.objs.size with
  | none=>rfl
  | some o=>show absurd (nQ<|g _ _ y)<|qT _
 obtain⟨hn,J⟩:=I.laidAt (h':=sortedHeap (x.push<|seqObj "list" i.toList.toArray 0) x.objs.size i.toList<|(arrOf U).map (·.2)) (t':=tk) (a:=x.objs.size) (o:=.lst<|M.map V.str) (λb o p=>by
  have u:=g b o p;rw[sortedHeap_old (nU<|nQ u) (pM (nQ u) (by rw[tN];show sQ _))];show nS _ u) l (show Yb X.prog X.w _ _ _ (.lst _)from#[by rw[mO];show sz (by lia),((arrOf U).map (·.2)).toList,e,Lk b1,by rw[he]])
 show nI #[_,rfl,.ref x.objs.size,_,J,rfl,(q M L b3).at _ hn]
def RR(u:TE):TE:=λz H Q=>u z H λx w=>∃d y,x=.ref d/\Rd w d (.dK y)/\pK w (.lst<|y.map λkv=>kv.2) Q
def Zyh{kvs:lS (nj×V)}{z:lS (nj×lV)}(h:KV kvs z):Z8 (kvs.map λkv=>kv.2) (z.map λkv=>kv.2):=by
 induction h with
 | nil=>show .nil
 | cons r t y=>show .cons r.2 y
def Rg(N:X.calm=true)(u:Gl X "list")(p:X.mg "list"=none)(M:PE X o to)(L:attributeBase o "values" X.env (eval o X.env)=eval o X.env:=by rfl)(J:(G.endLine ==E.line)=true:=by rfl) :
  PE X (.Call (.Name "list" p') [.Call (.Attribute o "values" G) [] [] E] [] D7) (RR to):=by
 intro c s z H Q I h;refine uZ<|ww I u p zt ?_;refine yH ?_ rfl rfl;refine yL ?_;refine Dq L J<|ng (M c s z H _ I h) λv s1 ⟨y,D,Y,C,B⟩=>?_;obtain⟨d,n,rfl,hd,q⟩:=B;cases C;obtain⟨A,hs,l,kv,x⟩:=qC Y.hok hd;obtain⟨ob,_,_,i,S8,_⟩:=id x;obtain⟨ep,hD⟩:=Bg x i;refine#["dict","dict.values",yl,BR,Ny,x.typeIs,λa e=>?_,vO rfl<|Cd ?_]
 ·cases e;show#[ob,i,S8.2.1]
 refine vC BR x.typeIs KN (Kq _) (meets_dict_values (Zy X.prog X.w) d hs) #[#[l,x],?_];refine Aw ?_;have g:mK X c z D {s1 with heap:=s1.heap.push {cls:=.type "dict_values",data:=.fields (List.toArray [.ref d])}}:=Y.kept (t':=s1.toks) λb o e=>nS _ e
 have hl:=KV.length kv;refine PySem.W.kdl_call (PySem.W.kdl_values (knd:=Zy X.prog X.w) (r:=#v[s1]) (d:=d) (kvs:=l) (ep:=ep)) (g.ok.hd N) #[#[_,oG _ rfl,rfl,rfl],hD _<|nS _ i] (by lia) λh' tk w c' hk A0 U=>?_
 have e1:w.toList=l.map (·.2):=PySem.W.kdl_vals_eq w.toList (by rw[ub];show U.1) λj v e=>U.2 j v (by rw[<-wj];show e)
 have hv:Z8 (n.map λkv=>kv.2) w.toList:=by rw[e1];show Zyh kv
 show#[.ref _,_,g.laid (o:=.lst _) (t':=tk) hk (nH _) (show Yb X.prog X.w _ h' _ (.lst _)from#[by rw[mO];show A,w.toList,c',hv,by rw[A0]]),rfl,q.at _<|g.hok.fresh<|nH _]
end L2
end
section
namespace L2
open PySem PySem.Spec PyProof.Rows Builtin Builtin.ObjectAttr
abbrev vX:lS lV:=[.type "ValueError",.type "Exception",.type "BaseException",.type "object"]
def uJ(C t:lU)(z:lX lU):Obj:={cls:=.ref C,dict:=z,data:=.fields (List.toArray [.ref t,.none,.none,.none,.bool false,.none])}
def pL(e C t:lU)(z:lX lU):HO:=.ext λh=>h.get? e=some (uJ C t z)
def qB(e C:lU)(y:lX lU):HO:=.ext λh=>∃o z,h.get? e=some o/\o.cls=.ref C/\o.dict=y/\o.data=.fields z/\z[2]? =some .none
section
def pL.ok(x:h.get? e=some (uJ C t z)):Yb P w H h e (pL e C t z):=#[x,#[_,x],λ_ _ p k=>k _ p]
def qB.ok{o:Obj}{vs:Array lV}(x:h.get? e=some o)(a:o.cls=.ref C)(b:o.dict=z)(c:o.data=.fields vs)(d:vs[2]? =some .none):Yb P w H h e (qB e C z):=#[#[o,vs,x,a,b,c,d],#[_,x],λ_ _ ⟨o,vs,x,r⟩ k=>#[o,vs,k _ x,r]]
def pL.at(k:ol P w H h)(q:H e=some (pL e C t z)):h.get? e=some (uJ C t z):=(k e _ q).1
def qB.at(k:ol P w H h)(q:H e=some (qB e C z)):∃o vs,h.get? e=some o/\o.cls=.ref C/\o.dict=z/\o.data=.fields vs:=let⟨o,vs,a,b,c,d,_⟩:=(k e _ q).1;#[o,vs,a,b,c,d]
end
variable {X:Cx}
def mK.track{a:lU}{o:HO}(I:mK X l z H s)(r:H a=none)(i:X.ml.heap.get? a=none)(h:a≠X.env.locals)(g:∀x c,X.env.cells.lookup x=some c->c≠a)(e:∀p∈X.pn++l,p.1≠a)
  (new:Yb X.prog X.w (mM H a o) s.heap a o):mK X l z (mM H a o) s:=by
 refine#[I.ok,I.os,I.bare,#[I.mG.keep,I.mG.slot,λb u y n d=>?_,I.mG.there,λb j y=>?_,λb Y u y=>?_,λb U y=>?_],I.loc,I.cell,?_,λx c y=>?_,λp y=>?_,λb u y=>?_,I.len]
 ·rw[Zd λw=>by rw[w,i]at y;cases y];show I.mG.free b u y n d
 ·have q:=I.mG.tups b j y;rw[Zd (Zf q r)];show q
 ·have q:=I.mG.frzs b Y u y;rw[Zd (Zf q r)];show q
 ·obtain⟨more,q⟩:=I.mG.tbls b U y;show#[more,by rw[Zd (Zf q r)];show q]
 ·rw[Zd h.symm];show I.free
 ·rw[Zd (g x c y)];show I.freeC x c y
 ·obtain⟨Q,N,M⟩:=I.pin p y;show#[Q,by rw[Zd (e p y)];show N,M]
 ·by_cases w:b=a
  ·subst w;rw[Zc]at y;cases y;show new
  ·rw[Zd w]at y;show(I.hok b u y).stay (λ_ _ _ q=>q) (λc q=>by rw[Zd (Zf q r)];show q) λc j q=>by rw[Zd (Zf q r)];show q
def yU(H:Hp)(a:lU):Hp:=λb=>if b=a then none else H b
def Cr{a b:lU}(h:b≠a):yU H a b=H b:=mV h
def EY{a:lU}:yU H a a=none:=mY rfl
def mK.drop{a:lU}{z:ma->Prop}(I:mK X j y H s)(i:H a=some (.ext z)):mK X j y (yU H a) s:=by
 have off:∀{b:lU}{u:HO},H b=some u->u≠.ext z->yU H a b=some u:=λ{b u} q n=>by
  rw[Cr λx=>by rw[x,i]at q;show n (oF q).symm];show q
 have non:∀{b:lU},H b=none->yU H a b=none:=λ{b} q=>by
  by_cases x:b=a
  ·rw[x];show EY
  ·rw[Cr x];show q
 refine#[I.ok,I.os,I.bare,#[I.mG.keep,I.mG.slot,λb u w n o=>non<|I.mG.free b u w n o,I.mG.there,λb l w=>off (I.mG.tups b l w) (λx=>nomatch x),λb h u w=>off (I.mG.frzs b h u w) (λx=>nomatch x),λb g w=>?_],I.loc,I.cell,non I.free,λr c w=>non<|I.freeC r c w,λp w=>?_,λb u w=>?_,I.len]
 ·obtain⟨more,q⟩:=I.mG.tbls b g w;show#[more,off q λx=>nomatch x]
 ·obtain⟨r,o,h⟩:=I.pin p w;show#[r,non o,h]
 ·have x:b≠a:=λx=>by rw[x,EY]at w;cases w
  rw[Cr x]at w;show(I.hok b u w).stay (λ_ _ _ q=>q) (λc q=>off q λx=>nomatch x) (λc l q=>off q λx=>nomatch x) (λc o q=>off q λx=>nomatch x) (λc o q=>off q λx=>nomatch x)
def mK.forget{h':ma}{g:lT->lX lV}{t':Nat}(I:mK X e z H s)(d:h'.Ns X.env.locals g)(l:Heap.SameBut X.env.locals s.heap h'):mK X e (List.replicate X.N.length none) H {s with heap:=h',toks:=t'}:=by
 have r:∀b o,X.ml.heap.get? b=some o->b≠X.env.locals:=λb o q=>nU<|pM (nQ q) I.ok.above
 refine#[I.ok,I.os,I.bare,#[λb o y n h j=>?_,λb o y n h j=>?_,I.mG.free,λb o y j=>?_,I.mG.tups,I.mG.frzs,I.mG.tbls],#[g,d,λi x v _ y _=>?_],λx c y=>?_,I.free,I.freeC,λp y=>?_,λb u y=>?_,by simp]
 ·rw[l.2 b (r b o y)];show I.mG.keep b o y n h j
 ·obtain⟨w,q⟩:=I.mG.slot b o y n h j;show#[w,by rw[l.2 b (r b o y)];show q]
 ·obtain⟨w,q⟩:=I.mG.there b o y j;show#[w,by rw[l.2 b (r b o y)];show q]
 ·rw[Iw]at y;split at y<;>cases y
 ·obtain⟨v,q⟩:=I.cell x c y;show#[v,q.sameBut l<|I.cne x c y]
 ·obtain⟨i,a,w,Y⟩:=I.pin p y;show#[by rw[l.2 p.1 w];show i,a,w,Y]
 ·refine(I.hok b u y).stay (λc v w q=>?_) (λ_ q=>q) λ_ _ q=>q
  rw[l.2 c ?_]
  ·show q
  rintro rfl;have fr:H X.env.locals=none:=I.free;rcases w with rfl|w
  ·rw[fr]at y;cases y
  ·rw[fr]at w;cases w
def vW(K:lY)(C Y:lU):Prop:=∃nm q N bs z sub y col x w u s r p,K.lookup C=some (excClassObj nm q C N bs (.ref Y ::vX) true z sub y col x w u s r p "ValueError.__new__")
def vW.cls{K:lY}{C Y:lU}(c:vW K C Y):∃z,PySem.W.clsIn K C=some z/\z.mro=.ref C ::.ref Y ::vX/\z.hasDict=true:=by
 obtain⟨nm,q,N,bs,y,sub,x,col,w,u,s,r,p,o,h⟩:=c;refine#[{name:=nm,bases:=bs,mro:=.ref C ::.ref Y ::vX,ns:=N,qualname:=q,hasDict:=true,slotNames:=y,subclasses:=sub,abstract:=x,collection:=col,hasDel:=false},?_,rfl,rfl];unfold PySem.W.clsIn;rw[h]
def vW.hd{K:lY}{C Y:lU}(c:vW K C Y):PySem.W.hasDictIn K C=true:=by
 obtain⟨z,h,_,hd⟩:=c.cls;unfold PySem.W.hasDictIn;rw[h];show hd
section
variable {E:lV->lW->Prop}
def Yc7{y:V}{u:lV}{Q:Unit->lW->Prop}(I:mK X c7 z H s)(q:H e=some (pL e C t none))(c:vW X.K C Y)(sa:findIn X.K (.ref C) "__setattr__"=some (some<|.builtin "object.__setattr__"))(na:findIn X.K (.ref C) f=some none)(ry:Yd y u)
  (h:∀i s',H i=none->i≠e->mK X c7 z (mM (mM H e<|pL e C t<|some i) i<|.xd [(f,y)]) s'->Q () s'):wpAny (model X.prog X.w) A (setAttr (.ref e) f u) Q E s:=by
 obtain⟨cd,a,r,n⟩:=c.cls;have he:=pL.at I.hok q;have J:PySem.W.InstAt s.heap e (uJ C t none) C none:=#[he,rfl,rfl,trivial]
 have SF:=PySem.F.store_object;have U:PySem.W.Looks (model X.prog X.w) s.heap (typeOf<|.ref e) (.ref C):=J.type;have lm:PySem.W.Looks (model X.prog X.w) s.heap (mroOf<|.ref C) cd.mro:=(EB I.kIn a).andThen .now;have sub:PySem.W.Looks (model X.prog X.w) s.heap (isInstance (.ref e)<|.type "object") true:=U.andThen (Nb I.kIn<|by unfold PySem.W.mroIn;rw[a,Option.bind_some,r];rfl);refine PySem.W.set_plain I.kIn J sa ?_;refine BL SF.slot.plain SF.entry<|@MO (model X.prog X.w) _ _ {s with toks:=s.toks+1} "object.__setattr__" "object" "__setattr__" (.ref e) [.str f s.toks,u] [] _ SF.kind SF.split sub (SF.args (.ref e) (.str f s.toks) u) ?_;rw[PySem.W.osa_eq,refuse_eq];refine mT<|mT<|U.here (s:={s with toks:=s.toks+1})<|mT<|lm.here (s:={s with toks:=s.toks+1}) ?_;rw[r,refuseLoop_ref,refuseLoop_ref,PySem.F.store_ValueError.passes];refine nI<|mT<|U.here (s:={s with toks:=s.toks+1})<|mT<|(zP I.kIn na).here (s:={s with toks:=s.toks+1}) (mT<|nI ?_);have d:e≠#v[s]:=nU<|nQ he;have D:(s.heap.push PySem.W.emptyDict).get? e=some (uJ C t none):=nS _ he;have h2:((s.heap.push PySem.W.emptyDict).update e λo=>{o with dict:=some #v[s]}).get? e=some (uJ C t<|some #v[s]):=CS _ D rfl;have d2:((s.heap.push PySem.W.emptyDict).update e λo=>{o with dict:=some #v[s]}).get? #v[s]=some PySem.W.emptyDict:=by
  rw[tW _ _ d];show oG s.heap rfl
 have n2:((s.heap.push PySem.W.emptyDict).update e λo=>{o with dict:=some #v[s]}).Ns #v[s] (λ_=>none):=#[_,#[],_,d2,rfl,λx g=>absurd g (by simp),λ_=>rfl]
 change wpAny _ _ (storeInOwnDict (.ref e) (.ref C) (.str f s.toks) f u _) _ _ _;unfold storeInOwnDict;refine mT<|nI ?_;rw[mV (by simp)];refine mT ?_;change wpAny _ _ (instanceDict e true) _ _ _;unfold instanceDict;refine mT<|GH he ?_;dsimp only[uJ];refine mT<|(EB I.kIn a).here (s:={s with toks:=s.toks+1}) ?_;rw[n,mV (by simp),mV<|by simp[typeHasDict]];refine mT<|wpAny_alloc'<|mT<|wpAny_update' D ?_;refine nI ?_;change wpAny _ _ (storeInDict #v[s] (.str f s.toks) f u) _ _ _;unfold storeInDict newKeyGuard;refine mT<|nI<|mT<|wpAny_nsSet1 (Heap.Ns1.of_empty n2) λN l j=>?_;obtain⟨oD,g,epD,M,L,G⟩:=l.count<|PySem.Within.cons f u PySem.Within.nil;refine mT<|wpAny_lookBehind M (by rw[L];show pastItsLine_dict<|oo G<|by rw[pi,EJ,sO];lia) ?_;refine nI ?_;have B:N.get? e=some (uJ C t<|some #v[s]):=by rw[j.2 e d];show h2
 have k3:∀b o,b≠e->s.heap.get? b=some o->N.get? b=some o:=λb o nb x=>by
  rw[j.2 b (nU<|nQ x)];change((s.heap.push PySem.W.emptyDict).update e λo=>{o with dict:=some #v[s]}).get? b=_;rw[tW _ _ nb.symm];show nS _ x
 have A4:H #v[s]=none:=I.fresh;refine h #v[s] _ A4 d.symm ?_;have I3:=I.write (x:=e) (e:=e) (o:=pL e C t<|some #v[s]) (h':=N) (t':=s.toks+1+1) (by rw[q];show qV) (.inl rfl) k3 #[_,B]<|pL.ok B;refine I3.track ?_ ?_ ?_ (λw c' x=>?_) (λp x=>?_) ?_
 ·rw[Zd d.symm];show A4
 ·show xR I.sz
 ·show xA I.lt
 ·obtain⟨v,o,g,_⟩:=I.cell w c' x;show nU<|nQ g
 ·show nU<|nQ (I.pin p x).1
 ·refine#[_,l,λg=>?_]
  by_cases x:g=f
  ·subst x;simp only[List.lookup,Ae,sP];show ry
  ·have zb:(g ==f)=false:=su.mpr x;simp only[List.lookup,zb,mV x];show qV
def VD(K:lY)(s r:TE)(f:lT):TS:=λD z H=>r z H λy q=>s z q λx u=>∃e C Y t,x=.ref e/\u e=some (pL e C t none)/\vW K C Y/\findIn K (.ref C) "__setattr__"=some (some<|.builtin "object.__setattr__")/\findIn K (.ref C) f=some none/\
 ∀w,u w=none->w≠e->D.nx z (mM (mM u e<|pL e C t<|some w) w<|.xd [(f,y)])
def DS{o value:me}{pos w:Pos}{r p:TE}(l:PE X o r)(j:PE X value p)(i:swapsWith value (some<|.Attribute o f w) pos.line X.env=pure false):PS X (.Assign [.Attribute o f w] value pos) (VD X.K r p f):=by
 intro n s z H D I h;refine Le (ng (j n s z H _ I h) λu x ⟨y,g,d,a,q⟩=>ng (l n x z g _ d q) λU Y Q=>?_) i;obtain⟨x,y,N,M,e,C,Y,t,L,he,c,J,G,B⟩:=Q;subst L;obtain rfl:U=Value.ref e:=M;show Yc7 N he c J G a λA s3 hn w4 I3=>#[z,_,I3,B A hn w4]
structure XA(K:Frag)(C:Addr):Prop where
 ga:findIn K (.ref C) "__getattribute__"=some (some<|.builtin "BaseException.__getattribute__")
 gt:findIn K (.ref C) "__getattr__"=some none
 be:PySem.W.mroIn K C (.type "BaseException")=some true
end
section
variable {prog:mh} {w:md} {A:mi} {E:lV->lW->Prop} {s:lW} {K:lY} {x C:lU} {ox:Obj} {od:lX Obj} {name:lT} {tk:Tok}
def VM:builtinKind "BaseException.__getattribute__"=some .slot:=by left
def Ztw:splitId "BaseException.__getattribute__"=some ("BaseException","__getattribute__"):=by left
def On{v:lV}{R:Result->lW->Prop}(X:K.In s.heap)(I:PySem.W.InstAt s.heap x ox C od)(u:XA K C){fd:Found}(r:PySem.W.findObj K C od name=some fd)
  (h:match fd with|.value v=>R (.ok<|.ret v) s|.bind g a=>wpAny (model prog w) A.in1 (call g [a,.ref x,.ref C]) (λv s'=>R (.ok<|.ret v) s') (λe s'=>R (.error e) s') s|.missing=>False) :
  codeAny (model prog w) A (.call (.builtin "BaseException.__getattribute__") #[[.ref x,.str name tk],[]]) R s:=by
 have y:=I.type (M:=model prog w);have sub:PySem.W.Looks (model prog w) s.heap (isInstance (.ref x)<|.type "BaseException") true:=y.andThen<|Nb X u.be;have fn:=PySem.W.looks_find (M:=model prog w) X I r;refine BL IS.ga.plain PySem.F.entry_bexc_ga<|@MO (model prog w) _ _ s "BaseException.__getattribute__" "BaseException" "__getattribute__" (.ref x) [.str name tk] [] _ VM Ztw sub (PySem.F.args_bexc_ga _ _) ?_;refine mT<|nI<|mT<|nI<|mT<|y.here<|mT<|fn.here ?_;cases fd with
 | value v=>show nI h
 | bind g a =>
  change wpAny _ _ (holding [a] (call g [a,.ref x,.ref C])>>=ret) _ _ _;show mT (qx<|pT h (λv s' z=>nI z) λ_ _ z=>z)
 | missing=>show h.elim
def Oq{fill expr:Bool}{Q:lV->lW->Prop}(X:K.In s.heap)(I:PySem.W.InstAt s.heap x ox C od)(y:XA K C)
  (h:codeAny (model prog w) A (.call (.builtin "BaseException.__getattribute__") #[[.ref x,.str name tk],[]]) (λr s'=>match r with|.ok (.ret v)=>wpAny (model prog w) A (handedOut v) Q E s'|_=>False) s) :
  wpAny (model prog w) A (getAttrBy (.ref x) (.str name tk) fill expr) Q E s:=by
 have u:=I.type (M:=model prog w);have q:=zP (M:=model prog w) X y.ga;have lt:=zP (M:=model prog w) X y.gt;unfold getAttrBy;refine qx<|mT<|u.here<|mT<|q.here ?_;change wpAny _ _ (getAttrByItsOwn (.ref x) (.str name tk) (.ref C) (.builtin "BaseException.__getattribute__") fill expr) _ _ _;unfold getAttrByItsOwn;refine mT<|lt.here<|mT<|wpAny_attempt<|qx ?_;have he:(expr && onTheHeap (Value.builtin "BaseException.__getattribute__"))=false:=by cases expr<;>rfl
 unfold callGetattribute;rw[he];simp only[ug,rD];unfold boundAndCalled;rw[IS.ga.bind];refine mT<|nI<|uT<|vn h λr s' z=>?_;rcases r with e|(v|_|_|_)<;>first|show z|show z.elim
def SS{v:lV}{expr:Bool}{Q:lV->lW->Prop}(X:K.In s.heap)(I:PySem.W.InstAt s.heap x ox C od)(z:XA K C)(y:PySem.W.findObj K C od name=some (.value v))(u:PySem.W.handedIn v=true)(h:Q v {s with toks:=s.toks+1}) :
  wpAny (model prog w) A (getAttr (.ref x) name expr) Q E s:=by
 unfold getAttr;refine mT<|wpAny_mkText<|Oq (s:={s with toks:=s.toks+1}) X I z<|On (s:={s with toks:=s.toks+1}) (fd:=.value v) (v:=v) X I z y ?_;change wpAny _ _ (handedOut v) _ _ _;rw[PySem.W.handedOut_of u];show nI h
def Ls(l:XA K C)(y:(PySem.W.clsIn K C).isSome=true)(j:findIn K (.ref C) "__class__"=some (some<|.builtin "object.__class__"))(i:PySem.W.specialIn K (.builtin "object.__class__") "__get__"=some (some<|.builtin "getset_descriptor.__get__"))
  (u:PySem.W.takesIn K (.builtin "object.__class__")=some true) (g:PySem.W.mroIn K C (.type "object")=some true):PySem.W.KitX K (.ref x) (.ref C) (λh=>PySem.W.InstAt h x ox C od) where
 ty:=λ_ _ _ I=>I.type
 it:=λ_ _ X _=>by
  unfold PySem.W.clsIn at y;split at y
  ·rename_i d c r a p;intro M L J H k q;unfold isType loadHead;show mT<|GH (k _ _<|X _ _ p)<|nI q
  ·cases y
 ne:=λh Y G D n B X o=>by
  refine Bool.eq_false_iff.mpr λq=>?_
  have e:C=Y:=Value.ref.inj<|rG.mp q;subst e;unfold PySem.W.clsIn at y;split at y
  ·rename_i d c r a p;have z:=(X _ _ p).symm.trans o;cases z
  ·cases y
 ca:=λ{prog w A E Q s} X I k=>by
  have U:PySem.W.findObj K C od "__class__"=some (.bind (.builtin "getset_descriptor.__get__")<|.builtin "object.__class__"):=by
   obtain⟨cd,N⟩:=EW.mp y;unfold PySem.W.findObj;rw[N,Option.bind_some,j];simp[i,u]
  unfold getAttr? getAttrBy?;refine mT<|wpAny_mkText<|mT<|wpAny_attempt<|Oq (s:={s with toks:=s.toks+1}) X I l<|On (s:={s with toks:=s.toks+1}) (v:=.none) X I l U ?_;show uT<|PySem.W.class_get (s:={s with toks:=s.toks+1}) (ox:=ox) (od:=od) X I g<|nI<|nI k
end
def Yh1(K:lY)(u:TE)(f:lT):TE:=λz H Q=>u z H λx y=>∃e C Y w fs v,x=.ref e/\y e=some (qB e C<|some w)/\y w=some (.xd fs)/\vW K C Y/\XA K C/\findIn K (.ref C) f=some none/\fs.lookup f=some v/\Q v y
def VV{y:me}{pos:Pos}{g:TE}(he:PE X y g)(M:attributeBase y f X.env (eval y X.env)=eval y X.env):PE X (.Attribute y f pos) (Yh1 X.K g f):=by
 intro L s z H Q I h;refine Qc M<|ng (he L s z H _ I h) λu d G=>?_;obtain⟨x,a,w,E,e,C,Y,U,fs,v,D,B,hd,c,A,na,l,q⟩:=G;subst D;obtain rfl:u=Value.ref e:=E;obtain⟨o,x,ho,oc,od,p⟩:=qB.at w.hok B;obtain⟨mA,n,r⟩:=(show Yb X.prog X.w a d.heap U (.xd fs)from w.hok U _ hd)
 obtain⟨j,i,hl⟩:=GQ n;obtain⟨x,hu,N⟩:=pS.some_of (v:=v) (o:=mA f) (by rw[<-l];show r f);have J:PySem.W.InstAt d.heap e o C (some j):=#[ho,oc,by unfold PySem.W.notCls;rw[p],by rw[od];show i]
 show SS w.kIn J A (OD c.hd na rfl<|by rw[hl,hu]) (MA N) #[v,a,w.tok _,N,q]
end L2
end
section
namespace L2
open PySem PySem.Spec PyProof.Rows
section
variable {prog:mh} {w:md} {A:mi} {E:lV->lW->Prop} {h:ma} {g:Array GenState} {d:Drawn} {tk:Nat} {os:OsState} {nm qn:lT} {C N:lU} {bs bm bmB:lS lV} {hdct:Bool} {sn:lS lT} {sub:lS lV} {ab:Bool} {col:lX Bool} {dd:lX lU} {k0 k1 k2 k3 k5:lX lV} {B newId M9:String}
 {Zt:lS lV} {fI:lU} {oI:Obj}
def Zuv{Q:Fin->lW->Prop}(FB:ExcBaseFacts B newId M9 bmB)(T:OwnTail h bmB bm)(s:h.get? C=some (excClassObj nm qn C N bs bm hdct sn sub ab col dd k0 k1 k2 k3 k5 newId))(a:PySem.W.Looks (model prog w) h (typeLookup (.ref C) "__init__") (some<|.ref fI))
  (n:h.get? fI=some oI) (l:oI.cls=.type "function") (u:Zt.length<=sizeLine)
  (Y:∀h' e,Heap.MadeExcOf h h' e (.ref C) Zt->wpAny (model prog w) A (call (.ref fI)<|.ref e ::Zt) (λr s'=>r=.none/\Q (.done<|.ret<|.ref e) s') E #[h',g,d,tk,os]) :
  wpAny (model prog w) A (Builtin.«type.__call__» #[.ref C ::Zt,[]]) Q E #[h,g,d,tk,os]:=by
 repeat (first|with_reducible refine wpAny_madeBy_exc s ?_ |with_reducible refine AW s ?_ |wp_step)
 refine codeAny_call_builtin_code (wW _ FB.quiet)<|wpAny_check_new_subT FB T s<|codeAny_exc_new_subT FB T s ?_ u;change wpAny _ _ _ _ _ _;generalize i:({cls:=.type "tuple",data:=.seq Zt.toArray}:Obj)=p;generalize j:({cls:=.ref C,data:=.fields (List.toArray [.ref h.objs.size,.none,.none,.none,.bool false,.none])}:Obj)=q;have y:∀b o,h.get? b=some o->((h.push p).push q).get? b=some o:=λb o z=>nS _<|nS _ z
 have c:((h.push p).push q).get? (h.objs.size+1)=some q:=Heap.get?_push_at (by rw[tN]) (by rw[<-j];rfl);have U:((h.push p).push q).get? h.objs.size=some p:=nS _ (oG h<|by rw[<-i];rfl);have M:=y _ _ s;have L:q.cls=.ref C:=by rw[<-j]
 have same:(Value.ref C ::bm).contains (.ref C)=true:=by simp
 unfold isInstance
 repeat (first|(with_reducible refine AW c ?_;rw[L])|(with_reducible refine wpAny_isSubtype_exc M ?_;rw[same])|wp_step)
 change wpAny _ _ (typeLookup (.ref C) _) _ _ _;refine a A _ E _ y<|qx<|mT ?_;unfold bindSpecial;refine mT<|xk (T :="function") #[_,y _ _ n,l] ?_;rw[mY (by lk)];refine nI<|mT<|pT (Y _ (h.objs.size+1) #[y,xR<|sQ _,h.objs.size,by rw[c,j],xR<|nH _,by rw[U,i]]) (λr s' J=>?_) λ_ _ x=>x;obtain⟨rfl,I⟩:=J
 wp_walk
 show I
def Ru{Q:lV->lW->Prop}(FB:ExcBaseFacts B newId M9 bmB)(T:OwnTail h bmB bm)(y:h.get? C=some (excClassObj nm qn C N bs bm hdct sn sub ab col dd k0 k1 k2 k3 k5 newId))(s:PySem.W.Looks (model prog w) h (typeLookup (.ref C) "__init__") (some<|.ref fI))
  (x:h.get? fI=some oI) (u:oI.cls=.type "function") (z:Zt.length<=sizeLine)
  (q:∀h' e,Heap.MadeExcOf h h' e (.ref C) Zt->wpAny (model prog w) (A.under<|.builtin "type.__call__" #[.ref C ::Zt,[]]) (call (.ref fI)<|.ref e ::Zt) (λr s'=>r=.none/\Q (.ref e) s') E #[h',g,d,tk,os]) :
  wpAny (model prog w) A (call (.ref C) Zt) Q E #[h,g,d,tk,os]:=by
 have o:=tc_lookup;have n:=tc_bind<|.ref C;have l:(#[h,g,d,tk,os]:lW).TypeIs (.ref C) "type":=#[_,y,rfl]
 refine uT<|codeAny_of_tree ?_;change wpAny _ _ (callAny (.ref C) _) _ _ _
 repeat (any_goals (first|assumption|with_reducible refine AW y ?_ |wp_step))
 refine#[rfl,codeAny_call_builtin_at (wW _<|by left) entry_typeCall<|wpAny_check_type_call_sub y<|Zuv FB T y s x u z λh' e p=>q h' e p]
end
section
variable {E:lV->lW->Prop}
def WY{y:me}{pos:Pos}{Q:Flow->lW->Prop}(q:bm.contains (.type "BaseException")=true)(p:A.handled=none)
  (h:wpAny M A (eval y env) (λv z=>∃e t u,v=.ref e/\z.heap.get? C=some (excClassObj nm qn C N bs bm hdct sn sub ab col dd k0 k1 k2 k3 k5 newId)/\z.heap.get? e=some (uJ C t u)/\E (.ref e) z) E s) :
  wpAny M A (exec (.Raise (some y) none pos) env) Q E s:=by
 have w:(Value.ref C ::bm).contains (.type "BaseException")=true:=by rw[List.contains_cons,q];show Bool.or_true _
 change wpAny M A (do standAt pos;raiseStmt env (some (do let v <-eval y env;standAt pos;pure v)) none) Q E s;refine mT<|zu ?_;unfold raiseStmt;dsimp only;refine mT<|mT<|pT h (λv z ⟨e,t,u,o,r,he,n⟩=>mT<|zu<|nI ?_) λ_ _ x=>x;subst o;unfold uJ at he;obtain⟨x,g,d,l,os⟩:=z
 repeat (first|with_reducible refine AW he ?_ |with_reducible refine AW r ?_ |(with_reducible refine wpAny_isSubtype_exc r ?_;rw[w])|wp_step)
 show wpAny_raiseNew_none p n
end
inductive wq(C:lU)(f:lT):Sp
 | mk (e t v):vs=[.ref e,v]->H e=some (pL e C t none)->(∀dx,H dx=none->dx≠e->Q .non (mM (mM H e<|pL e C t<|some dx) dx<|.xd [(f,v)]))->wq C f vs H Q E
structure XI(K:Frag)(C Y fI:Addr)(f:Str):Prop where
 cls:vW K C Y
 kp:keepIn K (.ref C)=true
 init:findIn K (.ref C) "__init__"=some (some<|.ref fI)
 fn:PySem.W.typeIn K (.ref fI)=some (.type "function")
 sa:findIn K (.ref C) "__setattr__"=some (some<|.builtin "object.__setattr__")
 xa:XA K C
 na:findIn K (.ref C) f=some none
def SH(C:lU)(f:lT)(E:XK)(t:TA):TS:=λ_ z H=>t z H λw x=>∃v,w=[v]/\∀y,x y=none->E (.ref C) (some y) (mM x y<|.xd [(f,v)])
section
variable {P:mh} {w:md} {K:lY} {mg:lT->lX lV} {mG:ma} {N:lS lT} {qual:lT} {scope:Scope} {f:lU} {cd:lV} {A:mi} {mD:lS Env} {ml:lW} {mo:Hp} {E:XK}
def ye{x y:lT}{C Y L:lU}{fd:mj}{ps:lS lT}{k:Nat}{fn:lT}{np g9 pos:Pos}{G:me}{Zt:lS me}{t:TA}(B:XI K C Y L fn)(OY:BW K mg y Y vX "ValueError.__new__")(Fn:Y6 P w K mg mG oP k L fd ps (wq C fn))(hb:qr K fd ps [])
  (hr:Y8 (k+1) (pb (nX P w) P w K mg mG N qual scope f cd A mD ml mo E).A) (hg:Gl (pb (nX P w) P w K mg mG N qual scope f cd A mD ml mo E) x) (i:mg x=some (.ref C)) (ha:PA (pb (nX P w) P w K mg mG N qual scope f cd A mD ml mo E) (G ::Zt) t)
  (Q6:(x ==("__debug__":lT))=false:=by lk) (he:starEach (G ::Zt) (pb (nX P w) P w K mg mG N qual scope f cd A mD ml mo E).env=(false,eval G (pb (nX P w) P w K mg mG N qual scope f cd A mD ml mo E).env) ::starEach Zt (pb (nX P w) P w K mg mG N qual scope f cd A mD ml mo E).env:=by rfl)
  (u6:(backTo g9<|starEach Zt (pb (nX P w) P w K mg mG N qual scope f cd A mD ml mo E).env).any (·.1)=false:=by rfl) :
  PS (pb (nX P w) P w K mg mG N qual scope f cd A mD ml mo E) (.Raise (some<|.Call (.Name x np) (G ::Zt) [] g9) none pos) (SH C fn E t):=by
 intro c7 s z H D I h;obtain⟨nm,qn,N',bs,sn,sub,ab,col,dd,k0,k1,k2,k3,k5,hK⟩:=B.cls;refine WY (C:=C) (nm:=nm) (qn:=qn) (N:=N') (bs:=bs) (bm:=.ref Y ::vX) (hdct:=true) (sn:=sn) (sub:=sub) (ab:=ab) (col:=col) (dd:=dd) (k0:=k0) (k1:=k1) (k2:=k2) (k3:=k3) (k5:=k5) (newId :="ValueError.__new__") (by simp) (I.ok.hd rfl) ?_;refine uZ<|xJ I hg i ?_ Q6;refine zU (h₀:=mG) I.ok.mod.kin B.kp (ng (ha g9 c7 s z H _ I h) λp c ⟨d,g,j,r2,v,ev,hE⟩=>#[j.kIn,?_]) he u6;subst ev;obtain⟨u,rfl,ru⟩:=Wz r2;have hC:=j.kIn _ _ hK;obtain⟨tl,NY,vw,qY,Q,M,snY,p,abY,d,ddY,j0,j1,j2,j3,j5,mN,hY,hN,hni,_⟩:=(OY c.heap j.kIn).obj;have T:OwnTail c.heap vX (.ref Y ::vX):=.own hY hN hni .base;have LI:PySem.W.Looks (model P w) c.heap (typeLookup (.ref C) "__init__") (some<|.ref L):=zP j.kIn B.init;have tf:c.TypeIs (.ref L) "function":=by
  obtain⟨o,ho,hc⟩:=nW.mp B.fn;show#[o,j.kIn _ _ ho,hc]
 obtain⟨oI,hoI,hcI⟩:=tf;obtain⟨d,Q,M,tk2,p⟩:=c;refine Ru ri T hC LI hoI hcI (by rw[sO];change 1<=16777216;decide) λh' e i=>?_
 obtain⟨l,heX,_,_⟩:=i.there;obtain⟨w4,J⟩:=j.laidAt (h':=h') (t':=tk2) (a:=e) (o:=pL e C l none) i.keeps i.new<|pL.ok heX;have hl:ps.length=2:=by
  have:=Fn.len [.ref e,v] (mM g e<|pL e C l none) (λr _=>True) E0 #[e,l,v,rfl,Zc,λ_ _ _=>trivial];show this.symm
 refine uT (vn (Fn.run _ (pb (nX P w) P w K mg mG N qual scope f cd A mD ml mo E).stack _ _ #[[.ref e,u],[]] [.ref e,u] [.ref e,v] (λr H3=>r=.non/\∃n,g n=none/\n≠e/\H3=mM (mM (mM g e<|pL e C l none) e<|pL e C l<|some n) n (.xd [(fn,v)])) E0
  (hr.make C [u] []) (J.env0.make C [u] []) (hb _ [.ref e,u] J.kIn (by rw[qj,hl];rfl)) (.cons rfl<|.cons ru .nil) #[e,l,v,rfl,Zc,λn hn hd=>#[rfl,n,by rw[Zd hd]at hn;show hn,hd,rfl]]) λr s' U=>?_)
 cases r with
 | error q=>show False.elim U
 | ok fl =>
  cases fl with
  | next=>show False.elim U
  | brk=>show False.elim U
  | cont=>show False.elim U
  | ret u' =>
   obtain⟨p,H3,os,Q,un,hok,rv,rfl,n,hn,hd,rfl⟩:=U;cases rv;have I3:=J.call' os un hok Q (λb q=>absurd q<|by simp);have q3:(mM (mM (mM g e<|pL e C l none) e<|pL e C l<|some n) n<|.xd [(fn,v)]) e=some (pL e C l<|some n):=by rw[Zd hd.symm,Zc]
   have M:=pL.at I3.hok q3;have I4:=I3.drop q3;have hH:yU (mM (mM (mM g e<|pL e C l none) e<|pL e C l<|some n) n<|.xd [(fn,v)]) e=mM g n (.xd [(fn,v)]):=by
    funext b
    by_cases y:b=e
    ·rw[y,EY,Zd hd.symm,w4]
    ·rw[Cr y]
     by_cases q:b=n
     ·rw[q,Zc,Zc]
     ·rw[Zd q,Zd y,Zd y,Zd q]
   rw[hH]at I4;refine#[rfl,e,l,some n,rfl,?_,M,?_]
   ·show I3.kIn _ _ hK
   change wpAny _ _ (leaving _<|.ref e) _ _ s';have T0:∀env∈(envOfC qual scope #v[ml] f cd ::mD),∀b,env.frame=some b->b∈e ::oi (envOfC qual scope #v[ml] f cd ::mD):=λenv he b hb=>pe _<|yR.mpr #[env,he,hb]
   refine Nd (mG:=PySem.W.hideAll s'.heap<|e ::oi (envOfC qual scope #v[ml] f cd ::mD)) I4.ok.frames (OV I4.stack T0) rfl M (λb o p=>CN _ p) (MP _ oM) rfl rfl #[rfl,rfl] λh'' fl up=>?_
   refine Ig I4 fl up (λb o p d h3=>Fm _ p λq=>?_)<|hE n hn;rcases nV.mp q with y|y
   ·subst y;rcases d with⟨p,d⟩|d
    ·obtain⟨o2,h4⟩:=j.mG.there b p d (by change b∉([]:lS lU);simp);have:=i.new;rw[h4]at this;cases this
    ·rw[Zd hd.symm]at d;show d w4
   ·show h3 y
end
section
variable {K:lY} {M:Model} {A:mi} {E:lV->lW->Prop} {s:lW} {e C B:lU} {o:Obj} {r:Bool}
def YZ{Q:Bool->lW->Prop}(X:K.In s.heap)(he:s.heap.get? e=some o)(y:o.cls=.ref C)(kB:PySem.W.kitCls K (.ref B) (.type "BaseException")=some true)(x:PySem.W.kitCls K (.ref C) (.ref B)=some r)(z:Q r s) :
  wpAny M A (excMatches (.ref e)<|.ref B) Q E s:=by
 obtain⟨tB,w,u⟩:=PySem.W.kit_cls (M:=M) X x;obtain⟨_,_,q⟩:=PySem.W.kit_cls (M:=M) X kB;have p:PySem.W.Looks M s.heap (typeOf<|.ref e) (.ref C):=y ▸ (PySem.W.Looks.ld he).andThen .now;have f:=tc_notTuple;unfold excMatches isExcClass
 repeat (first|with_reducible refine p.here ?_ |with_reducible refine tB.here ?_ |with_reducible refine w.here ?_ |with_reducible refine u.here ?_ |with_reducible refine q.here ?_ |wp_step)
 cases r with
 | true=>repeat (first|show z|wp_step)
 | false=>repeat (first|show z|wp_step)
end
def pV.blur(D:pV)(n:Nat):pV:={nx:=λ_ H=>D.nx (List.replicate n none) H,rt:=D.rt,bk:=λ_ H=>D.bk (List.replicate n none) H,ct:=λ_ H=>D.ct (List.replicate n none) H}
variable {X:Cx}
def WS.tryAs{x n:lT}{B:lU}{i:Nat}{np M8 pos:Pos}{body suite:lS lZ}{Y:lZ}{D:pV}{Ex:XK}{R:lU->lX lU->Hp->Prop}(hm:X.mg x=some (.ref B))(kB:PySem.W.kitCls X.K (.ref B) (.type "BaseException")=some true)(hg:Gl X x)(hN:X.N.Nodup)(hi:X.N[i]? =some n)(hlo:X.env.kindOf n=some .local)(hsc:X.env.scope.names.lookup n=some .local)
  (A5:X.stack=X.env ::X.mD) (hfm:X.env.frame=some X.env.locals) (hcm:X.calm=true) (S8:X.ex=[]) (hE:∀cls L a,Ex cls L a->∃C,cls=.ref C/\PySem.W.kitCls X.K (.ref C) (.ref B)=some true/\R C L a)
  (hb:∀pn xe,sJ (nX X.prog X.w) (X.tried pn xe) Ex->WSs (X.tried pn xe) body D z H) (hh:∀(j C:lU)(L:lX lU)(l:St)(a:Hp),l.length=X.N.length->R C L a->a j=none->WSs (X.caught j) (Y ::suite) (D.blur X.N.length) (l.set i<|some<|.ref j) (mM a j<|qB j C L)) (hd:(x ==("__debug__":lT))=false:=by lk) :
  WS X (.Try body [.ExceptHandler (some<|.Name x np) (some n) (Y ::suite) M8] [] [] pos) D z H:=by
 refine#[λG s I=>?_];refine wpAny_Try_except ?_;have pass:sJ (nX X.prog X.w) (X.tried (X.pn++G) λe mn=>wpAny (model X.prog X.w) X.A (noteFrame e X.env) (λ_ w=>wpAny (model X.prog X.w) X.A (setFlight e none) (λ_ mw=>wpAny (model X.prog X.w) X.A (handleBy e X.env [.ExceptHandler (some<|.Name x np) (some n) (Y ::suite) M8]) (SP X G D) X.xe mw) X.xe w) X.xe mn) Ex:=by
  intro y7 l H1 s1 e s2 I1 hc;obtain⟨j,cls,L,H2,rfl,os,E,un,hok,⟨a0,B0,fl,pB⟩,hEx⟩:=hc;obtain⟨C,rfl,kC,hR⟩:=hE _ _ _ hEx;have IX:mK X G l H1 s1:=I1.tryOut;have I2:mK X G l H2 s2:=IX.call' os un hok E (λb y=>absurd y<|by simp);have fr:∀b∈oi X.stack,H2 b=none/\∃o,s2.heap.get? b=some o/\∀vs,o.data≠.fields vs:=λb hb=>#[I2.stkFree b hb,(I2.stack.mem hb).2]
  have step:∀h',B0.StaysIn h'->s2.heap.UpToSlots h'->mK X G l H2 {s2 with heap:=h'}:=λh' st up =>
   let⟨u,k⟩:=UA un hok fr st up pB
   IX.call' (s':={s2 with heap:=h'}) os u k E (λb y=>absurd y<|by simp)
  have new:∀b o,s1.heap.get? b=some o->b≠j:=λb o q y=>by
   subst y;obtain⟨ob,B7,_,_,vs,K3⟩:=fl.there
   by_cases hf:b∈oi X.stack
   ·obtain⟨_,c,w,p⟩:=fr b hf;rw[B7]at w;cases w;show p vs K3
   ·have:=pB b ob B7 (.inl #[o,q]) hf;rw[fl.2.1]at this;cases this
  have non:H2 j=none:=by
   cases q:H2 j with
   | none=>rfl
   | some u =>
    obtain⟨ob,B7,_⟩:=fl.there;have:=pB j ob B7 (.inr (by rw[q];show xE _)) (λy=>by have:=(fr j y).1;rw[q]at this;cases this);rw[fl.2.1]at this;cases this
  have fl:qd B0 (X.env ::X.mD) j (.ref C) a0 L .none s2.heap:=by rw[<-A5];show fl
  have A4:X.A.frames=some (X.env ::X.mD):=by rw[<-A5];show I2.ok.frames
  change wpAny (model X.prog X.w) X.A (noteFrame (.ref j) X.env) _ _ s2;refine NK A4 hfm fl λh₄ U sm₄=>Da (s:={s2 with heap:=h₄}) U λmz g sm₅=>?_
  have A:s2.heap.UpToSlots mz:=sm₄.trans sm₅;have I5:=(step mz g.1 A).catch j;refine wpAny_handleBy_cons (codeAny_handlers_test<|xJ I5 hg hm ?_ hd) (by intro q;cases q);obtain⟨ob,B7,hobc,_⟩:=g.there;refine YZ I5.kIn B7 hobc kB kC<|codeAny_handlers_suite_as ?_;refine Da (s:={s2 with heap:=mz}) g λN d sm₆=>?_
  have I6:=step N d.1<|A.trans sm₆;obtain⟨w,ho6,oc6,od6,vs6,ov6⟩:=d.there;have oc2:vs6[2]? =some .none:=by
   obtain⟨ob,vs,q1,q2,q3⟩:=d.ctx;rw[ho6]at q1;cases q1;rw[ov6]at q2;cases q2;show q3
  have I7:mK X G l (mM H2 j<|qB j C L) {s2 with heap:=N}:=I6.track non
   (by
    cases q:X.ml.heap.get? j with
    | none=>rfl
    | some o =>
     obtain⟨w,q'⟩:=IX.mG.there j o q (by rw[S8];simp);show absurd rfl<|new j w q')
   (λy=>by
    obtain⟨m,⟨o,_,_,q,_⟩,_⟩:=IX.loc;show new _ o q y.symm)
   (λw c q=>by
    obtain⟨v,o,q',_⟩:=IX.cell w c q;show new c o q')
   (λp q=>new p.1 p.2 (IX.pin p q).1) (qB.ok ho6 oc6 od6 ov6 oc2)
  refine Gu (X:=X.caught j) (s:={s2 with heap:=N}) (I7.catch j) hN hi (.inl hsc) (v:=.ref j) rfl (λw I8=>?_)<|.inr hsc;refine pT ((hh j C L l H2 IX.len hR non).run G _ I8) (λf mw q=>?_) λ_ _ y=>False.elim y
  have hX:=I.ok.hd hcm;have Bd:∀{h:St}{M:Hp}{s3:lW}{Q:Unit->lW->Prop},mK (X.caught j) G h M s3->(∀s4,mK X G (List.replicate X.N.length none) M s4->Q () s4)->wpAny (model X.prog X.w) X.A (do bindName X.env n .none;unbindBehindTheSuite X.env n M8) Q X.xe s3:=by
   intro h M s3 Q J k;obtain⟨m,hn,_⟩:=J.loc;refine wpAny_nameGoes hlo hn (by rw[J.ok.kind];rfl) λh' m' U6 N0=>k _ ?_
   show(J.uncatch hX).forget U6 N0
  cases f with
  | next=>obtain⟨h,M,J,q⟩:=q;show Bd J λs4 J4=>#[_,M,J4,q]
  | brk=>obtain⟨h,M,J,q⟩:=q;show Bd J λs4 J4=>#[_,M,J4,q]
  | cont=>obtain⟨h,M,J,q⟩:=q;show Bd J λs4 J4=>#[_,M,J4,q]
  | ret u=>obtain⟨v,h,M,J,r,q⟩:=q;show Bd J λs4 J4=>#[v,_,M,J4,r,q]
 refine pT ((hb _ _ pass).run [] s (I.tryIn _)) (λf mn q=>?_) λe mn y=>y
 cases f with
 | next =>
  obtain⟨l,a,J,q⟩:=q;show Au #[l,a,J.tryOut,q]
 | brk=>obtain⟨l,a,J,q⟩:=q;show#[l,a,J.tryOut,q]
 | cont=>obtain⟨l,a,J,q⟩:=q;show#[l,a,J.tryOut,q]
 | ret u=>obtain⟨v,l,a,J,r,q⟩:=q;show#[v,l,a,J.tryOut,r,q]
structure XG(K:Frag)(C:Addr):Prop where
 xa:XA K C
 hc:(PySem.W.clsIn K C).isSome=true
 cl:findIn K (.ref C) "__class__"=some (some<|.builtin "object.__class__")
 cg:PySem.W.specialIn K (.builtin "object.__class__") "__get__"=some (some<|.builtin "getset_descriptor.__get__")
 ct:PySem.W.takesIn K (.builtin "object.__class__")=some true
 ob:PySem.W.mroIn K C (.type "object")=some true
def SN(K:lY):lS V->Hp->VK->Prop:=λx H Q=>∃e C z fs c b,x=[.ref e,c]/\H e=some (qB e C<|some z)/\H z=some (.xd fs)/\XG K C/\((∃n,c=.ty n/\kitOne K (.ref C) (.type n)=some b)\/(∃a,c=.ref a/\kitOne K (.ref C) (.ref a)=some b)\/
 ∃(a:lU)(y:lS lU),c=.ref a/\H a=some (.tup<|y.map V.ref)/\PySem.W.kitAny K (.ref C) (y.map Value.ref)=some b)/\Q (.bl b) H
theorem we:∀{z:lS lU}{y:lS lV},Z8 (z.map V.ref) y->y=z.map Value.ref
 | [],_,.nil=>rfl
 | c ::z,_,.cons r t=>by
  rw[we t];cases r
  rfl
def RE{X:Cx}:Xd X (.builtin "isinstance") (SN X.K):=by
 intro c7 s z H xs us Q I r h;obtain⟨e,C,d,fs,c,b,rfl,he,Y,g,k,q⟩:=h;obtain⟨u,x,rfl,U,l⟩:=wg r;obtain rfl:u=Value.ref e:=U;obtain⟨o,x,N,M,L,j⟩:=qB.at I.hok he;obtain⟨x,n,_⟩:=(show Yb X.prog X.w H s.heap d (.xd fs)from I.hok d _ Y)
 obtain⟨w,i,_⟩:=GQ n;have J:PySem.W.InstAt s.heap e o C (some w):=#[N,M,by unfold PySem.W.notCls;rw[j],by rw[L];show i]
 have Z:PySem.W.KitX X.K (.ref e) (.ref C) (λh=>PySem.W.InstAt h e o C<|some w):=Ls g.xa g.hc g.cl g.cg g.ct g.ob;rcases k with⟨x,rfl,k⟩|⟨a,rfl,k⟩|⟨a,G,rfl,E,k⟩
 ·cases l;show rE Z I.kIn J k (λy=>nomatch y) λp=>#[.bl b,H,I.tok p,rfl,q]
 ·cases l;show rE Z I.kIn J k (λy=>nomatch y) λp=>#[.bl b,H,I.tok p,rfl,q]
 ·cases l;obtain⟨_,c8,D,B,A,c,n2,x⟩:=(show Yb X.prog X.w H s.heap a (.tup<|G.map V.ref)from I.hok a _ E)
  rw[we D]at x;obtain⟨c1,c2,c3,c4⟩:=B;dsimp only at c x;subst c x;show PySem.W.kia_tup Z I.kIn J A k (λy=>nomatch y) λp=>#[.bl b,H,I.tok p,rfl,q]
def Zqa:typeLookup (.type "list") "keys"=pure none:=by rw[typeLookup_type,builtinLookup_eq_fast];kernel_rfl
def TQ:typeLookup (.type "list") "__getattr__"=pure none:=by rw[typeLookup_type,builtinLookup_eq_fast];kernel_rfl
def GO:isSubtype (.type "AttributeError") (.type "AttributeError")=pure true:=by rw[isSubtype_type];kernel_rfl
section
variable {prog:mh} {w:md} {A:mi} {E:lV->lW->Prop} {h:ma} {g:Array GenState} {d:Drawn} {t:Nat} {os:OsState} {a:lU} {vs:Array lV} {n:Nat}
def TR{z:Type}{Q:z->lW->Prop}(j:A.handled=none)(U:msg.length<=sizeLine)
  (i:∀h' e c,(∀b u,h.get? b=some u->h'.get? b=some u)->(∃p,h'.get? e=some p/\p.cls=.type "AttributeError")->E (.ref e) #[h',g,d,c,os]) :
  wpAny (model prog w) A (raiseAttrError (.ref a) "keys" msg:Sem z) Q E #[h,g,d,t,os]:=by
 have N:=GO;have r:¬msg.length >sizeLine:=by lia
 unfold raiseAttrError newExc
 repeat (any_goals (first|assumption|rw[mV r]|wp_step))
 generalize x:({cls:=Value.type "AttributeError",data:=Data.fields ((List.toArray [Value.ref h.objs.size,Value.none,Value.none,Value.none,Value.bool false,if((Manifest.find? "AttributeError").elim false λt=>t.mro.contains "StopIteration"|| t.mro.contains "SystemExit")=true then[Value.str msg t].headD Value.none else Value.none])++ownMembersOf (Value.type "AttributeError") [Value.str msg t])}:Obj)=s;have q:s.cls=.type "AttributeError":=by rw[<-x]
 have y:∃o,s.data=.fields o:=#[_,by rw[<-x]]
 obtain⟨o,y⟩:=y;have Y:((h.push {cls:=Value.type "tuple",data:=Data.seq (List.toArray [Value.str msg t])}).push s).get? (h.push {cls:=Value.type "tuple",data:=Data.seq (List.toArray [Value.str msg t])}).objs.size=some s:=oG _<|Do y;refine wpAny_raiseNew_none j<|i _ _ _ (λb u l=>?_) #[_,CS _ Y<|Do<|Cb y _,by rw[Obj.cls_mapFields];show q];rw[tW _ _ (by rw[tN];show xA<|ET<|nQ l)];show nS _<|nS _ l
def Ts{Q:Fin->lW->Prop}(y:A.handled=none)(x:h.get? a=some {cls:=.type "list",data:=.seq vs n})
  (s:∀h' e r,(∀b u,h.get? b=some u->h'.get? b=some u)->(∃z,h'.get? e=some z/\z.cls=.type "AttributeError")->E (.ref e) #[h',g,d,r,os]) :
  wpAny (model prog w) A (Builtin.«object.__getattribute__» #[[.ref a,.str "keys" q],[]]) Q E #[h,g,d,t,os]:=by
 have p:(#[h,g,d,t,os]:lW).TypeIs (.ref a) "list":=#[_,x,rfl]
 have o:=Zqa;have l:=GO
 repeat (any_goals (first|assumption|wp_step))
 show TR y (by left) s
def Ew{Q:lX lV->lW->Prop}(x:A.handled=none)(y:h.get? a=some {cls:=.type "list",data:=.seq vs n})
  (s:∀h' z,(∀b u,h.get? b=some u->h'.get? b=some u)->Q none #[h',g,d,z,os]):wpAny (model prog w) A (getAttr? (.ref a) "keys") Q E #[h,g,d,t,os]:=by
 have o:(#[h,g,d,t,os]:lW).TypeIs (.ref a) "list":=#[_,y,rfl]
 have l:=Bx.lookup;have j:=Bx.bind<|.ref a;have i:=GO;have c:=TQ;unfold getAttr? getAttrBy?
 repeat (any_goals (first|assumption|wp_step))
 refine BL Bx.plain F.entry_list_ga<|Bx.check _ _ _ _ _ _ _ _ (show(#[h,g,d,t+1,os]:lW).TypeIs (.ref a) "list" from#[_,y,rfl]) (F.args_list_getattribute_2 _ _)<|Ts x y λh' e z r ⟨Y,he,q⟩=>?_;have p:(#[h',g,d,z,os]:lW).TypeIs (.ref e) "AttributeError":=#[_,he,q]
 have U:=s h' z r;unfold getattributeRaised
 repeat (any_goals (first|assumption|wp_step))
 all_goals trace_state
end
def Dh:entryFor table "dict.update.loop"=some Builtin.«dict.update.loop» :=entryFor_of_tree (by kernel_rfl)
section
variable {prog:mh} {w:md} {KT:Type} [DecidableEq KT] {knd:KeyKind prog w KT} {A:mi} {R:Result->lW->Prop} {l d it:lU} {tps:lS lU} {prs D0:lS (KT×lV)} {h₀:ma}
def zY(knd:KeyKind prog w KT)(h:ma)(tps:lS lU)(prs:lS (KT×lV)):Prop:=Paired (λp (q:KT×lV)=>∃key o n,knd.is q.1 key=true/\h.get? p=some o/\o.cls=.type "tuple"/\o.data=.seq (List.toArray [key,q.2]) n) tps prs
def NI(hh:A.handled=none)(h:d≠it)(hl:h₀.IsList l (tps.map Value.ref).toArray)(U:l≠d)(Q:l≠it)(hp:zY knd h₀ tps prs)(hsz:D0.length+prs.length<=sizeLine)(J:∀p∈tps,p≠d/\p≠it) :
  ∀(n i:Nat)(s:lW)(j:Int)(I:Tok),i+n=prs.length->s.heap.IsListIter it l i->s.heap.DictOf knd d (merged D0<|prs.take i)->(∀b o,b≠d->b≠it->h₀.get? b=some o->s.heap.get? b=some o)->
   (∀h' H,h'.DictOf knd d (merged D0 prs)->(∀b o,b≠d->b≠it->h₀.get? b=some o->h'.get? b=some o)->R (.ok<|.ret .none) {s with heap:=h',toks:=H})->
   codeAny (model prog w) A (.builtin "dict.update.loop" #[[.ref d,.ref it,.int j I,.none],[]]) R s:=by
 have g8:tps.length=prs.length:=nJ hp;intro n
 induction n with
 | zero =>
  intro i s j I hi g M y G;have E:s.heap.IsList l (tps.map Value.ref).toArray:=by
   obtain⟨o,e,r⟩:=hl;show#[o,y _ _ U Q e,r]
  refine yT Dh ?_;unfold Builtin.«dict.update.loop»;dsimp only;refine mT<|Ev hh g E (by rw[Dv,nR,uV<|by lia];rfl) λh' z=>?_;dsimp only;refine mT<|nI<|nI ?_;refine G h' s.toks ?_ ?_
  ·rw[show prs.take i=prs from tF<|by lia]at M;obtain⟨o,D,C,e,r⟩:=M;show#[o,D,C,z d o h e,r]
  ·show λb o Y L u=>z b o L (y b o Y L u)
 | succ n ih =>
  intro i s j I hi g M y G;have E:s.heap.IsList l (tps.map Value.ref).toArray:=by
   obtain⟨o,e,r⟩:=hl;show#[o,y _ _ U Q e,r]
  have B:i<tps.length:=by lia
  obtain⟨q,hqi,key,ot,z,hk,S2,hct,hdt⟩:=Paired.get hp (i:=i) (a:=tps[i])<|oE B;obtain⟨nd,ni⟩:=J tps[i] (Eo B);refine yT Dh ?_;unfold Builtin.«dict.update.loop»;dsimp only;refine mT<|Eg g E (x:=.ref tps[i]) (by rw[Dv,nR,oE B];rfl) λY it1 c=>?_;have u:Y.get? tps[i]=some ot:=by rw[c.2 _ ni];show y _ _ nd ni S2
  have hT:({s with heap:=Y}:lW).TypeIs (.ref tps[i]) "tuple":=#[_,u,hct]
  have M4:Y.DictOf knd d (merged D0<|prs.take i):=by
   obtain⟨o,D,C,e,r⟩:=M;show#[o,D,C,by rw[c.2 _ h];show e,r]
  refine mT<|qx<|mT<|wpAny_tryCatch ?_;unfold Builtin.Dict.pairItems;refine mT<|xk hT ?_;rw[mY (by lk)];refine mT<|wpAny_seqItems (s:={s with heap:=Y}) u hdt<|nI ?_;refine qx<|wpAny_dictSet_pairs hk M4 (λL A6 N=>?_) ?_
  ·refine nI #[wW _ (by left),?_];have A5:stored (merged D0<|prs.take i) q.1 q.2=merged D0 (prs.take<|i+1):=(merged_take_succ D0 prs i q hqi).symm;rw[A5]at A6;refine ih (i+1) {s with heap:=L,toks:=s.toks+1} (j+1) _ (by lia) ?_ A6 (λb o n1 n2 z=>?_) λh' H=>G h' H
   ·show it1.at λo z=>by rw[N.2 _ h.symm];show z
   ·rw[N.2 _ n1,c.2 _ n2];show y b o n1 n2 z
  ·have:=merged_length_le (K:=KT) D0<|prs.take i;rw[oy]at this;lia
def Rk{Q:lV->lW->Prop}{E:lV->lW->Prop}(G:A.handled=none)(U:s.heap.get? l=some {cls:=.type "list",data:=.seq (tps.map Value.ref).toArray n})(D:zY knd s.heap tps prs)(hsz:prs.length<=sizeLine)
  (h:∀h' N dd,h'.DictOf knd dd (merged [] prs)->dd=#v[s]->s.heap.get? dd=none->(∀b o,s.heap.get? b=some o->h'.get? b=some o)->Q (.ref dd) {s with heap:=h',toks:=N}) :
  wpAny (model prog w) A (call (.type "dict") [.ref l]) Q E s:=by
 refine callType_codes (Q₁:=λobj C=>obj=.ref #v[s]/\C={s with heap:=s.heap.push {cls:=.type "dict",data:=.dict #[]}}) F.kt_called_dict (F.kt_typeCall_dict_1 _) F.entry_dict_init (kt_code_dict_new _ #[rfl,rfl]) ?_;rintro obj C ⟨rfl,rfl⟩;have M:(s.heap.push {cls:=.type "dict",data:=.dict #[]}).DictOf knd #v[s] []:=Heap.DictOf.new s.heap;have x:(s.heap.push {cls:=.type "dict",data:=.dict #[]}).get? l=some {cls:=.type "list",data:=.seq (tps.map Value.ref).toArray n}:=nS _ U;refine#[M.typeIs,F.args_dict_init_2 _ _,?_];unfold Builtin.«dict.__init__»;refine mT ?_;unfold Builtin.Dict.selfAndRest;refine mT<|Em M.typeIs ?_;change wpAny _ _ (pure (#v[s],[Value.ref l])) _ _ _;refine nI ?_;change wpAny _ _ (Builtin.Dict.updateFrom "dict.__init__" #v[s] (.ref l) [] .none) _ _ _;unfold Builtin.Dict.updateFrom;refine mT<|xk (T :="list") #[_,x,rfl] ?_;rw[mY (by lk)];obtain⟨u,B,d0,r,j⟩:=s;dsimp only at *;refine mT<|Ew G x λy g c=>?_;simp only[Gz,sP];have L:=c _ _ x;have O8:y.IsList l (tps.map Value.ref).toArray:=#[_,L,rfl,n,rfl]
 refine mT<|uN<|mT<|wM (s:=#[y,B,d0,g,j]) O8<|nI #[wW _ (by left),?_];have J:∀b o,u.get? b=some o->(y.push {cls:=.type "list_iterator",data:=.fields (List.toArray [.ref l,.int 0 0])}).get? b=some o:=λb o z=>nS _<|c _ _<|nS _ z
 have I:y.get? u.objs.size=some {cls:=.type "dict",data:=.dict #[]}:=c _ _<|oG u rfl;have Y:u.objs.size<y.objs.size:=nQ I;have e:l<u.objs.size:=nQ U;refine NI (A:=A.in1) (knd:=knd) (h₀:=y.push {cls:=.type "list_iterator",data:=.fields (List.toArray [.ref l,.int 0 0])}) (l:=l) (tps:=tps) (prs:=prs) (D0:=[]) G (nU Y) ?_ (nU e) (nU<|rj e Y) ?_ (by simpa using hsz) (λp z=>?_) prs.length 0 #[y.push {cls:=.type "list_iterator",data:=.fields (List.toArray [.ref l,.int 0 0])},B,d0,g,j] 0 0 (by lia) ?_ ?_ (λ_ _ _ _ z=>z) λh' N hD kp=>?_
 ·show#[_,J _ _ U,rfl,n,rfl]
 ·show Paired.mapP D λp q ⟨key,o,m,r,H,i⟩=>#[key,o,m,r,J _ _ H,i]
 ·obtain⟨i,r,rfl⟩:=wp z;obtain⟨q,_,key,o,m,_,H,_⟩:=Paired.get D (i:=i) (a:=tps[i])<|oE r;have:=nQ H;show#[nU this,nU<|rj this Y]
 ·show#[_,oG y rfl,rfl,rfl]
 ·obtain⟨o,i,ep,ho,r⟩:=M;show#[o,i,ep,nS _<|c _ _ ho,r]
 ·refine#[rfl,h h' N u.objs.size hD rfl (xR<|nH _) λb o z=>kp b o ?_ ?_<|J b o z]
  ·show nU<|nQ z
  ·show nU<|rj (nQ z) Y
end
def BZ:lS V->Hp->VK->Prop:=λx H Q=>∃(l:lU)(y:lS lU)(z:lS (nj×V)),x=[.ref l]/\H l=some (.lst<|y.map V.ref)/\Paired (λt (q:nj×V)=>H t=some (.tup [kV q.1,q.2])) y z/\(z.map fst).Nodup/\pK H (.dK z) Q
def Ee(D:X.calm=true):Xd X (.type "dict") BZ:=by
 intro c7 s z H xs us Q I r h;obtain⟨l,j,w,rfl,C,i,B,q⟩:=h;obtain⟨u,rfl,A⟩:=Wz r;cases A;obtain⟨hz,c8,n,g,M⟩:=(show Yb X.prog X.w H s.heap l (.lst<|j.map V.ref)from I.hok l _ C)
 rw[we g]at M;have key:∀{j:lS lU}{w:lS (nj×V)},Paired (λt (q:nj×V)=>H t=some (.tup [kV q.1,q.2])) j w->∃x:lS (nj×lV),KV w x/\zY (Zy X.prog X.w) s.heap j x:=by
  intro j w i
  induction i with
  | nil=>show#[[],.nil,.nil]
  | cons r t e =>
   rename_i p q _ _;obtain⟨x,h1,h2⟩:=e;obtain⟨_,c8,g,o,ho,w9,m,hd⟩:=(show Yb X.prog X.w H s.heap p (.tup [kV q.1,q.2])from I.hok p _ r)
   obtain⟨k,v,rfl,rk,d⟩:=wg g;show#[(q.1,v) ::x,.cons #[rfl,d] h1,.cons #[k,o,m,uG rk,ho,w9,hd] h2]
 obtain⟨x,c,a⟩:=key i;have L:w.length<=sizeLine:=by
  have:=nJ i;rw[mO]at hz;lia
 have T9:(x.map fst).Nodup:=by
  have:∀{w:lS (nj×V)}{x:lS (nj×lV)},KV w x->x.map fst=w.map fst:=by
   intro w x y
   induction y with
   | nil=>rfl
   | cons r t e=>rw[oh,oh,e,r.1]
  rw[this c];show B
 refine Rk (I.ok.hd D) M a (by rw[<-KV.length c];show L) λh' A1 Y G U U6 k=>?_
 rw[merged_nil_of_nodup x T9]at G;have N:Y≠sysModules:=λy=>by
  have E:=I.big;rw[<-U,y]at E;show qT _ E
 obtain⟨hH,J⟩:=I.laidAt (t':=A1) (o:=.dK w) k U6<|yb L (su.mpr N) c G;show#[.ref Y,_,J,rfl,q.at Y hH]
def Tb:bootBuiltins "ValueError"=some (.type "ValueError"):=by left
def EU{fr:St->St}(Pv:Nat->lS V->Hp->Prop)(n:Pv 0 [] (mM l D<|.lst []))(j:∀i w H,i<=kvs.length->Pv i w H->H d=some (.frz o<|.dK kvs))
  (h:∀i kv w H,kvs[i]? =some kv->Pv i w H->∀p u,mF H u->H p=none->u p=some (.tup [kV kv.1,kv.2])->qu fr g c Y z D (.ref p) w u (Pv<|i+1)) (hd:∀w H,Pv kvs.length w H->Q (.ref D) H):rW (zi d o kvs) fr g c Y Q z l D:=by
 refine#[λi m w H=>m=kvs.length-i/\i<=kvs.length/\Pv i w H,#[kvs.length,by simp,pJ _,n],?_];rintro i m w H ⟨rfl,U,p⟩;have q:=j i w H U p
 by_cases s:i<kvs.length
 ·refine .inr #[#[q,s],Pv<|i+1,λI N M=>#[kvs.length-(i+1),sN _ _ s,rfl,s,M],λx N y=>?_];obtain⟨a,kv,e,r,L,J⟩:=y;subst e J;show h i kv w H L p a _ (mF.new r) r Zc
 ·have e:i=kvs.length:=by lia
  subst e;show .inl #[#[q,nH _],hd w H p]
def Zt5{K:lY}{t c:lV}{b:Bool}(h:kitOne K t c=some b)(n:(t ==c)=false):PySem.W.kitCls K t c=some b:=by
 unfold kitOne at h;rw[mV (by rw[n];show oW)]at h;show h
section
variable {prog:mh} {w:md} {KT:Type} [DecidableEq KT] {knd:KeyKind prog w KT} {A:mi} {l d:lU} {tps:lS lU} {prs D0:lS (KT×lV)} {s:lW} {Q:lV->lW->Prop} {E:lV->lW->Prop} {n:Nat}
def Rn(G:A.handled=none)(c:s.heap.DictOf knd d D0)(x:s.heap.get? l=some {cls:=.type "list",data:=.seq (tps.map Value.ref).toArray n})(D:zY knd s.heap tps prs)(hsz:D0.length+prs.length<=sizeLine)(Y:l≠d)(U:∀p∈tps,p≠d)
  (h:∀h' N,h'.DictOf knd d (merged D0 prs)->(∀b o,b≠d->s.heap.get? b=some o->h'.get? b=some o)->Q .none {s with heap:=h',toks:=N}):wpAny (model prog w) A (call (.builtin "dict.update") [.ref d,.ref l]) Q E s:=by
 refine uT<|BL FY.plain F.entry_dict_update<|FY.check _ _ _ _ _ _ _ _ c.typeIs (F.args_dict_update_2 _ _) ?_;unfold Builtin.«dict.update»;refine mT ?_;unfold Builtin.Dict.selfAndRest;refine mT<|Em c.typeIs ?_;change wpAny _ _ (pure (d,[Value.ref l])) _ _ _;refine nI ?_;change wpAny _ _ (Builtin.Dict.updateFrom "dict.update" d (.ref l) [] .none) _ _ _;unfold Builtin.Dict.updateFrom;refine mT<|xk (T :="list") #[_,x,rfl] ?_;rw[mY (by lk)];obtain⟨C,B,d0,i,u⟩:=s;dsimp only at *;refine mT<|Ew G x λy r M=>?_;simp only[Gz,sP];have L:=M _ _ x;have O8:y.IsList l (tps.map Value.ref).toArray:=#[_,L,rfl,n,rfl]
 refine mT<|uN<|mT<|wM (s:=#[y,B,d0,r,u]) O8<|nI #[wW _ (by left),?_];have g:∀b o,C.get? b=some o->(y.push {cls:=.type "list_iterator",data:=.fields (List.toArray [.ref l,.int 0 0])}).get? b=some o:=λb o z=>nS _<|M _ _ z
 obtain⟨od,J,I,j,rd⟩:=c;have e:∀b o,C.get? b=some o->b≠y.objs.size:=λb o z=>nU<|nQ<|M b o z
 refine NI (A:=A) (knd:=knd) (h₀:=y.push {cls:=.type "list_iterator",data:=.fields (List.toArray [.ref l,.int 0 0])}) (l:=l) (d:=d) (it:=y.objs.size) (tps:=tps) (prs:=prs) (D0:=D0) G (e _ _ j) ?_ Y (e _ _ x) ?_ hsz (λp z=>?_) prs.length 0 #[y.push {cls:=.type "list_iterator",data:=.fields (List.toArray [.ref l,.int 0 0])},B,d0,r,u] 0 _ (Nat.zero_add _) ?_ ?_ (λb o _ _ z=>z) λh' N A0 kp=>?_
 ·show#[_,g _ _ x,rfl,n,rfl]
 ·show Paired.mapP D λp q ⟨key,o,m,i,H,z3⟩=>#[key,o,m,i,g _ _ H,z3]
 ·obtain⟨i,hi,rfl⟩:=wp z;obtain⟨q,_,key,o,m,_,H,_⟩:=Paired.get D (i:=i) (a:=tps[i])<|oE hi;show#[U _ z,e _ _ H]
 ·show#[_,oG y rfl,rfl,rfl]
 ·show#[od,J,I,g _ _ j,rd]
 ·show h h' N A0 λb o i z=>kp b o i (e _ _ z)<|g b o z
end
def Sy(p o:TE):TE:=λz H Q=>p z H λx r=>∃a,x=.ref a/\Dg r a/\o z r λy s=>∃(l:lU)(u:lS lU)(w more:lS (nj×V)),y=.ref l/\s a=some (.dK w)/\s l=some (.lst<|u.map V.ref)/\Paired (λt (q:nj×V)=>s t=some (.tup [kV q.1,q.2])) u more/\w.length+more.length<=sizeLine/\Q .non (mM s a<|.dK<|zh w more)
section
variable {o e:me} {p0 g9:Pos} {td ty:TE}
def Rx(hc:X.calm=true)(M:PE X o td)(he:PE X e ty)(m:M1 X o "update" p0 e g9):PE X (.Call (.Attribute o "update" p0) [e] [] g9) (Sy td ty):=by
 intro c7 s z H Q I h;refine Hh m.mG m.few m.line yl FY PySem.F.type_dict_update<|ng (M c7 s z H _ I h) λu s1 h9=>?_;obtain⟨x,H1,I1,rx,a,ex,d,q1⟩:=h9;subst ex;obtain rfl:u=Value.ref a:=rx;obtain⟨t1,t2,_⟩:=GN I1 d;refine#[t1,t2,?_];rw[m.trees];refine vO rfl<|zF<|yL<|ng (he c7 s1 z H1 _ I1 q1) λiv L ⟨y,J,Y,ry,l,j,g,more,ey,U,G,N,hz,q2⟩=>Aw ?_;subst ey;obtain rfl:iv=Value.ref l:=ry;obtain⟨hzl,c8,n,E,hg⟩:=(show Yb X.prog X.w J L.heap l (.lst<|j.map V.ref)from Y.hok l _ G)
 rw[we E]at hg;obtain⟨hza,D,vs,x0,dd⟩:=wP Y.hok U;have key:∀{j:lS lU}{g:lS (nj×V)},Paired (λt (q:nj×V)=>J t=some (.tup [kV q.1,q.2])) j g->∃c:lS (nj×lV),KV g c/\zY (Zy X.prog X.w) L.heap j c:=by
  intro j g N
  induction N with
  | nil=>show#[[],.nil,.nil]
  | cons r t ih =>
   rename_i p q _ _;obtain⟨c,h1,h2⟩:=ih;obtain⟨_,c8,E,o,M,w9,m,hd⟩:=(show Yb X.prog X.w J L.heap p (.tup [kV q.1,q.2])from Y.hok p _ r)
   obtain⟨k,v,rfl,rk,C⟩:=wg E;show#[(q.1,v) ::c,.cons #[rfl,C] h1,.cons #[k,o,m,uG rk,M,w9,hd] h2]
 obtain⟨c,B8,B⟩:=key N;refine Rn (Y.ok.hd hc) dd hg B (by rw[<-x0.length,<-KV.length B8];show hz) (λw=>by rw[w,U]at G;cases G) (λp A w=>?_) λh' A1 A0 kp=>?_
 ·obtain⟨i,hi,e⟩:=wp A;obtain⟨q,_,hq⟩:=Paired.get N (i:=i) (a:=p) (by rw[oE hi,e]);rw[w,U]at hq;cases hq
 ·obtain⟨o',i9,ep',V4,r'⟩:=id A0;show#[.non,_,Y.write (x:=a) (e:=a) (t':=A1) (by rw[U];show qV) (.inl rfl) (λb u n w=>kp b u n w) #[_,V4]<|yb (by have:=KW more g;lia) D (B8.merge x0) A0,rfl,q2]
end
abbrev sr(pos:Pos)(q:lT):Array lV:=Xk [(pos.line,pos.col,q)]
abbrev Fz(o:Obj):HO:=.frz o<|.frz o<|.own 0
def Clo(H:Hp)(Pt u:lU)(q:lT)(s:Arguments)(r:me)(p:Scope)(z:lS (lT×lU)):Prop :=
 ∃(o n:lV)(c:lU)(y:Obj)(x:Array lV)(l:Nat)(w:lU),H u=some (Fz<|PySem.W.kla_obj "<lambda>" q s r p z o c n)/\H c=some (.frz y<|.own Pt)/\y.data=.fields x/\x[1]? =some (.str q l)/\H w=some (.tbl<|List.toArray [.none])/\GY y c w
def Clo.mono(e:mF H y)(h:Clo H Pt x q w u s z):Clo y Pt x q w u s z:=by
 obtain⟨r,p,c,o,n,l,j,i,g,d,a,Y,U⟩:=h;show#[r,p,c,o,n,l,j,e _ _ i,e _ _ g,d,a,e _ _ Y,U]
def CellAt(H:Hp)(c:lU)(v:V):Prop:=∃o u,H c=some (Fz o)/\o.data=.cell (some u)/\Yd v u
def CellAt.mono(e:mF H z)(h:CellAt H c v):CellAt z c v:=by
 obtain⟨o,u,y,x⟩:=h;show#[o,u,e _ _ y,x]
def Ss(C:PySem.W.CodeHd h c y)(e:h.get? c=some w):y≠c/\GY w c y:=by
 obtain⟨o,u,s,r,q,p,n,l,j,z,i,d,a,Y,U,Q,N,M,x⟩:=C;rw[e]at z;cases z;show#[x.symm,λg z=>#[_,u,s,r,q,p,n,l,j,z,i,d,a,Y,U,Q,N,M,x]]
def Vs{E:lV->lW->Prop}{w:lT->lX lV}{Q:lV->lW->Prop}(w9:closureFor i env=pure y)(U:env.globals=mainGlobals)(hg:s.heap.Ns mainGlobals w)(hc:env.code=.ref c)(C:PySem.W.CodeHd s.heap c Pt)
  (H:s.heap.get? Pt=some {cls:=.none,data:=.fields ps}) (ht:TriplesOk ps.toList) (hn:codeAmong pos ps.toList=none) (N:mainGlobals≠Pt) (hb:s.heap.BuiltinsAt w Pt)
  (h:∀z u l h' x,Heap.ExtBut Pt s.heap h'->#v[s]<=z->z<h'.objs.size->#v[s]<=u->h'.CodeRec (.ref z) d->PySem.W.CodeHd h' z u->h'.get? u=some {cls:=.none,data:=.fields #[]}->h'.get? Pt=some {cls:=.none,data:=.fields (ps++ (List.toArray [rawInt pos.line,rawInt pos.col,.ref z]))}->
   Q (.ref h'.objs.size) {s with heap:=h'.push<|PySem.W.kla_obj nm d L J i y ((w "__name__").getD .none) z l,toks:=x}):wpAny M A (makeFunction nm d L (.expr J) i env [] [] [] pos fst_) Q E s:=by
 obtain⟨bm,ob,G,D,_,b4,b5,B,b7,b8⟩:=hb;rw[makeFunction_eq];simp only[List.zip_nil_right,List.filterMap_nil,List.isEmpty_nil,sP,pure_bind];unfold makeTail;rw[w9,U];refine mT<|nI ?_;have go:∀g:ma,(∀b o,s.heap.get? b=some o->g.get? b=some o)->#v[s]<=g.objs.size->∀{R:lV->lW->Prop},(∀z h' x,Heap.ExtBut Pt s.heap h'->#v[s]<=z->h'.Ns mainGlobals w->h'.get? bm=some ob->(∀l,Q (.ref h'.objs.size) {s with heap:=h'.push<|PySem.W.kla_obj nm d L J i y ((w "__name__").getD .none) z l,toks:=x})->R (.ref z) {s with heap:=h',toks:=x})->wpAny M A (functionCode env pos fst_ nm d L i<|.expr J) R E {s with heap:=g}:=λg a sz R r=>by
  have CG:=C.keeps a;refine wpAny_functionCodeX hc (CG.code (a _ _ H) ht) (CG.tab<|a _ _ H) hn λz h' x x1 x2 x3 _ x4 x5 x6=>?_
  obtain⟨u,y1,y2,y3⟩:=x6;have Y:Heap.ExtBut Pt s.heap h':=λb o n e=>x1 b o n<|a b o e
  have nC:=PySem.W.CodeHd.of y2 y3;show r z h' x Y (oo sz x2) (hg.extBut Y N) (Y _ _ b4 b5) λl=>(h z u l h' x Y (oo sz x2) x3 (oo sz y1) x4 nC y3.2 x5.2)
 cases y with
 | nil =>
  simp only[List.isEmpty_nil,sP];refine mT<|nI<|mT<|go s.heap (λ_ _ e=>e) (nH _) λz h' x _ _ j I q=>?_;show mT (wpAny_builtinsFor j G D I B b7 b8<|mT<|wpAny_nsGet j<|mT<|nI<|vJ (q _)<|by size_fits)
 | cons p r =>
  simp only[List.isEmpty_cons,ug,rD];refine mT<|wpAny_newTextTuple<|mT<|go _ (λb o e=>nS _ e) (by rw[tN];lia) λz h' x _ _ j I q=>?_;show mT (wpAny_builtinsFor j G D I B b7 b8<|mT<|wpAny_nsGet j<|mT<|nI<|vJ (q _)<|by size_fits)
def XQ{l:lS (Nat×Nat×lT)}{a b:Nat}{q r:lT}(x:(l.map λp=>(p.1,p.2.1)).Nodup)(w:(a,b,q)∈l)(u:(a,b,r)∈l):q=r:=by
 induction l with
 | nil=>cases w
 | cons p l s =>
  rw[oh,pZ]at x;rcases nV.mp w with z|z<;>rcases nV.mp u with y|y
  ·have:=z.trans y.symm;simpa using this
  ·show absurd (mZ.mpr #[_,y,by rw[<-z]]) x.1
  ·show absurd (mZ.mpr #[_,z,by rw[<-y]]) x.1
  ·show s x.2 z y
section
variable {Q:lV->lW->Prop}
def PV{Y:lS (Nat×Nat×lT)}(I:mK X c7 z H s)(A:defaultsOf la X.env=([],[]))(K8:X.env.code=.ref c)(C:PySem.W.CodeHd X.mG c Pt)(hH:H Pt=some (.tbl<|Xk Y))(M:(J.line,J.col,X.env.qual++"<lambda>")∈Y)(w9:closureFor ls X.env=pure j)
  (h:∀fl H' s',mK X c7 z H' s'->mF H H'->H fl=none->Clo H' Pt fl (X.env.qual++"<lambda>") la lb ls j->Q (.ref fl) s'):wpAny (model X.prog X.w) X.A (eval (.Lambda la lb ls J) X.env) Q X.xe s:=by
 refine PySem.W.kla_eval A ?_;obtain⟨r,hT,e|⟨x,fs,e1,nd,rfl,hfs⟩⟩:=(show Yb X.prog X.w H s.heap Pt (.tbl<|Xk Y)from I.hok Pt _ hH)
 ·show absurd e.1 QO
 have e1:=Su e1;subst e1;have hg:s.heap.Ns mainGlobals X.mg:=I.mod.glob.keeps I.bk;have CH:PySem.W.CodeHd s.heap c Pt:=C.keeps I.bk;have nP:∀b,H b=none->b≠Pt:=λb n y=>by rw[y,hH]at n;cases n
 have hB:s.heap.BuiltinsAt X.mg Pt:=by
  obtain⟨bm,L,b1,b2,b3,b4,b5,b6⟩:=I.mod.bm;obtain⟨b3',hn⟩:=I.bs _ _ b3;refine#[bm,L,b1,b2,λy=>?_,nP bm hn,b3',b4,b5,b6];obtain⟨o,es,ep,e,d,_⟩:=hg;rw[<-y,b3']at e;cases e;rw[b6]at d;cases d
 have hgP:mainGlobals≠Pt:=by
  obtain⟨o,es,ep,e,d,_⟩:=I.mod.glob;show nP _ (I.bs _ _ e).2
 cases G:codeAmong J (rn fs).toList with
 | none =>
  refine Vs (ps:=rn fs) w9 I.ok.glob hg K8 CH hT (GJ fs) G hgP hB λw l B p tk hx U d9 hpn hrec E5 S2 htb=>?_
  obtain⟨x,N,vs,tt,e,E,hd,hv⟩:=hrec;cases e;generalize B7:PySem.W.kla_obj "<lambda>" (X.env.qual++"<lambda>") la lb ls j ((X.mg "__name__").getD .none) w B=L;have A4:L.isFreed=false:=by rw[<-B7];rfl
  have D:H p.objs.size=none:=I.hok.fresh<|oo U<|uI d9;have hcn:H w=none:=I.hok.fresh U;have hpN:H l=none:=I.hok.fresh hpn;have ncf:w≠p.objs.size:=nU d9;have npf:l≠p.objs.size:=nU<|nQ S2;obtain⟨npc,hco⟩:=Ss E5 E;have old:∀b o,s.heap.get? b=some o->b≠l/\b≠w/\b≠p.objs.size:=λb o e=>by
   have:=nQ e;show#[nU<|pM this hpn,nU<|pM this U,nU<|rj (pM this U) d9]
  have kp:∀b o,b≠Pt->s.heap.get? b=some o->(p.push L).get? b=some o:=λb o n e=>nS _<|hx b o n e
  have g:∀b o,H b=some o->b≠l/\b≠w/\b≠p.objs.size:=λb o e=>#[Zf e hpN,Zf e hcn,Zf e D]
  have i:∀{b:lU},(b≠l/\b≠w/\b≠p.objs.size)->mM (mM (mM H l<|.tbl<|List.toArray [.none]) w<|.frz N<|.own Pt) p.objs.size (Fz L) b=H b:=λn=>by rw[Zd n.2.2,Zd n.2.1,Zd n.1]
  have aC:mM (mM (mM H l<|.tbl<|List.toArray [.none]) w<|.frz N<|.own Pt) p.objs.size (Fz L) w=some (.frz N<|.own Pt):=by rw[Zd ncf,Zc]
  have aP:mM (mM (mM H l<|.tbl<|List.toArray [.none]) w<|.frz N<|.own Pt) p.objs.size (Fz L) l=some (.tbl<|List.toArray [.none]):=by rw[Zd npf,Zd npc,Zc]
  refine h p.objs.size (mM (mM (mM H l<|.tbl<|List.toArray [.none]) w<|.frz N<|.own Pt) p.objs.size<|Fz L) _ (I.step (g':=s.gens) (d':=s.drawn) (ch:=[]) (λ_ y=>nomatch y) (λb o _ _ _ e n=>kp b o (nP b n) e) (λb o _ _ _ e n=>#[o.slots,kp b o (nP b n) e]) (λb o _ e n=>by rw[i (old b o e)];show n) (λb o _ e=>?_)
   (λb xs e=>by rw[i (g _ _ e)];show e) (λb o u e=>by rw[i (g _ _ e)];show e) (λb x e=>#[#[],by rw[i (g _ _ e),e];simp]) (λm hm=>?_) (λb u e=>?_) I.bare)
   (λb o e=>by rw[i (g _ _ e)];show e) D #[_,B,w,N,vs,tt,l,by rw[Zc,B7],aC,hd,hv,aP,hco]
  ·by_cases x:b=Pt
   ·show#[_,by rw[x];show nS _ htb]
   ·show#[o,kp b o x e]
  ·obtain⟨o,es,ep,e,r⟩:=hm;show#[o,es,ep,kp _ o (nP _ I.free) e,r]
  ·by_cases h1:b=p.objs.size
   ·subst h1;rw[Zc]at e;cases e;have:=oG p A4;show#[this,this,_,this]
   by_cases h2:b=w
   ·subst h2;rw[aC]at e;cases e;show#[nS _ E,_,nS _ E]
   by_cases h0:b=l
   ·subst h0;rw[aP]at e;cases e;show#[#[],nS _ S2,.inl #[rfl,trivial]]
   rw[i #[h0,h2,h1]]at e
   by_cases h3:b=Pt
   ·subst h3;rw[hH]at e;cases e;refine#[_,nS _ htb,.inr #[Y,fs++[(J.line,J.col,X.env.qual++"<lambda>",w)],rfl,nd,by rw[Sl],λf hf=>?_]];rcases oA.mp hf with y|y
    ·obtain⟨z1,x,r,q,P1,f1,f2,f3,f4,f5⟩:=hfs f y;show#[z1,x,r,q,P1,by rw[i (g _ _ f1)];show f1,f2,f3,by rw[i (g _ _ f4)];show f4,f5]
    ·rw[pQ.mp y];show#[M,N,vs,tt,l,aC,hd,hv,aP,hco]
   ·refine(I.hok b u e).stay (λd v hd q=>kp d v ?_ q) (λd q=>by rw[i (g _ _ q)];show q) (λd xs q=>by rw[i (g _ _ q)];show q) (λd o q=>by rw[i (g _ _ q)];show q) (λd o q=>by rw[i (g _ _ q)];show q);rcases hd with y|y
    ·rw[y];show h3
    ·show λx=>by rw[x,hH]at y;cases y
 | some cv =>
  obtain⟨f,hf,rfl,r,q⟩:=Lp G;obtain⟨z1,N,vs,tt,l,f1,f2,f3,f4,f5⟩:=hfs f hf;obtain⟨fl,i,g,w⟩:=f;have r:fl=J.line:=r;have q:i=J.col:=q;subst r q;have U:g=X.env.qual++"<lambda>":=XQ nd z1 M;subst U;refine PySem.W.kla_makeFunctionHit (ps:=rn fs) (cv:=.ref w) w9 I.ok.glob hg K8 CH hT (GJ fs) G hB λB p tk E x=>?_
  ·have D:H p.objs.size=none:=I.hok.fresh x;have:=oG p (o:=PySem.W.kla_obj "<lambda>" (X.env.qual++"<lambda>") la lb ls j ((X.mg "__name__").getD .none) w B) rfl;show h _ _ _ (I.laid (a:=p.objs.size) (o:=Fz<|PySem.W.kla_obj "<lambda>" (X.env.qual++"<lambda>") la lb ls j ((X.mg "__name__").getD .none) w B) (t':=tk) (λb u e=>nS _<|E b u e) x #[this,this,_,this]) (mF.new D) D
    #[_,B,w,N,vs,tt,l,Zc,by rw[Zd (Zf f1 D)];show f1,f2,f3,by rw[Zd (Zf f4 D)];show f4,f5]
end
open Classical in
def rh(z:lS (lT×lU))(H:Hp)(h:ma):Hp:=λb=>if ∃x,z.lookup x=some b then(h.get? b).map Fz else H b
section
variable {c7:lS (lU×Obj)} {σ:St} {H:Hp} {s:lW} {Q:VK}
def Xi(I:mK X c7 σ H s)(e:H b=some o):rh X.env.cells H s.heap b=some o:=by
 unfold rh;rw[mV]
 ·show e
 ·rintro⟨x,z⟩;rw[I.freeC x b z]at e;cases e
def yq(n:∀x,X.env.cells.lookup x≠some b):rh X.env.cells H s.heap b=H b:=by
 unfold rh;rw[mV];rintro⟨x,z⟩;show n x z
def FU(I:mK X c7 σ H s){i:Nat}{x:lT}{v:V}{c:lU}(q:X.N[i]? =some x)(p:σ[i]? =some (some v))(y:X.env.scope.names.lookup x=some .cell)(z:X.env.cells.lookup x=some c):H c=none/\CellAt (rh X.env.cells H s.heap) c v:=by
 obtain⟨m,h,n⟩:=I.loc;obtain⟨u,r,l⟩:=n i x v q p<|.inr<|.inl y;refine#[I.freeC x c z,?_];rcases l with⟨k,_⟩|⟨_,h,w,o,j,hd⟩
 ·have k:X.env.scope.names.lookup x=some .local:=k;rw[y]at k;cases k
 ·rw[z]at w;cases w;refine#[o,u,?_,hd,r];unfold rh;rw[mY #[x,z],j]
  rfl
def mK.shut(I:mK X c7 σ H s)(p:X.ex=[])(i:∀x,X.fn x=true)(h:Yd v u)(q:Q v (rh X.env.cells H s.heap)):CE X.mD X.prog X.w X.mo X.ml Q u s:=by
 have J:=I.mG;have g:∀b o,X.ml.heap.get? b=some o->∀x,X.env.cells.lookup x≠some b:=λb o e x z=>absurd (pM (nQ e)<|I.ok.cab x b (i x) z)<|qT _
 refine#[v,rh X.env.cells H s.heap,I.os,I.bare,#[λb o y r w _=>J.keep b o y r w (by rw[p];simp),λb o y r w _=>J.slot b o y r w (by rw[p];simp),λb o y r _=>?_,λb o y _=>J.there b o y (by rw[p];simp),λb l e=>Xi I<|J.tups b l e,λb o x e=>Xi I<|J.frzs b o x e,λb d e=>?_],λb o e=>?_,h,q]
 ·rw[yq (g b o y)];show J.free b o y r (by rw[p];simp)
 ·obtain⟨m,z⟩:=J.tbls b d e;show#[m,Xi I z]
 ·by_cases j:∃x,X.env.cells.lookup x=some b
  ·obtain⟨x,z⟩:=j;obtain⟨w,c,n,hd⟩:=I.cell x b z;unfold rh at e;rw[mY #[x,z],n]at e;cases e;show#[n,n,_,n]
  ·have w:=e;rw[yq λx z=>j #[x,z]]at w;show(I.hok b o w).stay (λ_ _ _ q=>q) (λc q=>Xi I q) (λc l q=>Xi I q) (λc o q=>Xi I q) (λc o q=>Xi I q)
end
def RI(X:Cx)(Pt:lU)(Q:VK)(s:Arguments)(q:me)(r:Scope)(p:Pos)(z:St)(H:Hp):Prop :=
 defaultsOf s X.env=([],[])/\H Pt=some (.tbl<|sr p<|X.env.qual++"<lambda>")/\∃y,closureFor r X.env=pure y/\
 ∀u w,mF H w->H u=none->Clo w Pt u (X.env.qual++"<lambda>") s q r y->(∀(i:Nat)(x:lT)(v:V)(c:lU),X.N[i]? =some x->z[i]? =some (some v)->X.env.scope.names.lookup x=some .cell->X.env.cells.lookup x=some c->H c=none/\CellAt w c v)->Q (.ref u) w
inductive ux(X:Cx)(Pt:Addr)(Q:VK):List Stmt->St->Hp->Prop
 | last {la lb ls lp rp σ H Zt}:RI X Pt Q la lb ls lp σ H->ux X Pt Q (.Return (some<|.Lambda la lb ls lp) rp ::Zt) σ H
 | step {st Zt σ H} (M:St->Hp->Prop):WS X st {nx:=M,rt:=λ_ _=>False} σ H->(∀σ' H',M σ' H'->ux X Pt Q Zt σ' H')->ux X Pt Q (st ::Zt) σ H
def RB{X:Cx}{Pt c:lU}{Q:VK}(d:X.env.code=.ref c)(C:PySem.W.CodeHd X.mG c Pt){b:lS lZ}{z:St}{H:Hp}(m:ux X Pt Q b z H):∀{s:lW},mK X [] z H s->
  wpAny (model X.prog X.w) X.A (execs b X.env) (λf s'=>∃p w r,f=.ret (.ref p)/\mK X [] w r s'/\Q (.ref p) (rh X.env.cells r s'.heap)) X.xe s:=by
 induction m with
 | last h =>
  intro s I;obtain⟨y,a,x,Y,k⟩:=h;refine Ck<|wpAny_Return_some<|PV I y d C a (List.mem_singleton_self _) Y λp r s' u q U N=>?_;refine#[p,_,r,rfl,u,k p _ (q.trans λb o e=>Xi u e) U (N.mono λb o e=>Xi u e) λi x v c n l j g=>#[q.free (FU u n l j g).1,(FU u n l j g).2]]
 | step M h _ x =>
  intro s I;refine Ck<|ng (h.run [] s I) λf o q=>?_;cases f with
  | next =>
   obtain⟨w,r,u,q⟩:=q;show x w r q u
  | ret v=>obtain⟨_,_,_,_,_,y⟩:=q;show y.elim
  | brk=>obtain⟨_,_,_,y⟩:=q;show y.elim
  | cont=>obtain⟨_,_,_,y⟩:=q;show y.elim
def tT(K:lY)(fd:mj)(Pt:lU):Prop:=∃c,fd.code=.ref c/\PySem.W.codeHdIn K c Pt=true
section
variable {P:mh} {w:md} {K:lY} {mg:lT->lX lV} {mG:ma}
def qN.okM{x qual:lT}{st:lZ}{f Pt:lU}{fd:mj}{N ps:lS lT}{k:Nat}{j:Sp}(F:qN K x qual st f fd)(L:tT K fd Pt)(S:Zx N ps (Zk st))(len:∀vs H Q E,j vs H Q E->vs.length=ps.length)
  (M:∀(l:lV)(A:mi)(u:lS Env)(s:lW)(H:Hp)(vs:lS V)(Q:VK)(E:XK),Y8 k (A.deeper<|envOfC qual (Zk st) #v[s] f l)->j vs H Q E->
   ux (pb oP P w K mg mG N qual (Zk st) f l A u s H E).nox Pt Q (Y4 st) (start N vs) H):Y6 P w K mg mG oP (k+1) f fd ps j:=by
 obtain⟨oc,od,kV,A2,pm,an,l,ct,N5,rfl,lk,G⟩:=F.ex;obtain⟨c,i,D⟩:=L;have i:l=.ref c:=i;subst i;refine#[len,λA u s H args C vs Q E h p B r a=>?_];have hl:=len _ _ _ _ a;have KX:K.In s.heap:=p.mod.kin.keeps λb o e=>(p.bs b o e).1
 have g:s.heap.NoLimit:=p.mod.nolimit.keeps λb o e=>(p.bs b o e).1
 have V5:∀y∈ps.zip C,(Zk st).names.lookup y.1=some .local\/((Zk st).names.lookup y.1=some .cell/\((cellsFrom (#v[s]+1) (Zk st).names []).lookup y.1).isSome=true):=λ⟨n,v⟩ hy=>by
  rcases S.par n (tD hy).1 with q|q
  ·show .inl q
  ·show .inr #[q,Ik _ _ _<|.inl q]
 refine codeAny_call_function h.depth (KX _ _ lk) rfl S.co S.gen rfl (KD KX G)<|B _ _ _ _ ?_;refine NN S.kind V5 λenv he Y x=>?_
 subst he;refine#[g.keeps x.toInCall.keep,codeAny_func ?_];have z:mK (pb oP P w K mg mG N qual (Zk st) f (.ref c) A u s H E) [] (start N vs) H Y:=Jy S h.hd p hl r x;have I:mK (pb oP P w K mg mG N qual (Zk st) f (.ref c) A u s H E).nox [] (start N vs) H Y:=#[#[z.ok.mod,z.ok.kind,z.ok.glob,z.ok.blt,z.ok.above,z.ok.inj,z.ok.has,z.ok.cab,z.ok.hd,z.ok.frames,z.ok.stk,z.ok.exf,z.ok.bs,z.ok.bsz,z.ok.noex,z.ok.exfs,z.ok.funs,z.ok.frf],z.os,z.bare,z.mG,z.loc,z.cell,z.free,z.freeC,z.pin,z.hok,z.len]
 refine pT (RB (c:=c) rfl (Eb p.mod.kin D) (M (.ref c) A u s H vs Q E (h.deeper _) a) I) (λfl U d=>?_) λe U d=>d.elim
 obtain⟨v,σ',H',rfl,J,q⟩:=d;change CE u P w H s Q (.ref v) U;show J.shut (v:=.ref v) rfl (λ_=>rfl) rfl q
end
def Iv(P:mh)(w:md)(K:lY)(x:lT->lX lV)(mG:ma)(k:Nat)(f:lU)(H:Hp)(vs:lS V)(Q:VK):Prop :=
 ∀(A:mi)(z:lS Env)(s:lW)(y:lS lV),Y8 k A->uS P w K x mG A z s H->Z8 vs y->codeAny (model P w) A (.call (.ref f) #[y,[]]) (CR oP z P w H s Q E0) s
def vV(H:Hp)(f:lU):Prop:=∃z y x w u,H f=some (.frz #[z,y,.func x,w] u)
def vV.at(I:mK X q z H s)(h:vV H f):PySem.W.FnAt f s.heap:=by
 obtain⟨y,x,w,r,u,e⟩:=h;show#[y,x,w,r,(I.hok f _ e).1]
def Clo.fn(h:Clo H Pt y q w u s z):vV H y:=by
 obtain⟨r,p,c,o,n,l,_,x,_⟩:=h;show#[_,_,_,_,_,x]
def Vg(P:mh)(w:md)(K:lY)(s:lT->lX lV)(mG:ma)(k:Nat)(r:TE)(t:TA):TE:=λz H Q=>r z H λx y=>∃f,x=.ref f/\vV y f/\t z y λq u=>vV u f/\Iv P w K s mG k f u q Q
def MQ(j:Y8 k X.A)(i:PE X (.Name x p) g)(d:PA X (e ::q) t)
  (he:starEach (e ::q) X.env=(false,eval e X.env) ::starEach q X.env:=by rfl) (c:(backTo pos<|starEach q X.env).any (·.1)=false:=by rfl):PE X (.Call (.Name x p) (e ::q) [] pos) (Vg X.prog X.w X.K X.mg X.mG k g t):=by
 intro n s z H Q I h;refine uZ<|ng (i n s z H _ I h) λu a Y=>?_;obtain⟨y,U,l,N,f,M,L,J⟩:=Y;subst M;obtain rfl:u=Value.ref f:=N;refine PySem.W.callWith_F (L.at l) (ng (d pos n a z U _ l J) λG E ⟨C,B,o,r,y,D⟩=>#[y.at o,?_]) he c;refine uT<|vn (D X.A X.stack E G j o.env0 r) λr y w=>?_;cases r with
 | error e=>show False.elim w
 | ok y =>
  cases y with
  | ret u=>show o.after w
  | next=>show False.elim w
  | brk=>show False.elim w
  | cont=>show False.elim w
def BH(P:mh)(w:md)(K:lY)(mg:lT->lX lV)(mG:ma)(N:lS lT)(q:lT)(scope:Scope)(f:lU)(y:lV)(z:lS (lT×lU))(A:mi)(mD:lS Env)(s:lW)(H:Hp):Cx where
 prog:=P
 w:=w
 K:=K
 mg:=mg
 mG:=mG
 A:=A.deeper (PySem.W.envX q scope #v[s] f y z)
 N:=N
 ml:=s
 mo:=H
 env:=PySem.W.envX q scope #v[s] f y z
 mD:=mD
 stack:=PySem.W.envX q scope #v[s] f y z ::mD
 ex:=[]
 calm:=true
 fn:=λ_=>false
 pn:=[]
 xe:=λ_ _=>False
def offL(H:Hp)(z:lS (lT×lU)):Hp:=λb=>if b∈z.map snd then none else H b
def Wd(h:b∉z.map snd):offL H z b=H b:=mV h
def wo(h:b∈z.map snd):offL H z b=none:=mY h
theorem Ft:∀{l:lS (lT×lU)}{x y:lT}{a:lU},(l.map snd).Nodup->(x,a)∈l->(y,a)∈l->x=y
 | [],_,_,_,_,h,_=>by cases h
 | p ::r,x,y,a,u,o,s=>by
  have u:(p.2 ::r.map snd).Nodup:=u;obtain⟨q,n⟩:=pZ.mp u;rcases nV.mp o with w|w
  ·rcases nV.mp s with z|z
   ·rw[<-w]at z;cases z;rfl
   ·show absurd (mZ.mpr #[_,z,by rw[<-w]]) q
  ·rcases nV.mp s with z|z
   ·show absurd (mZ.mpr #[_,w,by rw[<-z]]) q
   ·show Ft n w z
def Ca:HO->Prop
 | .frz _ _=>False
 | _=>True
structure tM(H:Hp)(ls:Scope)(clos:List (Str×Addr))(fs:List Str)(fvs:List V):Prop where
 cells:Paired (λx v=>ls.names.lookup x=some .free/\∃c,clos.lookup x=some c/\CellAt H c v) fs fvs
 all:∀p∈clos,p.1∈fs
 one:(clos.map fst).Nodup
 apart:(clos.map snd).Nodup
theorem Wj{z:Type}:∀{l:lS (lT×z)}{p:lT×z},(l.map fst).Nodup->p∈l->l.lookup p.1=some p.2
 | [],_,_,h=>by cases h
 | q ::r,p,x,h=>by
  have x:(q.1 ::r.map fst).Nodup:=x;obtain⟨w,u⟩:=pZ.mp x;rw[rO];rcases nV.mp h with e|e
  ·rw[e,Ae]
  ·have:(p.1 ==q.1)=false:=by rw[su];show λy=>w<|mZ.mpr #[p,e,y]
   rw[this];show Wj u e
def tM.cell(L:tM H s z fs fvs)(y:p∈z):∃v,CellAt H p.2 v:=by
 obtain⟨i,w,e⟩:=wp<|L.all p y;obtain⟨v,_,_,c,x,u⟩:=Paired.get L.cells (i:=i) (a:=p.1) (by rw[oE w,e]);rw[Wj L.one y]at x;cases x;show#[v,u]
def tM.soft(L:tM H s y fs fvs)(h:H b=some o)(n:Ca o):offL H y b=some o:=by
 rw[Wd]
 ·show h
 ·intro z;obtain⟨p,w,e⟩:=mZ.mp z;obtain⟨v,r,u,x,_⟩:=L.cell w;rw[e,h]at x;cases x;show n
def LG :mF (offL H y) H:=λb o e=>by
 by_cases z:b∈y.map snd
 ·rw[wo z]at e;cases e
 ·rw[Wd z]at e;show e
open Classical in
def W2(H y:Hp)(z:lS (lT×lU)):Hp:=λb=>if b∈z.map snd then H b else y b
section
variable {P:mh} {w:md} {K:lY} {mg:lT->lX lV} {mG:ma}
def Cp(C:Clo H Pt E q la lb Y r)(L:tM H Y r fs fvs)
  (hb:∀(pm d6 B1 u:lV),bindArgs (PySem.W.kla_fn "<lambda>" q la lb Y r pm d6 B1) #[[u],[]]=pure [(g,u)]) (hg:Y.names.lookup g=some .local) (hgf:g∉fs) (A4:∀y∈Y.names,y.2=.free->y.1∈fs) (hnc:∀y∈Y.names,y.2≠.cell)
  (hk:Y.kind=.function) (hco:Y.isCoroutine=false) (hgen:Y.isGenerator=false)
  (body:∀(d6:lV)(A:mi)(mD:lS Env)(s:lW),Y8 k (A.deeper<|PySem.W.envX q Y #v[s] E d6 r)->
   WE (BH P w K mg mG (g ::fs) q Y E d6 r A mD s<|offL H r) lb (some gv ::fvs.map some) (offL H r) (λv M=>mF (offL H r) M/\∀A7,mF M A7->mF H A7->Q v A7)):Iv P w K mg mG (k+1) E H [gv] Q:=by
 intro A mD s us hr l rv;obtain⟨u,rfl,ru⟩:=Wz rv;obtain⟨pm,B1,c,oc,vs,tt,_,j,N,h3,h4,_⟩:=C;have o1:s.heap.get? E=some (PySem.W.kla_obj "<lambda>" q la lb Y r pm c B1):=(l.hok E _ j).1;have o2:s.heap.get? c=some oc:=(l.hok c _ N).1;have lim:s.heap.NoLimit:=l.mod.nolimit.keeps λb o e=>(l.bs b o e).1
 refine ME hr.depth o1 rfl hco hgen rfl #[c,oc,vs,tt,rfl,o2,h3,h4] ?_;rw[hb];refine nI<|Dp hnc (λy G=>?_) (λD E6 hsb=>#[lim.fresh _ hsb,?_]) hk
 ·obtain rfl:y=(g,u):=pQ.mp G;show hg
 change codeAny _ _ (.expr lb<|PySem.W.envX q Y #v[s] E (.ref c) r) _ _;have my:∀b o,s.heap.get? b=some o->D.get? b=some o:=λb o e=>hsb.extBut b o (nU<|nQ e)<|nS _ e
 have B2:∀{x:lT}{a:lU},r.lookup x=some a->(x,a)∈r:=λh=>rH h
 have inC:∀{x:lT}{a:lU},r.lookup x=some a->a∈r.map snd:=λh=>mZ.mpr #[_,B2 h,rfl]
 have O1:∀{b:lU},b∈r.map snd->∃o u,H b=some (Fz o)/\o.data=.cell (some u):=λ{b} z=>by
  obtain⟨p,hp,e⟩:=mZ.mp z;obtain⟨v,o,u,U,z2,_⟩:=L.cell hp;show#[o,u,e ▸ U,z2]
 have hok0:ol P w (offL H r) s.heap:=λb o e=>by
  have e':=LG b o e;refine(l.hok b o e').stay (λ_ _ _ z=>z) (λd z=>L.soft z trivial) (λd xs z=>L.soft z trivial) (λd ob z=>?_) (λd ps z=>L.soft z trivial);rw[Wd]
  ·show z
  ·intro y;obtain⟨o3,u3,y1,_⟩:=O1 y;rw[z]at y1;cases y1
 have C2:∀{b:lU},H b=none->offL H r b=none:=λ{b} n=>by
  by_cases z:b∈r.map snd
  ·show wo z
  ·rw[Wd z];show n
 have nA:∀b:lU,b∉(BH P w K mg mG (g ::fs) q Y E (.ref c) r A mD s<|offL H r).ex:=λb z=>absurd (show b∈([]:lS lU)from z) (by simp)
 have I:mK (BH P w K mg mG (g ::fs) q Y E (.ref c) r A mD s<|offL H r) [] (some gv ::fvs.map some) (offL H r) {s with heap:=D,toks:=s.toks+[(g,u)].length}:=by
  refine#[#[l.mod,hk,rfl,rfl,nH _,λy z a j N=>?_,λy G=>?_,λy a z _=>(oW z).elim,λ_=>hr.hd,GZ l.frames,.inr #[rfl,rfl],λb z=>absurd z<|nA b,λb o e=>#[(l.bs b o e).1,C2 (l.bs b o e).2],l.bsz,λb _ _=>nA b,λb z=>absurd z<|nA b,l.funs,λb z=>C2<|l.frf b z],
   rfl,l.bare,Un.kept my,#[_,E6,λi y v j N h3=>?_],λy a z=>?_,C2<|l.hok.fresh<|nH _,λy a z=>wo<|inC z,λp hp=>absurd (show p∈([]:lS (lU×Obj))from hp) (by simp),hok0.kept my,?_]
  ·show Ft L.apart (B2 j)<|B2 N
  ·have G:Y.names.lookup y=some .cell\/Y.names.lookup y=some .free:=G;rcases G with G|G
   ·show absurd rfl<|hnc _<|rH G
   ·obtain⟨i,hi,e⟩:=wp<|A4 _ (rH G) rfl;obtain⟨v,_,_,a,U,_⟩:=Paired.get L.cells (i:=i) (a:=y) (by rw[oE hi,e]);show#[a,U]
  ·cases i with
   | zero =>
    have j:g=y:=oF j;have N:gv=v:=oF<|oF N;subst j N;show#[u,ru,.inl #[hg,by simp]]
   | succ i =>
    have j:fs[i]? =some y:=j;have N:(fvs.map some)[i]? =some (some v):=N;rw[nR]at N;obtain⟨v',h5,h6⟩:=nW.mp N;cases h6;obtain⟨v2,z0,U,a,z2,o,uu,z3,z4,z5⟩:=Paired.get L.cells j;rw[h5]at z0;cases z0;show#[uu,z5,.inr #[.inr U,a,z2,o,my _ _ (l.hok a _ z3).1,z4]]
  ·obtain⟨o,uu,U,z2⟩:=O1<|inC z;show#[_,o,my _ _ (l.hok a _ U).1,z2]
  ·change(some gv ::fvs.map some).length=(g ::fs).length;rw[pi,mO,pi,nJ L.cells]
 refine PJ<|pT ((body (.ref c) A mD s<|hr.deeper _).run [] _ I) (λv s' hs=>?_) λ_ _ z=>z.elim;obtain⟨v',M,J,M0,sm,qq⟩:=hs;have B:Un (oi mD) [] (offL H r) M s.heap s'.heap:=J.mG;have cellH:∀{b:lU},b∈r.map snd->M b=none:=λ{b} z=>by
  obtain⟨p,hp,e⟩:=mZ.mp z;show J.freeC p.1 b (by rw[<-e];show Wj L.one hp)
 have nin:∀{b:lU}{o:HO},M b=some o->b∉r.map snd:=λ{b o} e z=>by rw[cellH z]at e;cases e
 have bk:∀{b:lU}{o:HO},M b=some o->W2 H M r b=some o:=λ{b o} e=>by unfold W2;rw[mV (nin e)];show e
 have nofs:∀{b:lU},b∈r.map snd->b∉oi mD:=λ{b} z y=>by
  obtain⟨o,uu,U,_⟩:=O1 z;rw[l.frf b y]at U;cases U
 refine#[v',W2 H M r,J.os,J.bare,#[λb o j n hb _=>B.keep b o j (C2 n) hb (by simp),λb o j n hb _=>B.slot b o j (C2 n) hb (by simp),λb o j n _=>?_,λb o j _=>B.there b o j (by simp),λb xs e=>bk<|B.tups b xs<|L.soft e trivial,λb ob x e=>?_,λb ps e=>?_],λb o e=>?_,M0,qq _ (λb o e=>bk e) λb o e=>?_]
 ·unfold W2;rw[mV λz=>by obtain⟨o,uu,U,_⟩:=O1 z;rw[n]at U;cases U];show B.free b o j (C2 n) (by simp)
 ·by_cases z:b∈r.map snd
  ·unfold W2;rw[mY z];show e
  ·show bk (B.frzs b ob x (by rw[Wd z];show e))
 ·obtain⟨m,z⟩:=B.tbls b ps<|L.soft e trivial;show#[m,bk z]
 ·by_cases z:b∈r.map snd
  ·unfold W2 at e;rw[mY z]at e;obtain⟨o3,uu,U,z2⟩:=O1 z;rw[e]at U;cases U;have z3:=(l.hok b _ e).1;have z4:=B.keep b o3 z3 (wo z) (nofs z) (by simp);show#[z4,z4,_,z4]
  ·have e':=e;unfold W2 at e';rw[mV z]at e';show(J.hok b o e').stay (λ_ _ _ y=>y) (λd y=>bk y) (λd xs y=>bk y) (λd ob y=>bk y) (λd ob y=>bk y)
 ·by_cases z:b∈r.map snd
  ·unfold W2;rw[mY z];show e
  ·show bk (sm b o (by rw[Wd z];show e))
end
def oZ(s:lZ):me:=match(Y4 s).getLast? with
 | some (.Return (some e) _)=>e
 | _=>.Constant .none 0 #[0,0,0,0]
def AR:me->Arguments
 | .Lambda a _ _ _=>a
 | _=>{posonlyargs:=[],args:=[],vararg:=none,kwonlyargs:=[],kw_defaults:=[],kwarg:=none,defaults:=[]}
def Ar:me->me
 | .Lambda _ b _ _=>b
 | e=>e
def vB:me->Scope
 | .Lambda _ _ s _=>s
 | _=>{kind:=.function,names:=[],isGenerator:=false,isCoroutine:=false}
def sS:me->Pos
 | .Lambda _ _ _ p=>p
 | _=>#[0,0,0,0]
structure Cn(K:Frag)(h:Heap)(tabs:List (Addr×Array Value)):Prop where
 cod:∀p∈tabs,∃c,PySem.W.codeHdIn K c p.1=true
 emp:∀p∈tabs,h.get? p.1=some (PySem.W.tabObj #[])
 shape:∀p∈tabs,∃ls,p.2=Xk ls/\(ls.map λp=>(p.1,p.2.1)).Nodup
 nd:(tabs.map fst).Nodup
 nt:PySem.W.noTabs K=true
inductive ze(K:lY)(tabs:lS (lU×Array lV)):Sp
 | mk (a) (ns:lS Int):vs=[.ref a]->SqL K H a (ns.map V.int)->ns.length<=63->(∀p∈tabs,H p.1=some (.tbl p.2))->(∀H',Q (.bl true) H')->ze K tabs vs H Q E
theorem Fa{z:Type}:∀{l:lS (lU×z)}{p:lU×z},(l.map fst).Nodup->p∈l->l.lookup p.1=some p.2
 | [],_,_,h=>by cases h
 | q ::r,p,x,h=>by
  have x:(q.1 ::r.map fst).Nodup:=x;obtain⟨w,u⟩:=pZ.mp x;rw[rO];rcases nV.mp h with e|e
  ·rw[e,Ae]
  ·have:(p.1 ==q.1)=false:=by rw[su];show λy=>w<|mZ.mpr #[p,e,y]
   rw[this];show Fa u e
theorem BU{z:Type}:∀{l:lS (lU×z)}{a:lU}{v:z},l.lookup a=some v->(a,v)∈l
 | [],_,_,e=>by cases e
 | (b,x) ::r,a,v,e=>by
  rw[rO]at e;cases y:a ==b with
  | true=>rw[y]at e;cases e;rw[eq_of_beq y];show .head _
  | false=>rw[y]at e;show .tail _<|BU e
def Rq(K:lY):lS V->Hp->VK->Prop:=λz H Q=>∃e C c b,z=[.ref e,c]/\H e=some (qB e C none)/\XG K C/\((∃n,c=.ty n/\kitOne K (.ref C) (.type n)=some b)\/(∃a,c=.ref a/\kitOne K (.ref C) (.ref a)=some b))/\Q (.bl b) H
def So:Xd X (.builtin "isinstance") (Rq X.K):=by
 intro d s z H Y U Q I r h;obtain⟨e,C,c,b,rfl,he,g,k,q⟩:=h;obtain⟨u,c,rfl,n,p⟩:=wg r;obtain rfl:u=Value.ref e:=n;obtain⟨o,c,l,j,i,x⟩:=qB.at I.hok he;have J:PySem.W.InstAt s.heap e o C none:=#[l,j,by unfold PySem.W.notCls;rw[x],by rw[i];trivial]
 have Z:PySem.W.KitX X.K (.ref e) (.ref C) (λh=>PySem.W.InstAt h e o C none):=Ls g.xa g.hc g.cl g.cg g.ct g.ob;rcases k with⟨c,rfl,k⟩|⟨a,rfl,k⟩
 ·cases p;show rE Z I.kIn J k (λy=>nomatch y) λw=>#[.bl b,H,I.tok w,rfl,q]
 ·cases p;show rE Z I.kIn J k (λy=>nomatch y) λw=>#[.bl b,H,I.tok w,rfl,q]
def UM:V->lS V->Hp->VK->Prop:=λx z H Q=>∃(l:lU)(bs:lS Bool)(b:Bool),x=.ref l/\z=[.bl b]/\H l=some (.lst<|bs.map V.bl)/\Q (.int (bs.countP (λc=>c ==b):Nat)) H
theorem Fb:∀{bs:lS Bool}{us:lS lV},Z8 (bs.map V.bl) us->us=bs.map Value.bool
 | [],_,.nil=>rfl
 | b ::bs,_,.cons r t=>by
  rw[Fb t];cases r
  rfl
def Ac(b:Bool):lV->Bool
 | .bool c=>c ==b
 | _=>false
def XO:zK X "list.count" UM:=by
 intro d s z H x a v Y Q I o j h;obtain⟨l,bs,b,rfl,rfl,i,q⟩:=h;cases o;obtain⟨u,rfl,g⟩:=j.one;cases g;obtain⟨y,u,n,r,U,e⟩:=I.lstM i;obtain rfl:=Fb r;refine yj F.slot_list_count #[_,e,rfl] F.entry_list_count (F.args_list_count_2 _ _) (SeqAt.list_countAt l _ n _ _ (.bool b)<|Ac b) #[e,λw p=>?_,?_]
 ·have p:w∈bs.map Value.bool:=by simpa using p
  obtain⟨c,_,rfl⟩:=mZ.mp p;show Fu c b
 ·refine#[.int _,H,I.tok _,#[_,rfl],?_];have:List.countP (Ac b) (bs.map Value.bool).toArray.toList=bs.countP (λc=>c ==b):=by
   rw[List.toList_toArray,List.countP_map]
   rfl
  rw[this];show q
def Es(y:Gl X x)(h:∃z,X.mg x=some (.str v z))(hd:(x ==("__debug__":lT))=false:=by lk):PE X (.Name x pos) (tC<|.str v):=by
 obtain⟨z,h⟩:=h;show X4 y h #[z,rfl] hd
theorem EC:∀{p:lT}{l:lS lT},risingS p l=true->(p ::l).Pairwise (λa b=>ltCps b.cps.toList a.cps.toList=false)
 | p,[],_=>by simp
 | p,x ::r,h=>by
  rw[show risingS p (x ::r)=(!ltCps x.cps.toList p.cps.toList && risingS x r)from rfl,qv,Bool.not_eq_true']at h;have y:=EC h.2;refine List.pairwise_cons.mpr #[λb s=>?_,y];rcases nV.mp s with z|z
  ·rw[z];show h.1
  ·have w:=List.rel_of_pairwise_cons y z;have u:=h.1;rw[ltCps_eq,Jc]at u w ⊢;show zV.mpr<|List.le_trans (zV.mp u)<|zV.mp w
def yi(h:sortedS l=true)(h':sortedS z=true)(p:l.Perm z):l=z:=by
 have y:∀{l:lS lT},sortedS l=true->l.Pairwise (λa b=>ltCps b.cps.toList a.cps.toList=false):=λ{l} h=>by
  cases l with
  | nil=>show .nil
  | cons x r=>show EC h
 refine p.eq_of_pairwise (λa b _ _ w u=>?_) (y h)<|y h';rw[ltCps_eq,Jc]at w u;have e:=List.le_antisymm (zV.mp w)<|zV.mp u;cases a;cases b;simpa using Array.toList_inj.mp e
end L2
end
section
namespace L2
open PySem PyProof.Rows
theorem JF{E:lV->lW->Prop}(j:A.handled=none)(h:l≠it):∀(n i:Nat)(s:lW)(Q:lS lV->lW->Prop),(s.heap.IsListIter it l i/\s.heap.IsList l z)->i+n<=z.size->
  (∀h' c,(h'.IsListIter it l (i+n)/\h'.IsList l z)->(∀b o,b∉[it]->s.heap.get? b=some o->h'.get? b=some o)->Q ((z.toList.drop i).take n) {s with heap:=h',toks:=c})->wpAny (model P w) A (draw (.ref it) n) Q E s
 | 0,i,s,Q,x,_,u=>by
  change wpAny _ _ (pure []) Q E s;show nI (by simpa using u s.heap s.toks x λ_ _ _ e=>e)
 | n+1,i,s,Q,x,L,u=>by
  have r:i<z.size:=by lia
  change wpAny _ _ (pyNext (.ref it)>>=_) Q E s;refine mT<|(DJ (prog:=P) (w:=w) j it l h z).item i s _ _ r x λv J a g Y q=>?_;refine mT<|qx<|JF j h n (i+1) _ _ Y (by lia) λU p y N=>nI ?_;have hd:z.toList.drop i=z[i] ::z.toList.drop (i+1):=by simp[zg,r]
  have M:v=z[i]:=by rw[Array.getElem?_eq_getElem r]at g;show(oF g).symm
  have:=u U p (by rw[show i+(n+1)=i+1+n by lia];show y) λb o d e=>N b o d<|q b o d e
  rw[hd,KF,<-M]at this;show this
def Tz{E:lV->lW->Prop}{u:lS (Bool×(lV->Sem Unit))}{Q:Unit->lW->Prop}(j:A.handled=none)(r:s.heap.IsList l y)
  (c:u.length=y.size) (x:u.findIdx? (·.1)=none)
  (h:∀h' a,(∀b o,s.heap.get? b=some o->h'.get? b=some o)->wpAny (model P w) A (assignInOrder (u.map (·.2)) y.toList) Q E {s with heap:=h',toks:=a}) :
  wpAny (model P w) A (unpack (.ref l) u) Q E s:=by
 have Y:l<#v[s]:=by obtain⟨o,q,_⟩:=r;show nQ q
 have U:s.TypeIs (.ref l) "list":=by obtain⟨o,q,N,_⟩:=r;show#[o,q,N]
 unfold unpack;rw[c,x];refine mT<|qx ?_;unfold unpackItems;refine mT ?_;unfold notIterableAtAll;refine mT<|wpAny_specialOf U F.slot_list_iter.lookup ?_;refine nI ?_;simp only[ug,rD];refine mT<|qx<|wM r ?_;have i:l≠#v[s]:=nU Y;refine mT<|qx<|JF j i y.size 0 _ _ #[#[_,oG _ rfl,rfl,rfl],r.push _] (by lia) λG M g p=>?_;have L:List.take y.size (List.drop 0 y.toList)=y.toList:=by
  rw[Fe];show tF (by simp)
 rw[L];rw[mV (by simp)];rw[Nat.zero_add]at g;refine mT<|qx<|(DJ (prog:=P) (w:=w) j #v[s] l i y).done _ _ _ g λJ n I=>?_;simp only[Option.isSome_none,ug,rD];refine nI<|h J n λb o e=>?_;have d:b∉[#v[s]]:=λz=>by
  have H:b=#v[s]:=by simpa using z
  rw[H]at e;show qT _<|nQ e
 show I b o d<|p b o d<|nS _ e
def Yir(K:lY)(n:Nat)(t:xz):TG:=λv z H Q=>GT (SqL K) n H (λy=>t y z H Q) v
def UB(l:X.calm=true)(h:yx X y t)
  (j:(assignEach y X.env).length=n:=by rfl) (i:(assignEach y X.env).findIdx? (·.1)=none:=by rfl):PG X (.Tuple y k pos) (Yir X.K n t):=by
 intro w s z H v u Q I r x;obtain@⟨a,g,d,c,x⟩:=x;cases r;obtain⟨a,q,Y,L⟩:=I.list d;rw[assign_Tuple];refine mT<|zu<|Tz (I.ok.hd l) Y.isList (by simp[j,<-c,q.length]) i λU p N=>?_;have M:mK X w z H {s with heap:=U,toks:=p}:=I.kept (t':=p) λb o e=>N b o e
 show h w _ z H g _ Q M (by simpa using q) x
def zD(ns:lS Int):Int:=ns.foldl (· + ·) 0
theorem QJ(ns:lS Int):∀j,preSum (λi=>ns.getD i 0) j=zD (ns.take j)\/ns.length<j
 | 0=>.inl rfl
 | j+1=>by
  by_cases h:ns.length<j+1
  ·show .inr h
  ·refine .inl ?_;rcases QJ ns j with e|e
   ·have z:j<ns.length:=by lia
    rw[preSum,e,ou,oE z];unfold zD;rw[ym,tI,oE z]
    rfl
   ·lia
def Zz1(d:X.calm=true):Xd X (.builtin "sum") (λxs H Q=>∃(p:lU)(ns:lS Int),xs=[.ref p]/\SqL X.K H p (ns.map V.int)/\Q (.int<|zD ns) H):=by
 intro M s z H xs L Q I r h;obtain⟨p,ns,rfl,c,q⟩:=h;obtain⟨u,rfl,a⟩:=Wz r;cases a;obtain⟨l,j,w,y⟩:=I.list c;have g:p<#v[s]:=by obtain⟨_,_,e,_⟩:=w;show nQ e
 refine call_sum_walkG<|wM w.isList ?_;refine#[#v[s],_,_,l.toArray.size,_,_,λi=>ns.getD i 0,rfl,DJ (A:=X.A.in1) (show X.A.in1.handled=none from I.ok.hd d) #v[s] p (nU g) l.toArray,#[#[_,oG _ rfl,rfl,rfl],w.isList.push _],?_,?_,λy Y U k=>?_]
 ·intro b x;have:=tN s.heap {cls:=.type "list_iterator",data:=.fields (List.toArray [.ref p,.int 0 0])};have y:b=#v[s]\/b=p:=by simpa using x
  change b<(s.heap.push _).objs.size;rw[this];rcases y with rfl|rfl
  ·show Ay _
  ·show ET g
 ·intro i v u;obtain⟨x,y,o⟩:=Paired.get' j (i:=i) (b:=v) (by simpa using u);rw[nR]at y;obtain⟨n,N,rfl⟩:=nW.mp y;obtain⟨t,rfl⟩:=o;show#[t,by change Value.int n t=Value.int (ns.getD i 0) t;rw[tI,N];rfl]
 ·have x:=j.length;rw[mO]at x;refine#[.int<|zD ns,H,?_,?_,q]
  ·refine I.kept (t':=Y) λb o e=>k b o ?_<|nS _ e
   have:=nQ e;intro y;have u:b=#v[s]:=by simpa using y
   rw[u]at this;show qT _ this
  ·refine#[U,?_];rw[oz,<-x];rcases QJ ns ns.length with e|e
   ·rw[e,pq]
   ·lia
def rX(x:lT)(n:Nat):lT:=#[(List.replicate n x.cps).foldl (· ++ ·) #[]]
def XX:R2:=λx y H Q=>∃(z:lT)(n:Nat),x=.str z/\y=.int n/\z.length * n<=1000/\n<=1000/\Q (.str<|rX z n) H
def QC:og X (binaryOp .Mult) XX:=by
 intro c s z H x y v u Q I l j h;obtain⟨w,n,rfl,rfl,p,o,q⟩:=h;obtain⟨t,rfl⟩:=l;obtain⟨o,rfl⟩:=j;refine PySem.P.mul_str ?_ ?_ ?_ ?_
 ·rw[ow (by lia),ow<|by lia];rfl
 ·intro r i g;have:((2:Int) ^ 63-1) / (n:Int) ≥ 1000:=by
   rw[ge_iff_le,Int.le_ediv_iff_mul_le<|by lia];lia
  have o:w.length<=w.length * n:=Nat.le_mul_of_pos_right _ (by lia);lia
 ·intro r i;change decide (w.length * (n:Int).toNat >sizeLine)=false;rw[ow];have:=sz (n:=w.length * n) p;rw[zX];lia
 ·by_cases g:n=0
  ·subst g;rw[mY (by lk)];show#[by lk,.str<|rX w 0,H,I.kept λb o e=>e,#[_,rfl],q]
  ·rw[mV (by lia)]
   by_cases r:((n:Int) ==1 || w.length ==0)=true
   ·rw[mY r];refine#[.str<|rX w n,H,I,#[t,?_],q];have:rX w n=w:=by
     rw[An,rG,rG]at r;rcases r with e|e
     ·have e:n=1:=by lia
      subst e;unfold rX;simp
     ·have e:w.cps=#[]:=Array.eq_empty_of_size_eq_zero e;have:∀m,(List.replicate m (#[]:Array Nat)).foldl (· ++ ·) #[]=#[]:=λm=>by
       induction m with
       | zero=>rfl
       | succ m d=>rw[List.replicate_succ,List.foldl_cons];simpa using d
      unfold rX;rw[e,this n];cases w;simp at e;rw[e]
    rw[this]
   ·rw[mV r,zX];refine#[?_,.str<|rX w n,H,I.kept λb o e=>e,#[_,rfl],q];show fits_reps (by change decide (_ >sizeLine)=false;rw[ow];have:=sz (n:=w.length * n) p;lia)
def ZV(K:lY)(u:TE)(ts:TO):TE:=λz H Q=>u z H λx s=>ts z s λk y=>∃a w,k=some (-1)/\x=.ref a/\SqL K y a w/\pK y (.lst w.reverse) Q
def Z8.rev(h:Z8 xs us):Z8 xs.reverse us.reverse:=by
 induction h with
 | nil=>show .nil
 | cons r _ z=>rw[BK,BK];show Paired.append z<|.cons r .nil
def IJ{X:Cx}{e st:me}{p:TE}{ts:TO}{w pos:Pos}{ops:lV->lV->lS lV}(he:PE X e p)(g:PO X (some st) ts)(d:∀l r,subscripted (.Slice none none (some st) w) false l r=operate (ops l r) (getItem l r)):PE X (.Subscript e (.Slice none none (some st) w) pos) (ZV X.K p ts):=by
 intro y s z H Q I h;refine Subscript_<|ng (he y s z H _ I h) λv c ⟨x,Y,U,N,M⟩=>?_;refine wpAny_Slice ?_;rw[evalPart_none];refine nI ?_;refine nI ?_;refine ng (g y c z Y _ U M) λn s3 L=>?_
 obtain⟨k,J,G,E,a,D,C,B,A,q⟩:=L;subst C B;cases N;have u:mK X y z J {s3 with heap:=s3.heap.push {cls:=.type "slice",data:=.fields (List.toArray [.none,.none,n])}}:=G.kept (t':=s3.toks) λb ob q=>nS _ q
 obtain⟨x,r,j,i⟩:=u.list A;change wpAny (model X.prog X.w) X.A (subscriptTail e (.Slice none none (some st) w) (.ref a)<|.ref #v[s3]) (EP X y z Q) X.xe {s3 with heap:=s3.heap.push {cls:=.type "slice",data:=.fields (List.toArray [.none,.none,n])}};refine tail_any (ops:=ops (.ref a)<|.ref #v[s3]) j.isList.typeIs Ek.lookup ?_<|d _ _;refine IZ j.isList (Heap.IsSliceOf.new ..) .none .none E (by simp) ?_ (by rw[oz,<-r.length];show i);rw[PySem.W.krv_pick];refine#[.ref _,_,u.laid (t':=s3.toks) (o:=.lst D.reverse) (λb ob q=>nS _ q) (nH _) ?_,rfl,q.at _<|u.hok.fresh<|nH _];show#[by rw[Cv];show i,_,0,Z8.rev r,oG _ rfl]
end L2
end
section
namespace L2
open PySem PySem.Spec PyProof.Rows
structure xM(K:Frag)(x qual:Str)(st:Stmt)(ps:List Str)(v:V) where
 f:Addr
 fd:FuncData
 dV:Value
 F:xI K x qual st dV f fd
 b:qr K fd ps []
 u:Value
 r:Yd v u
 b1:qr K fd ps [u]
def xI.okW{P:mh}{w:md}{K:lY}{y:lT->lX lV}{mG:ma}{x qual:lT}{st:lZ}{u:lV}{f:lU}{fd:mj}{N ps:lS lT}{k:Nat}{z:Sp}(F:xI K x qual st u f fd)(S:Zx N ps (Zk st))
  (r:∀(d6:lV)(A:mi)(mD:lS Env)(s:lW)(H:Hp)(vs:lS V)(Q:VK)(E:XK),Y8 k (A.deeper<|envOfC qual (Zk st) #v[s] f d6)->z vs H Q E->
   let X:=(pb oP P w K y mG N qual (Zk st) f d6 A mD s H E).nox;let D:pV:={nx:=λ_ q=>Q .non q,rt:=Q};WSs X (Y4 st) D (start N vs) H) (len:∀vs H Q E,z vs H Q E->vs.length=ps.length:=by rintro _ _ _ _ ⟨⟩<;>subst_vars<;>rfl):Y6 P w K y mG oP (k+1) f fd ps z:=xI.ok F S len r
def Wt(y:Gl X x)(h:∃z,X.mg x=some (.int v z))(hd:(x ==("__debug__":lT))=false:=by lk):PE X (.Name x pos) (tC<|.int v):=by
 obtain⟨z,h⟩:=h;show X4 y h #[z,rfl] hd
def Du{z:Type}{l:lS z}{a:z}(y:l.Nodup)(h:l[i]? =some a):a∉l.take i:=λm=>by
 have e:l=l.take i++(a ::l.drop (i+1)):=by rw[<-EE h,xf]
 rw[e,qG]at y;show y.2.2 a m a oM rfl
section
variable {prog:mh} {w:md} {KT:Type} [DecidableEq KT] {knd:HeapKind prog w KT} {A:mi} {E:lV->lW->Prop} {s:lW}
def Zut(c:lU)(x:(c ==sysModules)=false):MeetsIn prog w (Builtin.«dict.__len__» #[[.ref c],[]]) (λ_ R s=>∃z,s.heap.DictOfH knd c z/\R (.ok<|.ret<|.int z.length s.toks) {s with toks:=s.toks+1}) :=
 .of_wp λA R s ⟨z,u,h⟩=>by
  obtain⟨p,o,n,r,_,y,q,_,_⟩:=u;change wpAny _ _ (dictSize c >>=_) _ _ s;unfold dictSize;refine mT<|mT<|wpAny_dictEntries r y<|nI ?_;change wpAny _ _ (Builtin.Dict.pendingCount c >>=_) _ _ s;refine mT<|wpAny_pendingCount_other x<|wpAny_ret_mkInt ?_;rw[Bj,size_of_entries q];show h
def Zwy{Q:lV->lW->Prop}(x:(c ==sysModules)=false)(y:s.heap.DictOfH knd c z)(u:(z.length:Int)<2 ^ 63)
  (h:Q (.int z.length<|s.toks+1) {s with toks:=s.toks+1+1}):wpAny (model prog w) A (call (.builtin "len") [.ref c]) Q E s:=by
 refine Gq kind_len plain_len entry_len (args_len1 _) ?_;unfold Builtin.«len»;refine mT (m:=oneArg "len" _)<|nI<|mT (m:=callSpecial? (.ref c)<|Str.ofString "__len__") ?_;refine wpAny_callSpecial?_slot (name:=Str.ofString "__len__") y.typeIs F.slot_dict_len<|vC F.slot_dict_len y.typeIs F.entry_dict_len (F.args_dict_len_1 _) (Zut (knd:=knd) c x) #[z,y,?_];change wpAny _ _ _ _ _ {s with toks:=s.toks+1};refine mT<|qx<|nI<|mT<|wpAny_letGo ?_;change wpAny _ _ (if((z.length:Nat):Int)<0 then _ else _) _ _ _;rw[mV (by lia)];change wpAny _ _ (if((z.length:Nat):Int) ≥ 2 ^ 63 then _ else _) _ _ _;rw[mV (by lia)];show mT<|wpAny_mkInt<|nI #[_,rfl,h]
end
def Ho:lS V->Hp->VK->Prop:=λy H Q=>∃a z,y=[V.ref a]/\H a=some (.dT z)/\Q (.int z.length) H
def QB:Xd X (.builtin "len") Ho:=by
 intro i s z H g e Q I r h;obtain⟨a,x,rfl,p,q⟩:=h;obtain⟨u,rfl,o⟩:=Wz r;cases o;obtain⟨y,hd,n,l,j⟩:=IU I.hok p;have w:x.length=n.length:=nJ l;refine Zwy hd j (by rw[<-w];rw[sO]at y;lia) ?_;rw[<-w];show#[.int _,H,I.tok _,#[_,rfl],q]
section
variable {prog:mh} {w:md} {KT:Type} [DecidableEq KT] {knd:HeapKind prog w KT} {A:mi} {R:Result->lW->Prop} {l d it:lU} {tps:lS lU} {qs:lS (KT×lU×lV)} {h₀:ma}
def yX(knd:HeapKind prog w KT)(h:ma)(tps:lS lU)(qs:lS (KT×lU×lV)):Prop :=
 Paired (λp (q:KT×lU×lV)=>(∃o n,h.get? p=some o/\o.cls=.type "tuple"/\o.data=.seq (List.toArray [.ref q.2.1,q.2.2]) n)/\∃ok,h.get? q.2.1=some ok/\∀z:ma,z.get? q.2.1=some ok->knd.is z q.1 q.2.1) tps qs
def yX.key(y:yX knd h tps qs):∀q∈qs,∃ok,h.get? q.2.1=some ok/\∀h':ma,h'.get? q.2.1=some ok->knd.is h' q.1 q.2.1:=by
 unfold yX at y
 induction y with
 | nil=>intro q z;cases z
 | cons r _ x =>
  intro q z;rcases nV.mp z with rfl|z
  ·show r.2
  ·show x q z
def DY{h h':ma}{z:lS (KT×lU×lV)}(x:h.DictOfH knd d z)(hd:∀o,h.get? d=some o->h'.get? d=some o)(u:∀y∈z,knd.is h' y.1 y.2.1):h'.DictOfH knd d z:=by
 obtain⟨o,s,r,q,p,n,j,_,i⟩:=x;show#[o,s,r,hd o q,p,n,j,u,i]
def WG(hh:A.handled=none)(hu:knd.room A.in1)(c:d≠it)(hl:h₀.IsList l (tps.map Value.ref).toArray)(I:l≠d)(H:l≠it)(hp:yX knd h₀ tps qs)(T9:(qs.map (·.1)).Nodup)(hsz:qs.length<=sizeLine)
  (hpd:∀p∈tps,p≠d/\p≠it) (G:∀q∈qs,q.2.1≠d/\q.2.1≠it) :
  ∀(n i:Nat)(s:lW)(j:Int)(tk:Tok),i+n=qs.length->s.heap.IsListIter it l i->s.heap.DictOfH knd d (qs.take i)->(∀b o,b≠d->b≠it->h₀.get? b=some o->s.heap.get? b=some o)->
   (∀h' A1,h'.DictOfH knd d qs->(∀b o,b≠d->b≠it->h₀.get? b=some o->h'.get? b=some o)->R (.ok<|.ret .none) {s with heap:=h',toks:=A1})->
   codeAny (model prog w) A (.builtin "dict.update.loop" #[[.ref d,.ref it,.int j tk,.none],[]]) R s:=by
 have g8:tps.length=qs.length:=nJ hp;have J6:=hp.key;have hu':∀args:Args,knd.room (A.under<|.builtin "dict.update.loop" args):=λargs=>by rw[Ir (by left)];show hu
 have is_:∀h':ma,(∀b o,b≠d->b≠it->h₀.get? b=some o->h'.get? b=some o)->∀q∈qs,knd.is h' q.1 q.2.1:=λh' D q Y=>by
  obtain⟨ok,h,J⟩:=J6 q Y;show J h'<|D _ _ (G q Y).1 (G q Y).2 h
 intro n
 induction n with
 | zero =>
  intro i s j tk hi U C u Y;have S7:s.heap.IsList l (tps.map Value.ref).toArray:=by
   obtain⟨o,Q,r⟩:=hl;show#[o,u _ _ I H Q,r]
  refine yT Dh ?_;unfold Builtin.«dict.update.loop»;dsimp only;refine mT<|Ev hh U S7 (by rw[Dv,nR,uV<|by lia];rfl) λh' z=>?_;dsimp only;refine mT<|nI<|nI ?_;have D:∀b o,b≠d->b≠it->h₀.get? b=some o->h'.get? b=some o:=λb o h J y=>z b o J<|u b o h J y
  refine Y h' s.toks ?_ D;rw[show qs.take i=qs from tF<|by lia]at C;show DY C (λo Q=>z d o c Q) (is_ h' D)
 | succ n ih =>
  intro i s j tk hi U C u Y;have S7:s.heap.IsList l (tps.map Value.ref).toArray:=by
   obtain⟨o,Q,r⟩:=hl;show#[o,u _ _ I H Q,r]
  have Q3:i<tps.length:=by lia
  obtain⟨q,N,⟨ot,z,S2,hct,hdt⟩,_⟩:=Paired.get hp (i:=i) (a:=tps[i])<|oE Q3;obtain⟨nd,ni⟩:=hpd tps[i] (Eo Q3);have hqm:q∈qs:=pE N;refine yT Dh ?_;unfold Builtin.«dict.update.loop»;dsimp only;refine mT<|Eg U S7 (x:=.ref tps[i]) (by rw[Dv,nR,oE Q3];rfl) λh it1 M=>?_;have g:h.get? tps[i]=some ot:=by rw[M.2 _ ni];show u _ _ nd ni S2
  have hT:({s with heap:=h}:lW).TypeIs (.ref tps[i]) "tuple":=#[_,g,hct]
  have L:∀b o,b≠d->b≠it->h₀.get? b=some o->h.get? b=some o:=λb o z1 z2 z3=>by rw[M.2 _ z2];show u b o z1 z2 z3
  have M4:h.DictOfH knd d (qs.take i):=DY C (λo Q=>by rw[M.2 _ c];show Q) λy B=>is_ h L y<|yD B
  refine mT<|qx<|mT<|wpAny_tryCatch ?_;unfold Builtin.Dict.pairItems;refine mT<|xk hT ?_;rw[mY (by lk)];refine mT<|wpAny_seqItems (s:={s with heap:=h}) g hdt<|nI ?_;refine qx<|wpAny_dictSet_heap (s:={s with heap:=h}) (hu' _) (is_ h L q hqm) M4 (λJ A6 E=>?_) ?_
  ·refine nI #[wW _ (by left),?_];have C0:atKey (qs.take i) q.1=none:=by
    cases e:atKey (qs.take i) q.1 with
    | none=>rfl
    | some z =>
     unfold atKey at e;obtain⟨y,B,_⟩:=nW.mp e;have y0:=List.find?_some B;have y1:y.1=q.1:=pD y0;have m1:y.1∈(qs.map (·.1)).take i:=by rw[<-wG];show mZ.mpr #[y,List.mem_of_find?_eq_some B,rfl]
     rw[y1]at m1;show absurd m1 (Du T9<|by rw[nR,N];rfl)
   have A5:storedH (qs.take i) q.1 q.2.1 q.2.2=qs.take (i+1):=by rw[storedH_new C0,ou,N];rfl
   rw[A5]at A6;refine ih (i+1) {s with heap:=J,toks:=_} (j+1) _ (by lia) ?_ A6 (λb o n1 n2 z=>?_) λh' A1=>Y h' A1
   ·show it1.at λo z=>by rw[E.2 _ c.symm];show z
   ·rw[E.2 _ n1];show L b o n1 n2 z
  ·rw[oy];lia
def Sq{Q:lV->lW->Prop}{E:lV->lW->Prop}(hh:A.handled=none)(hu:knd.room A.in1.in1)(M:s.heap.get? l=some {cls:=.type "list",data:=.seq (tps.map Value.ref).toArray n})(L:yX knd s.heap tps qs)(T9:(qs.map (·.1)).Nodup)(hsz:qs.length<=sizeLine)
  (h:∀h' J dd,h'.DictOfH knd dd qs->dd=#v[s]->s.heap.get? dd=none->(∀b o,s.heap.get? b=some o->h'.get? b=some o)->Q (.ref dd) {s with heap:=h',toks:=J}) :
  wpAny (model prog w) A (call (.type "dict") [.ref l]) Q E s:=by
 refine callType_codes (Q₁:=λobj mn=>obj=.ref #v[s]/\mn={s with heap:=s.heap.push {cls:=.type "dict",data:=.dict #[]}}) F.kt_called_dict (F.kt_typeCall_dict_1 _) F.entry_dict_init (kt_code_dict_new _ #[rfl,rfl]) ?_;rintro obj mn ⟨rfl,rfl⟩;have I:(s.heap.push {cls:=.type "dict",data:=.dict #[]}).DictOfH knd #v[s] []:=Heap.DictOfH.new s.heap;have j:(s.heap.push {cls:=.type "dict",data:=.dict #[]}).get? l=some {cls:=.type "list",data:=.seq (tps.map Value.ref).toArray n}:=nS _ M;refine#[I.typeIs,F.args_dict_init_2 _ _,?_];unfold Builtin.«dict.__init__»;refine mT ?_;unfold Builtin.Dict.selfAndRest;refine mT<|Em I.typeIs ?_;change wpAny _ _ (pure (#v[s],[Value.ref l])) _ _ _;refine nI ?_;change wpAny _ _ (Builtin.Dict.updateFrom "dict.__init__" #v[s] (.ref l) [] .none) _ _ _;unfold Builtin.Dict.updateFrom;refine mT<|xk (T :="list") #[_,j,rfl] ?_;rw[mY (by lk)];obtain⟨r,g0,d0,y,g⟩:=s;dsimp only at *;refine mT<|Ew hh j λu e U=>?_;simp only[Gz,sP];have H:=U _ _ j;have O8:u.IsList l (tps.map Value.ref).toArray:=#[_,H,rfl,n,rfl]
 refine mT<|uN<|mT<|wM (s:=#[u,g0,d0,e,g]) O8<|nI #[wW _ (by left),?_];have N:∀b o,r.get? b=some o->(u.push {cls:=.type "list_iterator",data:=.fields (List.toArray [.ref l,.int 0 0])}).get? b=some o:=λb o z=>nS _<|U _ _<|nS _ z
 have G:u.get? r.objs.size=some {cls:=.type "dict",data:=.dict #[]}:=U _ _<|oG r rfl;have D:r.objs.size<u.objs.size:=nQ G;have Y:l<r.objs.size:=nQ M;have x:∀c o,r.get? c=some o->c≠r.objs.size/\c≠u.objs.size:=λc o z=>by
  have:=nQ z;show#[nU this,nU<|rj this D]
 refine WG (A:=A.in1) (knd:=knd) (h₀:=u.push {cls:=.type "list_iterator",data:=.fields (List.toArray [.ref l,.int 0 0])}) (l:=l) (tps:=tps) (qs:=qs) hh hu (nU D) ?_ (nU Y) (nU<|rj Y D) ?_ T9 hsz (λp z=>?_) (λq z=>?_) qs.length 0 #[u.push {cls:=.type "list_iterator",data:=.fields (List.toArray [.ref l,.int 0 0])},g0,d0,e,g] 0 0 (by lia) ?_ ?_ (λ_ _ _ _ z=>z) λh' J hD kp=>?_
 ·show#[_,N _ _ M,rfl,n,rfl]
 ·show Paired.mapP L λp q ⟨⟨o,m,C,y⟩,ok,B,i⟩=>#[#[o,m,N _ _ C,y],ok,N _ _ B,i]
 ·obtain⟨i,y,rfl⟩:=wp z;obtain⟨q,_,⟨o,m,C,_⟩,_⟩:=Paired.get L (i:=i) (a:=tps[i])<|oE y;show x _ _ C
 ·obtain⟨ok,B,_⟩:=L.key q z;show x _ _ B
 ·show#[_,oG u rfl,rfl,rfl]
 ·show DY I (λo i=>nS _<|U _ _ i) λy hy=>by cases hy
 ·refine#[rfl,h h' J r.objs.size hD rfl (xR<|nH _) λb o z=>kp b o ?_ ?_<|N b o z]
  ·show(x _ _ z).1
  ·show(x _ _ z).2
end
def IW:lS V->Hp->VK->Prop:=λx H Q=>∃(l:lU)(y:lS lU)(z:lS (lS nj×V)),x=[.ref l]/\H l=some (.lst<|y.map V.ref)/\
 Paired (λt (q:lS nj×V)=>∃a,H t=some (.tup [.ref a,q.2])/\H a=some (.tup<|q.1.map kV)) y z/\(z.map fst).Nodup/\pK H (.dT z) Q
def Vr(hc:X.calm=true)(hu:X.A.units+64<cLine):Xd X (.type "dict") IW:=by
 intro c7 s z H xs us Q I r h;obtain⟨l,j,x,rfl,hl,d,hn,q⟩:=h;obtain⟨u,rfl,ru⟩:=Wz r;cases ru;obtain⟨hz,c8,n,c,hg⟩:=(show Yb X.prog X.w H s.heap l (.lst<|j.map V.ref)from I.hok l _ hl)
 rw[we c]at hg;have key:∀{j:lS lU}{x:lS (lS nj×V)},Paired (λt (q:lS nj×V)=>∃a,H t=some (.tup [.ref a,q.2])/\H a=some (.tup<|q.1.map kV)) j x->∃w,KT H x w/\yX (tupleKind<|Zy X.prog X.w) s.heap j w:=by
  intro j x d
  induction d with
  | nil=>show#[[],.nil,.nil]
  | cons r t Y =>
   rename_i p q _ _;obtain⟨w,h1,h2⟩:=Y;obtain⟨a,ra,rk⟩:=r;obtain⟨_,c8,c,o,ho,w9,m,hd⟩:=(show Yb X.prog X.w H s.heap p (.tup [.ref a,q.2])from I.hok p _ ra)
   obtain⟨k,v,rfl,U,N⟩:=wg c;cases(show k=Value.ref a from U);obtain⟨_,L1,r2,o2,N7,g,m2,M⟩:=(show Yb X.prog X.w H s.heap a (.tup<|q.1.map kV)from I.hok a _ rk)
   show#[(q.1,a,v) ::w,.cons #[rfl,rk,N] h1,.cons #[#[o,m,ho,w9,hd],o2,N7,λh' e=>#[o2,_,m2,e,g,M,by simpa using Hu r2]] h2]
 obtain⟨w,L,G⟩:=key d;have E:x.length=w.length:=nJ L;have L9:x.length<=sizeLine:=by
  have:=nJ d;rw[mO]at hz;lia
 have T9:(w.map (·.1)).Nodup:=by
  have:∀{x:lS (lS nj×V)}{w:lS (lS nj×lU×lV)},KT H x w->w.map (·.1)=x.map fst:=by
   intro x w y
   induction y with
   | nil=>rfl
   | cons r t Y=>rw[oh,oh,Y,r.1]
  rw[this L];show hn
 refine Sq (knd:=tupleKind<|Zy X.prog X.w) (I.ok.hd hc) (yp (A:=X.A.in1)<|by change X.A.units+1+1<cLine;lia) hg G T9 (by rw[<-E];show L9) λh' A1 i hD D U6 k=>?_
 have C:i≠sysModules:=λy=>by
  have hb:=I.big;rw[<-D,y]at hb;show qT _ hb
 have B:H i=none:=by
  cases e:H i with
  | none=>rfl
  | some u =>
   obtain⟨ob,y⟩:=(I.hok i u e).there;rw[U6]at y;cases y
 obtain⟨o,es,ep,e1,e2,e3,e4,_,e5⟩:=hD;obtain⟨hH,J⟩:=I.laidAt (t':=A1) (o:=.dT x) k U6 (show Yb X.prog X.w (mM H i<|.dT x) h' i (.dT x)from#[L9,su.mpr C,w,L.keeps λb ys e=>by rw[Zd (Zf e B)];show e,o,es,ep,e1,e2,e3,e4,e5]);show#[.ref i,_,J,rfl,q.at i hH]
section
variable {E:lV->lW->Prop} {κ:KeyKind} {kd:SortKind}
def Lts(prog:mh)(w:md)(A:mi)(s:lW)(κ:KeyKind)(kd:SortKind):Prop :=
 ∀(x y:lV)(a b:κ.α)(u:lV->lW->Prop)(z:Bool->lW->Prop),κ.keyOf x=some a->κ.keyOf y=some b->a≠b->z (κ.blt a b) s->wpAny (model prog w) A (keyLt' kd x y) z u s
def Yic(κ:KeyKind)(o:Array Keyed):Prop:=(o.toList.map λp=>κ.keyOf p.1).Nodup
variable (hL:Lts prog w A s κ kd) (k:KeysOf κ o) (d:Yic κ o)
include hL k d
end
end L2
end
section
namespace L2
open PySem PyProof.Rows
section
variable {prog:mh} {w:md} {A:mi} {E:lV->lW->Prop} {s:lW} {o:Array Keyed} {kd:SortKind} {p:Array (Nat×Nat×Nat)} {st:SortSt}
def yB(prog:mh)(w:md)(A:mi)(s:lW)(kd:SortKind)(o:Array Keyed):Prop :=
 ∀x∈o,∀y∈o,∀(u:lV->lW->Prop)(z:Bool->lW->Prop),(∀b,z b s)->wpAny (model prog w) A (keyLt' kd x.1 y.1) z u s
variable (L:yB prog w A s kd o)
include L
omit L
variable {a b out:Array Keyed} {x y z:lS Keyed} {v:Keyed}
omit L in
omit L in
include L
omit L
include L
omit L in
end
end L2
end
section
namespace L2
open PySem PySem.Spec PyProof.Rows
open Classical in
def xv(z:lS (lT×lU))(H:Hp):Hp:=λb=>if ∃x,z.lookup x=some b then none else H b
def SZ(h:z.lookup x=some b):xv z H b=none:=mY #[x,h]
def xj(h:∀x,y.lookup x≠some b):xv y H b=H b:=mV λ⟨x,z⟩=>h x z
def KH :mF (xv y H) H:=λb o e=>by
 unfold xv at e
 by_cases z:∃x,y.lookup x=some b
 ·rw[mY z]at e;cases e
 ·rw[mV z]at e;show e
variable {X:Cx}
def Dz(I:mK X w z H s)(h:X.env.cells.lookup x=some c):∃o v,rh X.env.cells H s.heap c=some (Fz o)/\s.heap.get? c=some o/\o.data=.cell v:=by
 obtain⟨v,o,y,hd⟩:=I.cell x c h;refine#[o,v,?_,y,hd];unfold rh;rw[mY #[x,h],y];rfl
def mK.noC(I:mK X u z H s)(w:∀x,X.fn x=true)(h:X.ml.heap.get? b=some o)(x:lT):X.env.cells.lookup x≠some b:=λy=>absurd (pM (nQ h)<|I.ok.cab x b (w x) y)<|qT _
def mK.env0C(I:mK X n z H s)(r:∀x,X.fn x=true):uS X.prog X.w X.K X.mg X.mG X.A X.stack s (rh X.env.cells H s.heap):=by
 have E:=I.env0;refine#[E.frames,E.mod,λb o e=>#[(E.bs b o e).1,?_],E.bsz,E.funs,λb p=>?_,λb o e=>?_,E.bare]
 ·rw[yq λx=>I.noC r (I.ok.bs b o e).1 x];show(E.bs b o e).2
 ·rw[yq λx y=>?_]
  ·show E.frf b p
  ·rcases nV.mp (I.stkSub b p)with w|w
   ·show I.cne x b y w
   ·obtain⟨_,o,u,_⟩:=I.ok.funs.mem w;show I.noC r u x y
 ·by_cases y:∃x,X.env.cells.lookup x=some b
  ·obtain⟨x,y⟩:=y;obtain⟨l,v,q,u,j⟩:=Dz I y;rw[q]at e;cases e;show#[u,u,_,u]
  ·rw[yq λx w=>y #[x,w]]at e;show(I.hok b o e).stay (λ_ _ _ q=>q) (λc q=>Xi I q) (λc u q=>Xi I q) (λc o q=>Xi I q) (λc o q=>Xi I q)
def CE.lend(I:mK X D z H s)(h:CE X.stack X.prog X.w (rh X.env.cells H s.heap) s Q u s'):CE X.stack X.prog X.w H s (λv M=>∃j,M=xv X.env.cells j/\(∀x c o,X.env.cells.lookup x=some c->s.heap.get? c=some o->j c=some (Fz o))/\Q v j) u s':=by
 obtain⟨v,j,os,d,un,g,r,q⟩:=h;have frz:∀x c o,X.env.cells.lookup x=some c->s.heap.get? c=some o->j c=some (Fz o):=λx c o L J=>by
  obtain⟨E,w,i,l,_⟩:=Dz I L;rw[J]at l;cases l;show un.frzs c _ _ i
 have Y:∀{b:lU}{o:HO},H b=some o->∀x,X.env.cells.lookup x≠some b:=λe x y=>by rw[I.freeC x _ y]at e;cases e
 have ad:∀{b:lU},(∀x,X.env.cells.lookup x≠some b)->H b=none->rh X.env.cells H s.heap b=none:=λy n=>by rw[yq y];show n
 refine#[v,xv X.env.cells j,os,d,#[λb o i l U a=>?_,λb o i l U a=>?_,λb o i l a=>?_,un.there,λb N e=>?_,λb o u e=>?_,λb G e=>?_],λb o e=>?_,r,j,rfl,frz,q]
 ·by_cases y:∃x,X.env.cells.lookup x=some b
  ·obtain⟨x,y⟩:=y;show(g b _<|frz x b o y i).1
  ·show un.keep b o i (ad (λx p=>y #[x,p]) l) U a
 ·by_cases y:∃x,X.env.cells.lookup x=some b
  ·obtain⟨x,y⟩:=y;show#[o.slots,(g b _<|frz x b o y i).1]
  ·show un.slot b o i (ad (λx p=>y #[x,p]) l) U a
 ·by_cases y:∃x,X.env.cells.lookup x=some b
  ·obtain⟨x,y⟩:=y;show SZ y
  ·rw[xj λx p=>y #[x,p]];show un.free b o i (ad (λx p=>y #[x,p]) l) a
 ·rw[xj (Y e)];show un.tups b N<|Xi I e
 ·rw[xj (Y e)];show un.frzs b o u<|Xi I e
 ·obtain⟨m,y⟩:=un.tbls b G<|Xi I e;show#[m,by rw[xj (Y e)];show y]
 ·have soft:∀{c:lU}{o:HO},j c=some o->(∀E,o≠Fz E)->xv X.env.cells j c=some o:=λ{c o} y n=>by
   rw[xj]
   ·show y
   ·intro x p;obtain⟨_,w,_,l,_⟩:=Dz I p;rw[frz x c _ p l]at y;cases y;show n _ rfl
  show(g b o<|KH b o e).stay (λ_ _ _ q=>q) (λc q=>soft q λ_ y=>nomatch y) (λc N q=>soft q λ_ y=>nomatch y) (λc o q=>soft q λ_ y=>nomatch y) (λc o q=>soft q λ_ y=>nomatch y)
def ES(X:Cx)(z:St)(H:Hp)(S:Hp->VK->Prop)(Q:VK):Prop:=∀w,mF H w->(∀(i:Nat)(x:lT)(v:V)(c:lU),X.N[i]? =some x->z[i]? =some (some v)->X.env.scope.names.lookup x=some .cell->X.env.cells.lookup x=some c->H c=none/\CellAt w c v)->
 S w λv s=>∀y,mF y s->(∀b u o,H b=some u->s b=some o->y b=some o)->(∀b o,s b=some o->(∀x,o≠Fz x)->y b=some o)->Q v y
def WV(F:Y6 X.prog X.w X.K X.mg X.mG oP k f fd ps j)(g:Y8 k X.A)(d:∀x,X.fn x=true)(a:qr X.K fd ps [])
  (I:mK X Y z H s) (r:Z8 vs us) (h:ES X z H (λU N=>j vs U N E0) Q):wpAny (model X.prog X.w) X.A (call (.ref f) us) (EP X Y z Q) X.xe s:=by
 have h:=h (rh X.env.cells H s.heap) (λb o e=>Xi I e) λi x v c M l L J=>FU I M l L J
 have G:us.length=ps.length:=by rw[<-r.length];show F.len _ _ _ _ h
 have b:=a s us I.kIn (by rw[qj];show G);rw[qj]at b;refine uT<|vn (F.run X.A X.stack s _ #[us,[]] us vs _ E0 g (I.env0C d) b r h) λr y p=>?_;cases r with
 | error e=>show False.elim p
 | ok E =>
  cases E with
  | ret u =>
   obtain⟨v,y,D,C,w,B,frz,q⟩:=I.after<|CE.lend I p;subst B;refine#[v,_,D,C,q _ KH (λb u o e A=>?_) λb o e n=>?_]
   ·rw[xj λx y=>by rw[I.freeC x b y]at e;cases e];show A
   rw[xj]
   ·show e
   ·intro x y;obtain⟨_,w,_,l,_⟩:=Dz I y;rw[frz x b _ y l]at e;cases e;show n _ rfl
  | next=>show False.elim p
  | brk=>show False.elim p
  | cont=>show False.elim p
def Si(X:Cx)(y:Sp)(t:TA):TE:=λz H Q=>t z H λx w=>ES X z w (λu s=>y x u s E0) Q
def yM(F:Y6 X.prog X.w X.K X.mg X.mG oP k f fd ps u)(o:Y8 k X.A)(n:∀x,X.fn x=true)(l:Gl X x)(j:X.mg x=some (.ref f))(i:keepIn X.K (.ref f)=true)(g:qr X.K fd ps [])
  (d:PA X (e ::y) t) (c:(x ==("__debug__":lT))=false:=by lk) (he:starEach (e ::y) X.env=(false,eval e X.env) ::starEach y X.env:=by rfl) (a:(backTo pos<|starEach y X.env).any (·.1)=false:=by rfl) :
  PE X (.Call (.Name x p) (e ::y) [] pos) (Si X u t):=by
 intro Y s z H Q I h;refine uZ<|xJ I l j ?_ c;refine zU (h₀:=X.mG) I.ok.mod.kin i (ng (d pos Y s z H _ I h) λU N ⟨M,L,w,r,q⟩=>#[w.kIn,?_]) he a;show WV F o n g w r q
def WH(X:Cx)(Pt:lU)(s:Arguments)(r:me)(q:Scope)(u:Pos)(z:lS (lT×lU)):TE:=λ_ H Q=>∃y,H Pt=some (.tbl<|Xk y)/\(u.line,u.col,X.env.qual++"<lambda>")∈y/\∀x w,mF H w->H x=none->Clo w Pt x (X.env.qual++"<lambda>") s r q z->Q (.ref x) w
def xV(p:X.env.code=.ref c)(o:PySem.W.codeHdIn X.K c Pt=true)(y:defaultsOf w X.env=([],[]):=by rfl)(n:closureFor u X.env=pure x:=by rfl):PE X (.Lambda w l u j) (WH X Pt w l u j x):=by
 intro M s z H Q I h;obtain⟨i,g,e,d⟩:=h;show PV I y p (Eb I.ok.mod.kin o) g e n λr q L a Y U N=>#[.ref r,q,a,rfl,d r q Y U N]
section
variable {P:mh} {w:md} {K:lY} {mg:lT->lX lV} {mG:ma}
def qN.okL{x qual:lT}{st:lZ}{f Pt:lU}{fd:mj}{N ps:lS lT}{k:Nat}{z:Sp}(F:qN K x qual st f fd)(L:tT K fd Pt)(S:Zx N ps (Zk st))
  (r:∀(c:lU)(A:mi)(y:lS Env)(s:lW)(H:Hp)(vs:lS V)(Q:VK)(E:XK),PySem.W.codeHdIn K c Pt=true->Y8 k (A.deeper<|envOfC qual (Zk st) #v[s] f (.ref c))->z vs H Q E->
   let X:=(pb oP P w K mg mG N qual (Zk st) f (.ref c) A y s H E).nox;let D:pV:={nx:=λ_ q=>Q .non q,rt:=Q};WSs X (Y4 st) D (start N vs) H) (len:∀vs H Q E,z vs H Q E->vs.length=ps.length:=by rintro _ _ _ _ ⟨⟩<;>subst_vars<;>rfl):Y6 P w K mg mG oP (k+1) f fd ps z:=by
 obtain⟨i,h,kV,g,e,d,p,a,Y,rfl,lk,o⟩:=F.ex;obtain⟨c,u,n⟩:=L;have u:p=.ref c:=u;subst u;refine DE lk o S len λA y s H vs Q E l j=>?_
 show#[_,qL.nox Zo,r c A y s H vs Q E n l j]
end
def kD:nj->PyData
 | .inl i=>.int i
 | .inr x=>.str x
mutual
inductive Rp(H:Hp):PyData->V->Prop
 | str (x:Str):Rp H (.str x) (.str x)
 | bl (b:Bool):Rp H (.bool b) (.bl b)
 | int (i:Int):Rp H (.int i) (.int i)
 | lst {a:Addr} {xs:List V} {ds:List PyData}:H a=some (.lst xs)->qy H ds xs->Rp H (.list ds) (.ref a)
 | tup {a:Addr} {xs:List V} {ds:List PyData}:H a=some (.tup xs)->qy H ds xs->Rp H (.tuple ds) (.ref a)
 | dk {a:Addr} {kvs:List (nj×V)} {ds:List PyData}:H a=some (.dK kvs)->qy H ds (kvs.map snd)->Rp H (.dict<|(kvs.map λp=>kD p.1).zip ds) (.ref a)
inductive qy(H:Hp):List PyData->List V->Prop
 | nil:qy H [] []
 | cons {d:PyData} {v:V} {ds:List PyData} {vs:List V}:Rp H d v->qy H ds vs->qy H (d ::ds) (v ::vs)
end
theorem qy.length:∀{ds:lS PyData}{vs:lS V},qy H ds vs->ds.length=vs.length
 | _,_,.nil=>rfl
 | _,_,.cons _ h=>oN Nat.succ h.length
def Rt(e:vT k u=true):Reads h u (kD k) []:=by
 rcases Xg e with⟨i,t,rfl,rfl⟩|⟨x,t,rfl,rfl⟩
 ·show .int i t
 ·show .str x t
theorem MZ :∀{z:lS DictEntry}{kvs:lS (nj×lV)},Pairs (Zy P w) z kvs->ReadsAll h (z.map (·.key)) (kvs.map λp=>kD p.1) []
 | _,_,.nil=>.nil
 | _,_,.cons (e:=e) (kv:=kv) y u x=>ReadsAll.cons (as:=[]) (bs:=[]) (Rt y)<|MZ x
theorem Nj :∀{z:lS DictEntry}{kvs:lS (nj×lV)},Pairs (Zy P w) z kvs->z.map (·.val)=kvs.map snd
 | _,_,.nil=>rfl
 | _,_,.cons u y x=>by rw[oh,oh,y,Nj x]
def ZD(h:KV kvs vs):Z8 (kvs.map snd) (vs.map snd)/\(vs.map λp=>kD p.1)=kvs.map λp=>kD p.1:=by
 induction h with
 | nil=>show#[.nil,rfl]
 | cons r t z=>show#[.cons r.2 z.1,by rw[oh,oh,z.2,r.1]]
mutual
theorem Rp.reads(I:mK X E z H s):∀{d:PyData}{v:V}{u:lV},Rp H d v->Yd v u->∃as,Reads s.heap u d as/\∀a∈as,∃o,H a=some o
 | _,_,u,.str x,r=>by
  obtain⟨t,rfl⟩:=(show ∃t,u=Value.str x t from r)
  show#[[],.str x t,λ_ y=>nomatch y]
 | _,_,u,.bl b,r=>by
  obtain rfl:u=Value.bool b:=r;show#[[],.bool b,λ_ y=>nomatch y]
 | _,_,u,.int i,r=>by
  obtain⟨t,rfl⟩:=(show ∃t,u=Value.int i t from r)
  show#[[],.int i t,λ_ y=>nomatch y]
 | _,_,u,.lst (a:=a) (xs:=j) e h,r=>by
  obtain rfl:u=Value.ref a:=r;obtain⟨_,Y,n,g,w⟩:=(show Yb X.prog X.w H s.heap a (.lst j)from I.hok a _ e)
  obtain⟨as,q,l⟩:=qy.reads I h g;show#[a ::as,.list w rfl rfl q,λb c=>(nV.mp c).elim (λy=>#[_,(oN H y).trans e]) (l b)]
 | _,_,u,.tup (a:=a) (xs:=j) e h,r=>by
  obtain rfl:u=Value.ref a:=r;obtain⟨_,Y,g,o,w,x,m,hd⟩:=(show Yb X.prog X.w H s.heap a (.tup j)from I.hok a _ e)
  obtain⟨as,q,l⟩:=qy.reads I h g;show#[as,.tuple w x hd q,l]
 | _,_,u,.dk (a:=a) (kvs:=x) (ds:=n) e h,r=>by
  obtain rfl:u=Value.ref a:=r;obtain⟨_,_,D,U,o,C,B,w,Q,hd,_,i,_⟩:=(show Yb X.prog X.w H s.heap a (.dK x)from I.hok a _ e)
  obtain⟨N,M⟩:=ZD U;obtain⟨as,q,l⟩:=qy.reads I h N;have L:=h.length;rw[mO]at L;have J:((x.map λp=>kD p.1).zip n).map fst=x.map λp=>kD p.1:=List.map_fst_zip (by rw[mO];lia)
  have G:((x.map λp=>kD p.1).zip n).map snd=n:=List.map_snd_zip (by rw[mO];lia);refine#[a ::[]++as,.dict w Q.1 hd ?_ ?_,λb c=>?_]
  ·rw[J,<-M];show MZ i
  ·rw[G,Nj i];show q
  ·rcases nV.mp c with y|y
   ·show#[_,(oN H y).trans e]
   ·show l b y
theorem qy.reads(I:mK X n z H s):∀{ds:lS PyData}{vs:lS V}{us:lS lV},qy H ds vs->Z8 vs us->∃as,ReadsAll s.heap us ds as/\∀a∈as,∃o,H a=some o
 | _,_,_,.nil,r=>by
  cases r;show#[[],.nil,λ_ y=>nomatch y]
 | _,_,_,.cons h t,r=>by
  cases r with
  | cons r y =>
   obtain⟨as,x,w⟩:=Rp.reads I h r;obtain⟨bs,u,q⟩:=qy.reads I t y;show#[as++bs,.cons x u,λb p=>(oA.mp p).elim (w b) (q b)]
end
def Ag:lS V->Hp->VK->Prop:=λz H Q=>∃(a:lU)(d:PyData),z=[.ref a]/\Rp H d (.ref a)/\d.showable=true/\d.depth<=60/\d.shown.length<=sizeLine/\Q (.str d.shown) H
def Ci(y:∃x,X.mG.Ns sysModules x)(w:X.A.guards=some [])(N:X.A.units+64<cLine):Xd X (.builtin "repr") Ag:=by
 intro M s z H L J Q I r h;obtain⟨a,d,rfl,p,n,hd,l,q⟩:=h;obtain⟨u,rfl,j⟩:=Wz r;cases j;obtain⟨o,i,g⟩:=p.reads I (u:=.ref a) rfl;refine repr_of_reads' i n (λ_ c=>?_) w (by lia) (λ_ _ e=>e) (λY u U y=>?_) l
 ·obtain⟨o,e⟩:=g _ c;obtain⟨x,o,d,G,y,_⟩:=y;rw[(I.bs _ _ y).2]at e;cases e
 ·show#[.str _,H,I.un (h':=Y) (t':=U) (Un.kept y)<|I.hok.kept y,#[_,rfl],q]
def Zxt{P:mh}{w:md}{K:lY}{L mb:lT->lX lV}{k:Nat}{fa a:lU}{fd:mj}{x:lT}{l:lW}{vs:lS lV}{ns:lS Int}{tabs:lS (lU×Array lV)}
  (KX:K.In l.heap) (E6:l.heap.Ns mainGlobals L) (Y:l.heap.Ns builtinsNs mb) (hbb:∀x:lT,x≠ "__name__"->mb x=bootBuiltins x) (I:l.heap.NoLimit) (hbm:Jm L l.heap) (hg:l.gens=#[])
  (G:l.heap.get? a=some {cls:=.type "list",data:=.seq vs.toArray}) (hi:IntsAre vs ns) (hl:ns.length<=63) (hr:Y8 k callerA) (TO:Cn K l.heap tabs)
  (hsm:∃mm,l.heap.Ns sysModules mm) (F:∀mG:ma,K.In mG->mG.Ns mainGlobals L->(∃mm,mG.Ns sysModules mm)->Y6 P w K L mG oP k fa fd [x] (ze K tabs)) (M:∀(s:lW)(u:lV),BindsTo s fd #[[u],[]] [(x,u)]) :
  codeAny (model P w) callerA (.call (.ref fa) #[[.ref a],[]]) (λr s'=>r=.ok (.ret<|.bool true)/\OldK l.heap s'.heap/\s'.os=l.os/\AllBare s'.gens) l:=by
 have rv:=Lz hi;have E:=hi.length;have S7:ns.length<=sizeLine:=oo hl (by lk);have i:∀{b:lU}{j:Array lV},tabs.lookup b=some j->l.heap.get? b=some (PySem.W.tabObj #[]):=λe=>TO.emp _<|BU e
 have core:∀H:Hp,SqL K H a (ns.map V.int)->ol P w H l.heap->(∀b u,H b=some u->(b=a/\K.lookup a=none/\∃o xs,u=.frz o (.lst xs))\/∃j,tabs.lookup b=some j/\u=.tbl j)->(∀p∈tabs,H p.1=some (.tbl p.2))->
   codeAny (model P w) callerA (.call (.ref fa) #[[.ref a],[]]) (λr s'=>r=.ok (.ret<|.bool true)/\OldK l.heap s'.heap/\s'.os=l.os/\AllBare s'.gens) l:=by
  intro H hS D hA hT;have M5:∀{b:lU}{o:Obj},l.heap.get? b=some o->H b=none->(vj l.heap H).get? b=some o:=λe n=>Zzr e n
  have C:∀{b:lU}{o:Obj},l.heap.get? b=some o->(∀vs n,o.data≠.seq vs n)->(∀vs,o.data≠.fields vs)->H b=none:=λ{b o} e d1 d2=>by
   cases q:H b with
   | none=>rfl
   | some u =>
    rcases hA b u q with⟨Q,_⟩|⟨j,Q,_⟩
    ·subst Q;rw[G]at e;cases e;show absurd rfl<|d1 _ _
    ·rw[i Q]at e;cases e;show absurd rfl<|d2 _
  have U:∀{b:lU}{m:lT->lX lV},l.heap.Ns b m->(vj l.heap H).Ns b m:=λ{b m} ⟨o,es,ep,e,d,r⟩=>#[o,es,ep,M5 e (C e (λ_ _ z=>by rw[d]at z;cases z) λ_ z=>by rw[d]at z;cases z),d,r]
  have B:K.In (vj l.heap H):=λb o e=>M5 (KX b o e) (by
   cases q:H b with
   | none=>rfl
   | some u =>
    rcases hA b u q with⟨Q,y,_⟩|⟨j,Q,_⟩
    ·subst Q;rw[y]at e;cases e
    ·have g:=KX b o e;rw[i Q]at g;cases g;have h2:=wE.mp TO.nt _<|PySem.W.mem_of_lookupK e;show absurd (show false=true from h2) oW)
  have hM:Mod K L (vj l.heap H):=#[B,U E6,#[mb,U Y,hbb],let⟨A,g,h2⟩:=I;#[A,U g,h2],by
   obtain⟨bm,ob,b1,b2,c,b4,b5,y⟩:=hbm;show#[bm,ob,b1,b2,M5 c (C c (λ_ _ z=>by rw[y]at z;cases z) λ_ z=>by rw[y]at z;cases z),b4,b5,y]]
  have e0:uS P w K L (vj l.heap H) callerA [] l H:=#[rfl,hM,λb o e=>Vh e,wm<|Sx _ _,trivial,λb Y=>absurd (show b∈([]:lS lU)from Y) (by simp),D,.of_eq hg]
  refine vn ((F _ B (U E6)<|hsm.imp λ_ z=>U z).run callerA [] l H #[[.ref a],[]] [.ref a] [.ref a] (λv _=>v=.bl true) E0 hr e0 (M l<|.ref a) (.cons rfl .nil) #[a,ns,rfl,hS,hl,hT,λ_=>rfl]) λr s' h=>?_
  cases r with
  | error e=>show False.elim h
  | ok fl =>
   cases fl with
   | next=>show False.elim h
   | brk=>show False.elim h
   | cont=>show False.elim h
   | ret u =>
    obtain⟨v,y,os,A,un,O2,r',q⟩:=h;have q':v=.bl true:=q;subst q';obtain rfl:u=Value.bool true:=r';refine#[rfl,#[λb o e=>?_,λb o e=>un.there b o e<|by simp],os,A];cases q:H b with
    | none=>show .inl (un.keep b o e q (by intro z;show absurd (show b∈([]:lS lU)from z)<|by simp)<|by simp)
    | some u =>
     rcases hA b u q with⟨_,_,ob,xs,z⟩|⟨j,z,z2⟩
     ·subst z;have z2:=un.frzs b ob _ q;obtain⟨y,_⟩:=D b _ q;obtain⟨c,_⟩:=O2 b _ z2;rw[e]at y;cases y;show .inl c
     ·subst z2;obtain⟨more,y⟩:=un.tbls b j q;have Q:=i z;rw[e]at Q;cases Q;obtain⟨c,hc⟩:=TO.cod _<|BU z;obtain⟨qs,y1,_⟩:=O2 b _ y;show .inr<|.inl #[((Eb KX hc).tab e).isCodeTable,rfl,#[],qs,rfl,by rw[y1];simp]
 have tabH:∀p∈tabs,p.1≠a:=λp J z=>by
  have:=TO.emp p J;rw[z,G]at this;cases this
 have N:∀{H:Hp}{b:lU}{j:Array lV},tabs.lookup b=some j->Yb P w H l.heap b (.tbl j):=λ{H b j} e=>by
  obtain⟨ls,hq,nd⟩:=TO.shape _<|BU e;have hq:j=Xk ls:=hq;subst hq;show#[_,i e,.inr #[ls,[],rfl,nd,rfl,λ_ z=>nomatch z]]
 cases hk:K.lookup a with
 | some o =>
  have e:=KX a o hk;rw[G]at e;cases e;refine core (λb=>(tabs.lookup b).map HO.tbl) (.inr #[_,vs.toArray,_,hk,rfl,rfl,rfl,by rw[oz,E];show S7,by simpa using rv]) (λb u z=>?_) (λb u z=>?_) λp J=>?_
  ·obtain⟨j,g,rfl⟩:=nW.mp z;show N g
  ·obtain⟨j,g,rfl⟩:=nW.mp z;show .inr #[j,g,rfl]
  ·change(tabs.lookup p.1).map HO.tbl=_;rw[Fa TO.nd J];rfl
 | none =>
  refine core (λb=>if b=a then some (.frz {cls:=.type "list",data:=.seq vs.toArray} (.lst<|ns.map V.int))else(tabs.lookup b).map HO.tbl) (.inl<|.inr #[{cls:=.type "list",data:=.seq vs.toArray},mY rfl]) (λb u z=>?_) (λb u z=>?_) λp J=>?_
  ·by_cases Y:b=a
   ·have y:=(mY Y).symm.trans z;cases y;subst Y;show#[G,by rw[mO];show S7,vs,_,rv,G]
   ·have y:=(mV Y).symm.trans z;obtain⟨j,g,rfl⟩:=nW.mp y;show N g
  ·by_cases Y:b=a
   ·have y:=(mY Y).symm.trans z;cases y;show .inl #[Y,hk,_,_,rfl]
   ·have y:=(mV Y).symm.trans z;obtain⟨j,g,rfl⟩:=nW.mp y;show .inr #[j,g,rfl]
  ·change(if p.1=a then _ else _)=_;rw[mV (tabH p J),Fa TO.nd J];rfl
def walk_ofS{l:PySem.W.OpenLaw}{k:Nat}{q:mh}{g:lS lT}{e:(lT->lX lV)->ma->Prop}{n:md->ma->Prop}{d:DefRec}{K:Params->lY}{x:lT}
  (c:l.most=some 63) (j:d.params.defaults=[]) (U:Y8 k callerA) (Q:∀(w:md)(h:ma),n w h->(K w.params).In h)
  (F:∀(w:md)(y:lT->lX lV)(p:lU)(h:ma),n w h->(K w.params).In h->h.Ns mainGlobals y->y d.name=some (.ref p)->
   ∃(fd:mj)(tabs:lS (lU×Array lV)),Cn (K w.params) h tabs/\(∀(s:lW)(u:lV),BindsTo s fd #[[u],[]] [(x,u)])/\
    ∀mG:ma,(K w.params).In mG->mG.Ns mainGlobals y->(∃N,mG.Ns sysModules N)->Y6 l.prog w (K w.params) y mG oP k p fd [x] (ze (K w.params) tabs)) (M:importsNone q=true) :
  PySem.W.WalkO q g e n l.row.toRowW d [] (λf vs=>PySem.call f vs):=by
 refine Att.attach_call c j λw D C y B p o A cd A2 a vs ns G Y ho hd E5 i r L J I=>?_
 have KX:=Q w _ Y;obtain⟨fd,tabs,TO,H,E⟩:=F w y p _ Y KX G.T.g i;show Zxt KX G.T.g G.T.b G.T.builtins G.T.nolimit G.T.bmain I r L J U TO ((G.T.seer M).mods.imp λ_ z=>z.1) E H
def Yba:V->lS V->Hp->VK->Prop:=λx z H Q=>∃(l:lU)(bs:lS Bool)(b:Bool)(j:Nat),x=.ref l/\z=[.bl b]/\H l=some (.lst<|bs.map V.bl)/\j<1000/\bs[j]? =some b/\(∀i,i<j->bs[i]? ≠some b)/\Q (.int (j:Nat)) H
def Zxc:zK X "list.index" Yba:=by
 intro J s z H x G v E Q I d a h;obtain⟨l,bs,b,j,rfl,rfl,Y,y,U,N,q⟩:=h;cases d;obtain⟨u,rfl,M⟩:=a.one;cases M;obtain⟨y,u,n,r,c,e⟩:=I.lstM Y;obtain rfl:=Fb r;obtain⟨L,p⟩:=pr.mp U;refine yj F.slot_list_index #[_,e,rfl] F.entry_list_index (F.args_list_index_2 _ _) (SeqAt.list_indexAt l _ n _ _ (.bool b) (Ac b) j (by simpa using L) (by lia) ?_ λm o i=>?_) #[e,λw g=>?_,#[.int _,H,I.tok _,#[_,rfl],q]]
 ·simp[Ac,p]
 ·have o:m<bs.length:=by simpa using o
  have:=N m i;rw[oE o]at this;simpa[Ac]using this
 ·have g:w∈bs.map Value.bool:=by simpa using g
  obtain⟨c,_,rfl⟩:=mZ.mp g;show Fu c b
def HS(P:mh)(w:md)(K:lY)(y:lT->lX lV)(mG:ma)(k:Nat)(f:lU)(H:Hp)(Q:VK)(E:XK):Prop :=
 ∀(A:mi)(z:lS Env)(s:lW),Y8 k A->uS P w K y mG A z s H->codeAny (model P w) A (.call (.ref f) #[[],[]]) (CR (nX P w) z P w H s Q E) s
def WZ(P:mh)(w:md)(K:lY)(u:lT->lX lV)(mG:ma)(k:Nat)(E:XK)(s:TE):TE:=λz H Q=>s z H λx y=>∃f,x=.ref f/\vV y f/\HS P w K u mG k f y Q E
def Yab(l:Y8 k X.A)(j:PE X (.Name x p) i)(g:sJ (nX X.prog X.w) X E):PE X (.Call (.Name x p) [] [] pos) (WZ X.prog X.w X.K X.mg X.mG k E i):=by
 intro o s z H Q I h;refine uZ<|ng (j o s z H _ I h) λu n d=>?_;obtain⟨y,c,q,a,f,Y,U,N⟩:=d;subst Y;obtain rfl:u=Value.ref f:=a;refine PySem.W.callWith_F0 (U.at q)<|uT<|vn (N X.A X.stack n l q.env0) λr M w=>?_;cases r with
 | error e=>show g o z c n e M q w
 | ok y =>
  cases y with
  | ret u=>show q.after w
  | next=>show False.elim w
  | brk=>show False.elim w
  | cont=>show False.elim w
def ZS(n:oi X.stack=X.ml.heap.objs.size ::oi X.mD)(G:X.env.locals=X.ml.heap.objs.size)(D:X.ex=[])(I:mK X c7 z r s1)
  (Y:qd B X.mD N cls C M .none h') (up:s1.heap.UpToSlots h') (L:∀b o,s1.heap.get? b=some o->((∃o',X.ml.heap.get? b=some o')\/r b≠none)->b∉oi X.stack->B.get? b=some o)
  (A:E cls M r):nX X.prog X.w X.mD X.mo X.ml E (.ref N) {s1 with heap:=h'}:=by
 have stay:∀b o,s1.heap.get? b=some o->((∃o',X.ml.heap.get? b=some o')\/r b≠none)->b∉oi X.stack->h'.get? b=some o:=λb o x w s=>Y.1 b o<|L b o x w s
 have d:∀b,((∃o',X.ml.heap.get? b=some o')\/r b≠none)->b∉oi X.mD->b∉oi X.stack:=λb x w s=>by
  rw[n]at s;rcases nV.mp s with e|e
  ·rcases x with⟨o',x⟩|x
   ·rw[e]at x;show absurd (nQ x)<|qT _
   ·rw[e,<-G]at x;show x I.free
  ·show w e
 have tQ:∀b,r b≠none->b∉oi X.mD:=λb x w=>x (I.stkFree b (by rw[n];show pe _ w))
 have g:∀b,b∈oi X.mD->∃o,s1.heap.get? b=some o/\∀vs,o.data≠.fields vs:=λb i=>(I.stack.mem (by change b∈oi X.stack;rw[n];show pe _ i)).2
 have q:Un (oi X.mD) [] X.mo r X.ml.heap s1.heap:=by have:=I.mG;rw[D]at this;show this
 refine#[N,cls,M,r,rfl,I.os,I.bare,#[λb o x w s l=>?_,λb o x w s l=>?_,q.free,λb o x l=>?_,q.tups,q.frzs,q.tbls],λa o J=>?_,#[C,B,Y,λb o x w s=>?_],A]
 ·show stay b o (q.keep b o x w s l) (.inl #[_,x])<|d b (.inl #[_,x]) s
 ·obtain⟨y,j⟩:=q.slot b o x w s l;obtain⟨p,c,h⟩:=g b s;rw[j]at c;cases c;obtain⟨H,U⟩:=up b _ j h;show#[H,U]
 ·obtain⟨p,j⟩:=q.there b o x l
  by_cases i:b∈oi X.mD
  ·obtain⟨y,c,h⟩:=g b i;obtain⟨H,U⟩:=up b _ c h;show#[_,U]
  ·show#[p,stay b p j (.inl #[_,x])<|d b (.inl #[_,x]) i]
 ·refine(I.hok a o J).stay (λb u i x=>?_) (λ_ y=>y) (λ_ _ y=>y);have Q:r b≠none:=by
   rcases i with e|e
   ·rw[e,J];show xE _
   ·rw[e];show xE _
  show stay b u x (.inr Q)<|d b (.inr Q)<|tQ b Q
 ·obtain⟨p,l⟩:∃p,s1.heap.get? b=some p:=by
   rcases w with⟨o',w⟩|w
   ·show q.there b o' w (by simp)
   ·cases y:r b with
    | none=>show absurd y w
    | some u=>show(I.hok b u y).there
  have j:=L b p l w<|d b w s;have h:h'.get? b=some o:=x;rw[Y.1 b p j]at h;cases h;show j
section
variable {P:mh} {w:md} {K:lY} {mg:lT->lX lV} {mG:ma}
def AJ(P:mh)(w:md)(K:lY)(mg:lT->lX lV)(mG:ma)(N:lS lT)(q:lT)(scope:Scope)(f:lU)(x:lV)(z:lS (lT×lU))(A:mi)(u:lS Env)(s:lW)(H:Hp)(E:XK):Cx :=
 {BH P w K mg mG N q scope f x z A u s H with xe:=λe r=>wpAny (model P w) (A.deeper<|PySem.W.envX q scope #v[s] f x z) (leaving (PySem.W.envX q scope #v[s] f x z) e) (λ_ y=>nX P w u H s E e y) (λp y=>nX P w u H s E p y) r}
def xZ :sJ (nX P w) (AJ P w K mg mG N q scope f l x A j s H E) E:=by
 intro L z J G e i I h;obtain⟨g,cls,o,Y,rfl,os,u,un,r,⟨U,B,d,c⟩,a⟩:=h;have n:=I.call' os un r u (λb y=>absurd y<|by simp);change wpAny _ _ (leaving _<|.ref g) _ _ i;refine MT n.ok.frames rfl d λD p up=>?_
 show ZS (X:=AJ P w K mg mG N q scope f l x A j s H E) rfl rfl rfl n p up (λb o Y U Q=>c b o Y (U.imp_left λ⟨M,y⟩=>I.mG.there b M y<|by change b∉([]:lS lU);simp) Q) a
def Ut(C:Clo H Pt D q la lb N r)(L:tM H N r fs fvs)
  (hb:∀(pm d6 B1:lV),bindArgs (PySem.W.kla_fn "<lambda>" q la lb N r pm d6 B1) #[[],[]]=pure []) (A4:∀y∈N.names,y.2=.free->y.1∈fs) (hnc:∀y∈N.names,y.2≠.cell)
  (hk:N.kind=.function) (hco:N.isCoroutine=false) (hgen:N.isGenerator=false)
  (body:∀(c:lU)(A:mi)(G:lS Env)(s:lW),Y8 k (A.deeper<|PySem.W.envX q N #v[s] D (.ref c) r)->
   WE (AJ P w K mg mG fs q N D (.ref c) r A G s (offL H r) (λcls dx l=>∀Y,mF l Y->(∀b∈r.map snd,Y b=H b)->E cls dx Y)) lb (fvs.map some) (offL H r) (λv l=>∀Y,mF l Y->(∀b∈r.map snd,Y b=H b)->Q v Y)):HS P w K mg mG (k+1) D H Q E:=by
 intro A G s hr g;obtain⟨pm,B1,c,oc,vs,tt,Pn,U,h2,h3,h4,h5,h6⟩:=C;have o1:s.heap.get? D=some (PySem.W.kla_obj "<lambda>" q la lb N r pm c B1):=(g.hok D _ U).1;have o2:s.heap.get? c=some oc:=(g.hok c _ h2).1;have lim:s.heap.NoLimit:=g.mod.nolimit.keeps λb o e=>(g.bs b o e).1
 refine ME hr.depth o1 rfl hco hgen rfl #[c,oc,vs,tt,rfl,o2,h3,h4] ?_;rw[hb];refine nI<|Dp hnc (λy hy=>nomatch hy) (λh₁ E6 hsb=>#[lim.fresh _ hsb,?_]) hk;change codeAny _ _ (.expr lb<|PySem.W.envX q N #v[s] D (.ref c) r) _ _;have my:∀b o,s.heap.get? b=some o->h₁.get? b=some o:=λb o e=>hsb.extBut b o (nU<|nQ e)<|nS _ e
 have B2:∀{x:lT}{a:lU},r.lookup x=some a->(x,a)∈r:=λh=>rH h
 have inC:∀{x:lT}{a:lU},r.lookup x=some a->a∈r.map snd:=λh=>mZ.mpr #[_,B2 h,rfl]
 have O1:∀{b:lU},b∈r.map snd->∃o u,H b=some (Fz o)/\o.data=.cell (some u):=λ{b} z=>by
  obtain⟨p,hp,e⟩:=mZ.mp z;obtain⟨v,o,u,j,z2,_⟩:=L.cell hp;show#[o,u,e ▸ j,z2]
 have offZ:∀{b:lU}{ob:Obj},H b=some (.frz ob<|.own Pt)->offL H r b=some (.frz ob<|.own Pt):=λ{b ob} z=>by
  rw[Wd]
  ·show z
  ·intro y;obtain⟨o3,u3,y1,_⟩:=O1 y;rw[z]at y1;cases y1
 have hok0:ol P w (offL H r) s.heap:=λb o e=>by
  have e':=LG b o e;refine(g.hok b o e').stay (λ_ _ _ z=>z) (λd z=>L.soft z trivial) (λd xs z=>L.soft z trivial) (λd ob z=>?_) (λd ps z=>L.soft z trivial);rw[Wd]
  ·show z
  ·intro y;obtain⟨o3,u3,y1,_⟩:=O1 y;rw[z]at y1;cases y1
 have C2:∀{b:lU},H b=none->offL H r b=none:=λ{b} n=>by
  by_cases z:b∈r.map snd
  ·show wo z
  ·rw[Wd z];show n
 have nA:∀b:lU,b∉([]:lS lU):=λb z=>nomatch z
 have I:mK (AJ P w K mg mG fs q N D (.ref c) r A G s (offL H r) (λcls dx l=>∀Y,mF l Y->(∀b∈r.map snd,Y b=H b)->E cls dx Y)) [] (fvs.map some) (offL H r) {s with heap:=h₁,toks:=s.toks+([]:lS (lT×lV)).length}:=by
  refine#[#[g.mod,hk,rfl,rfl,nH _,λy z a U h2=>?_,λy hy=>?_,λy a z _=>(oW z).elim,λ_=>hr.hd,GZ g.frames,.inr #[rfl,rfl],λb z=>absurd z<|nA b,λb o e=>#[(g.bs b o e).1,C2 (g.bs b o e).2],g.bsz,λb _ _=>nA b,λb z=>absurd z<|nA b,g.funs,λb z=>C2<|g.frf b z],
   rfl,g.bare,Un.kept my,#[_,E6,λi y v U h2 h3=>?_],λy a z=>?_,C2<|g.hok.fresh<|nH _,λy a z=>wo<|inC z,(λp hp=>nomatch hp),hok0.kept my,?_]
  ·show Ft L.apart (B2 U)<|B2 h2
  ·have hy:N.names.lookup y=some .cell\/N.names.lookup y=some .free:=hy;rcases hy with hy|hy
   ·show absurd rfl<|hnc _<|rH hy
   ·obtain⟨i,hi,e⟩:=wp<|A4 _ (rH hy) rfl;obtain⟨v,_,_,a,j,_⟩:=Paired.get L.cells (i:=i) (a:=y) (by rw[oE hi,e]);show#[a,j]
  ·have U:fs[i]? =some y:=U;have h2:(fvs.map some)[i]? =some (some v):=h2;rw[nR]at h2;obtain⟨v',h5,h6⟩:=nW.mp h2;cases h6;obtain⟨v2,z0,j,a,z2,o,uu,z3,z4,z5⟩:=Paired.get L.cells U;rw[h5]at z0;cases z0;show#[uu,z5,.inr #[.inr j,a,z2,o,my _ _ (g.hok a _ z3).1,z4]]
  ·obtain⟨o,uu,j,z2⟩:=O1<|inC z;show#[_,o,my _ _ (g.hok a _ j).1,z2]
  ·change(fvs.map some).length=fs.length;rw[mO,nJ L.cells]
 have there:∀{b:lU},b∈r.map snd->∃o,s.heap.get? b=some o:=λ{b} z=>by
  obtain⟨o,uu,j,_⟩:=O1 z;show#[_,(g.hok b _ j).1]
 have nofs:∀{b:lU},b∈r.map snd->b∉oi G:=λ{b} z y=>by
  obtain⟨o,uu,j,_⟩:=O1 z;rw[g.frf b y]at j;cases j
 have back:∀{l:Hp}{h':ma},Un (oi G) [] (offL H r) l s.heap h'->ol P w l h'->Un (oi G) [] H (W2 H l r) s.heap h'/\ol P w (W2 H l r) h'/\mF l (W2 H l r):=λ{l h'} M hok=>by
  have cellH:∀{b:lU},b∈r.map snd->l b=none:=λ{b} z=>by
   obtain⟨o,ho⟩:=there z;show M.free b o ho (wo z) (by simp)
  have nin:∀{b:lU}{o:HO},l b=some o->b∉r.map snd:=λ{b o} e z=>by rw[cellH z]at e;cases e
  have bk:∀{b:lU}{o:HO},l b=some o->W2 H l r b=some o:=λ{b o} e=>by unfold W2;rw[mV (nin e)];show e
  refine#[#[λb o U n hb _=>M.keep b o U (C2 n) hb (by simp),λb o U n hb _=>M.slot b o U (C2 n) hb (by simp),λb o U n _=>?_,λb o U _=>M.there b o U (by simp),λb xs e=>bk<|M.tups b xs<|L.soft e trivial,λb ob x e=>?_,λb ps e=>?_],λb o e=>?_,λb o e=>bk e]
  ·unfold W2;rw[mV λz=>by obtain⟨o,uu,j,_⟩:=O1 z;rw[n]at j;cases j];show M.free b o U (C2 n) (by simp)
  ·by_cases z:b∈r.map snd
   ·unfold W2;rw[mY z];show e
   ·show bk (M.frzs b ob x (by rw[Wd z];show e))
  ·obtain⟨m,z⟩:=M.tbls b ps<|L.soft e trivial;show#[m,bk z]
  ·by_cases z:b∈r.map snd
   ·unfold W2 at e;rw[mY z]at e;obtain⟨o3,uu,j,z2⟩:=O1 z;rw[e]at j;cases j;have z3:=(g.hok b _ e).1;have z4:=M.keep b o3 z3 (wo z) (nofs z) (by simp);show#[z4,z4,_,z4]
   ·have e':=e;unfold W2 at e';rw[mV z]at e';show(hok b o e').stay (λ_ _ _ y=>y) (λd y=>bk y) (λd xs y=>bk y) (λd ob y=>bk y) (λd ob y=>bk y)
 have FO:∀{l:Hp}{b:lU},b∈r.map snd->W2 H l r b=H b:=λ{l b} z=>by unfold W2;rw[mY z]
 have conv:∀{e:lV}{s':lW},nX P w G (offL H r) s (λcls dx l=>∀Y,mF l Y->(∀b∈r.map snd,Y b=H b)->E cls dx Y) e s'->nX P w G H s E e s':=λ{e s'} ⟨ea,cls,dx,l,e1,os,bare,M,hok,⟨a0,B,D,pB⟩,e2⟩=>by
  obtain⟨un,ok,sm⟩:=back M hok;refine#[ea,cls,dx,W2 H l r,e1,os,bare,un,ok,#[a0,B,D,λb o j z2 z3=>pB b o j ?_ z3],e2 _ sm λb z=>FO z]
  by_cases y:b∈r.map snd
  ·show .inl<|there y
  ·refine z2.imp_right λn=>?_
   unfold W2 at n;rw[mV y]at n;show n
 refine PJ<|pT ((body c A G s<|hr.deeper _).run [] _ I) (λv s' hs=>?_) λe s' hs=>pT hs (λ_ s'' z=>conv z) λe' s'' z=>conv z;obtain⟨v',l,J,M0,qq⟩:=hs;obtain⟨un,ok,sm⟩:=back (show Un (oi G) [] (offL H r) l s.heap s'.heap from J.mG) J.hok;show#[v',_,J.os,J.bare,un,ok,M0,qq _ sm λb z=>FO z]
end
end L2
end
section
namespace YM
open PySem L2 NM
def uP(c k:Int):Int:=((c+7919 * k) * 48271%2147483647) * ((c+7919 * k) * 48271%2147483647+2 * k+1)%2147483629
def Zzf(c k:Int):0<=uP c k:=pY _ (by lk)
def Vf(c k:Int):uP c k<2147483629:=qg _ (by lk)
def zJ(ns:lS Int)(k:Nat):Int:=match ns[k]? with
 | some c=>uP c k
 | none=>0
abbrev Zh:=lT×lT
def Yr(k:lT):lS lT:=if k ="points" then["stem","left","right"]else if k ="cross" then["a","b","c","d"]else if k ="plain" then["a","b"]else["a"]
def sF(i:Int):Nat:=qH.getD i.toNat 0
def sv(k:Nat):lT:=toString (k:Int)
def Yt(kind:lT)(c:Int)(k:Nat):lT:=if c%3=0 then#[(List.toArray [kind.cps.toList.getD 0 0])]++sv k else(#[(List.toArray [sF (c / 3%26)])]++#[(List.toArray [sF (c / 78%26)])])++rX "0" (c / 2028%3).toNat++sv k
def Dm:∀k,k<100->(sv k).length<=2:=by left
def FN{k:Nat}(h:k<100):(k:Int).natAbs.log2<1920:=by
 rw[Int.natAbs_natCast];refine EL (Nat.log2_le_self k) (by lia)
def uQ(a c:Nat):Nat:=if 48<=c/\c<=57 then a * 10+(c-48)else 0
def sW(s:lT):Nat:=s.cps.toList.foldl uQ 0
def FJ:∀k,k<100->sW (sv k)=k:=by left
def BC:∀k,k<100->0<(sv k).length:=by left
def Vk:∀m,m<3->(rX "0" m).cps.toList.foldl uQ 0=0:=by left
def Zyz:∀m,m<3->(rX "0" m).length=m:=by left
def Yb4:∀i,i<26->97<=qH.getD i 0/\qH.getD i 0<=122:=by left
def OM{i:Int}(z:0<=i)(y:i<26):97<=sF i/\sF i<=122:=Yb4 i.toNat (by lia)
def ul(x y:lT):(x++y).cps.toList=x.cps.toList++y.cps.toList:=wZ x y
def xu{kind:lT}{c:Int}{k:Nat}(y:57<kind.cps.toList.getD 0 0)(h:k<100):sW (Yt kind c k)=k:=by
 have z:∀a c,57<c->uQ a c=0:=λa c h=>by unfold uQ;rw[mV (by lia)]
 unfold Yt;split
 ·unfold sW;rw[ul,ym];change List.foldl uQ (uQ 0<|kind.cps.toList.getD 0 0) _=k;rw[z _ _ y];show FJ k h
 ·have u:=pY (c / 3) (show(26:Int)≠0 by lk);have s:=qg (c / 3) (show(0:Int)<26 by lk);have x:=pY (c / 78) (show(26:Int)≠0 by lk);have w:=qg (c / 78) (show(0:Int)<26 by lk);have r:=pY (c / 2028) (show(3:Int)≠0 by lk);have q:=qg (c / 2028) (show(0:Int)<3 by lk);unfold sW;rw[ul,ul,ul,ym,ym,ym];change List.foldl uQ (List.foldl uQ (uQ (uQ 0<|sF<|c / 3%26)<|sF<|c / 78%26) _) _=k;rw[z _ (sF<|c / 78%26) (by have:=OM x w;lia),Vk _<|by lia];show FJ k h
def yA{kind:lT}{c:Int}{k:Nat}(h:k<100):2<=(Yt kind c k).length:=by
 have:=BC k h;unfold Yt;split
 ·rw[pU];change 2<=1+_;lia
 ·rw[pU,pU,pU];change 2<=1+1+_+_;lia
def Zyk{kind:lT}{c:Int}{k:Nat}(h:k<100):(Yt kind c k).length<=6:=by
 have:=Dm k h;unfold Yt;split
 ·rw[pU];change 1+_<=6;lia
 ·have z:=pY (c / 2028) (show(3:Int)≠0 by lk);have y:=qg (c / 2028) (show(0:Int)<3 by lk);rw[pU,pU,pU,Zyz _<|by lia];change 1+1+_+_<=6;lia
def Yu(ps:lS Zh):lS Zh:=ps.flatMap λp=>(Yr p.1).map λe=>(p.2,e)
def Xp(z:lS (Zh×Zh)):lS Zh:=z.flatMap λj=>[j.1,j.2]
def Hl(a b:lS Zh):Yu (a++b)=Yu a++Yu b:=yQ ..
def At(a b:lS (Zh×Zh)):Xp (a++b)=Xp a++Xp b:=yQ ..
def qk:lS lT:=["plain","points","cross","gate","stop"]
structure Net(ps:List Zh)(js:List (Zh×Zh))(opn:List Zh):Prop where
 perm:(Xp js++opn).Perm (Yu ps)
 nd:(ps.map snd).Nodup
 apart:∀j∈js,j.1.1≠j.2.1
 kind:∀p∈ps,p.1∈qk
inductive qz(n1 n2 n3 n4:Str):List Zh->List (Zh×Zh)->Zh->Zh->Prop
 | plain (a b:Str) (h:(a,b)∈[(("a":Str),("b":Str)),("b","a")]):qz n1 n2 n3 n4 [("plain",n1)] [] (n1,a) (n1,b)
 | loop (a b:Str) (h:(a,b)∈[(("left":Str),("right":Str)),("right","left")]):qz n1 n2 n3 n4 [("points",n1),("plain",n2),("plain",n3),("points",n4)] [((n1,"left"),(n2,"a")),((n1,"right"),(n3,"a")),((n2,"b"),(n4,a)),((n4,b),(n3,"b"))] (n1,"stem") (n4,"stem")
 | siding (x a b k:Str) (h:[x,a,b].Perm ["stem","left","right"]) (hk:k∈[("stop":Str),"gate"]):qz n1 n2 n3 n4 [("points",n1),("plain",n2),(k,n3)] [((n1,x),(n2,"b")),((n2,"a"),(n3,"a"))] (n1,a) (n1,b)
 | cross (k:Str) (hk:k∈[("gate":Str),"stop"]):qz n1 n2 n3 n4 [("cross",n1),("gate",n2),(k,n3)] [((n1,"c"),(n2,"a")),((n3,"a"),(n1,"d"))] (n1,"a") (n1,"b")
def Bp{z:Type}{d:z}{l m:lS z}(y:lS Nat)(h:y.Perm (List.range m.length))(e:l=y.map λi=>m.getD i d):l.Perm m:=by
 have x:((List.range m.length).map λi=>m.getD i d)=m:=by
  apply List.ext_getElem
  ·simp
  ·intro i u w;simp[tI,w]
 rw[e];show(h.map _).trans (by rw[x])
def qz.sub{z y x w:lT}{ps:lS Zh}{u:lS (Zh×Zh)}{a b:Zh}(h:qz z y x w ps u a b):(ps.map snd).Sublist [z,y,x,w]:=by
 cases h with
 | plain=>show .cons_cons _ (DH _)
 | loop=>show List.Sublist.refl _
 | siding=>show .cons_cons _ (.cons_cons _<|.cons_cons _<|DH _)
 | cross=>show .cons_cons _<|.cons_cons _<|.cons_cons _<|DH _
def yz{k:lT}(z:k ="gate"\/k ="stop"):Yr k=[("a":lT)]:=by rcases z with rfl|rfl<;>decide +kernel
def Ph:Yr "points"=[("stem":lT),"left","right"]:=by left
def BJ:Yr "plain"=[("a":lT),"b"]:=by left
def Zud:Yr "cross"=[("a":lT),"b","c","d"]:=by left
def qz.perm{z y w s:lT}{ps:lS Zh}{q:lS (Zh×Zh)}{a b:Zh}(h:qz z y w s ps q a b):(Xp q++[a,b]).Perm (Yu ps):=by
 cases h with
 | plain a b h =>
  simp only[nV,uW,tH,zl]at h;rcases h with⟨rfl,rfl⟩|⟨rfl,rfl⟩
  ·simp[Xp,Yu,BJ]
  ·simp only[Xp,Yu,BJ,List.flatMap_nil,BM,oh,uB,GG,qj];show zC _ _ _
 | loop a b h =>
  have he:Yu [("points",z),("plain",y),("plain",w),("points",s)]=([(z,"stem"),(z,"left"),(z,"right"),(y,"a"),(y,"b"),(w,"a"),(w,"b"),(s,"stem"),(s,"left"),(s,"right")]:lS Zh):=by simp[Yu,Ph,BJ]
  rw[he];simp only[nV,uW,tH,zl]at h;rcases h with⟨rfl,rfl⟩|⟨rfl,rfl⟩
  ·show Bp (d:=(z,z)) [1,3,2,5,4,8,9,6,0,7] (show List.Perm _ (List.range 10) by lk) rfl
  ·show Bp (d:=(z,z)) [1,3,2,5,4,9,8,6,0,7] (show List.Perm _ (List.range 10) by lk) rfl
 | siding x a b k h r =>
  have u:k ="gate"\/k ="stop":=by
   simp only[nV,uW,tH]at r;show r.symm
  have he:Yu [("points",z),("plain",y),(k,w)]=([("stem":lT),"left","right"].map λe=>(z,e))++([(y,"a"),(y,"b"),(w,"a")]:lS Zh):=by simp[Yu,Ph,BJ,yz u]
  rw[he];refine DB ?_<|BB _<|h.map λe=>(z,e);show Bp (d:=(z,z)) [0,4,3,5,1,2] (show List.Perm _ (List.range 6) by lk) rfl
 | cross k r =>
  have u:k ="gate"\/k ="stop":=by
   simp only[nV,uW,tH]at r;show r
  have he:Yu [("cross",z),("gate",y),(k,w)]=([(z,"a"),(z,"b"),(z,"c"),(z,"d"),(y,"a"),(w,"a")]:lS Zh):=by simp[Yu,Zud,yz u,yz (k :="gate")<|.inl rfl]
  rw[he];show Bp (d:=(z,z)) [2,4,5,3,0,1] (show List.Perm _ (List.range 6) by lk) rfl
def qz.kind{w u s r:lT}{ps:lS Zh}{q:lS (Zh×Zh)}{a b:Zh}(h:qz w u s r ps q a b):∀p∈ps,p.1∈qk:=by
 cases h with
 | plain=>intro p z;simp at z;subst z;simp[qk]
 | loop=>intro p z;simp at z;rcases z with rfl|rfl|rfl|rfl<;>simp[qk]
 | siding x a b k h y=>intro p z;simp at z y;rcases z with rfl|rfl|rfl<;>rcases y with rfl|rfl<;>simp[qk]
 | cross k y=>intro p z;simp at z y;rcases z with rfl|rfl|rfl<;>rcases y with rfl|rfl<;>simp[qk]
def qz.apart{y w u s:lT}{ps:lS Zh}{r:lS (Zh×Zh)}{a b:Zh}(h:qz y w u s ps r a b)(q:[y,w,u,s].Nodup):∀j∈r,j.1.1≠j.2.1:=by
 simp only[pZ,nV,uW,tH,not_or,wN,not_false_eq_true,tX,and_true]at q;obtain⟨⟨x,o,n⟩,⟨x,o⟩,l⟩:=q;cases h with
 | plain=>intro j z;cases z
 | loop=>intro j z;simp at z;rcases z with rfl|rfl|rfl|rfl<;>first|assumption|show oY (by assumption)
 | siding x a b k h p=>intro j z;simp at z;rcases z with rfl|rfl<;>first|assumption|show oY (by assumption)
 | cross k p=>intro j z;simp at z;rcases z with rfl|rfl<;>first|assumption|show oY (by assumption)
def qz.opens{z y x w:lT}{ps:lS Zh}{u:lS (Zh×Zh)}{a b:Zh}(h:qz z y x w ps u a b):a.1∈ps.map snd/\b.1∈ps.map snd:=by
 cases h<;>simp
def AM{ps:lS Zh}{e:Zh}(h:e∈Yu ps):e.1∈ps.map snd:=by
 obtain⟨p,z,he⟩:=ui.mp h;obtain⟨x,_,rfl⟩:=mZ.mp he;show mZ.mpr #[p,z,rfl]
def Net.more{ps:lS Zh}{u:lS (Zh×Zh)}{e:Zh}{s r q o:lT}{qs:lS Zh}{w:lS (Zh×Zh)}{a b:Zh}(h:Net ps u [e])(B:qz s r q o qs w a b)(l:[s,r,q,o].Nodup)(new:∀n∈[s,r,q,o],n∉ps.map snd):Net (ps++qs) (u++w++[(e,a)]) [b]:=by
 have he:e.1∈ps.map snd:=AM (h.perm.subset<|by simp);have i:a.1∉ps.map snd:=new _<|B.sub.subset B.opens.1;refine#[?_,?_,?_,?_]
 ·rw[At,At,Hl];refine DB ?_<|h.perm.append B.perm;change(Xp u++Xp w++[e,a]++[b]).Perm ((Xp u++[e])++(Xp w++[a,b]));rw[pC,pC,pC];refine BN _ ?_;change(Xp w++([e]++[a,b])).Perm ([e]++(Xp w++[a,b]));rw[<-pC,<-pC];show BB _ wF
 ·rw[nw,qG];show#[h.nd,List.Pairwise.sublist B.sub l,λx p y j z=>new y (B.sub.subset j)<|z ▸ p]
 ·intro j x;rw[oA,oA]at x;rcases x with(z|z)|z
  ·show h.apart j z
  ·show B.apart l j z
  ·simp at z;subst z;show λy=>i<|y ▸ he
 ·intro p x;rcases oA.mp x with z|z
  ·show h.kind p z
  ·show B.kind p z
def wu(s:lT)(n:Nat):Prop:=∃z c k,(96<z.cps.toList.getD 0 0/\z.cps.toList.getD 0 0<123)/\k<n/\s=Yt z c k
def qz.len{y x w u:lT}{ps:lS Zh}{z:lS (Zh×Zh)}{a b:Zh}(h:qz y x w u ps z a b):ps.length<=4/\z.length<=4:=by
 cases h<;>simp
structure vz(i:Nat)(ps:List Zh)(js:List (Zh×Zh))(Q8:Zh):Prop where
 net:Net ps js [Q8]
 pl:ps.length<=1+4 * i
 jl:js.length<=5 * i
 nm:∀p∈ps,p=((("gate":Str),("g":Str)):Zh)\/wu p.2 (4 * i)
def vz.start:vz 0 [("gate","g")] [] ("g","a"):=by
 refine#[#[?_,by simp,by simp,by simp[qk]],by simp,by simp,by simp];simp[Xp,Yu,yz (k :="gate")<|.inl rfl]
def Mj{x s:lT}(y:x.length=1)(h:2<=s.length):s≠x:=λz=>by rw[z]at h;lia
def vz.more{i:Nat}{ps:lS Zh}{N:lS (Zh×Zh)}{M:Zh}{k1 k2 k3 s:lT}{r q o l:Int}{qs:lS Zh}{L:lS (Zh×Zh)}{a b:Zh}(h:vz i ps N M)(hi:i<20)
  (J:96<k1.cps.toList.getD 0 0/\k1.cps.toList.getD 0 0<123) (I:96<k2.cps.toList.getD 0 0/\k2.cps.toList.getD 0 0<123) (H:96<k3.cps.toList.getD 0 0/\k3.cps.toList.getD 0 0<123) (G:96<s.cps.toList.getD 0 0/\s.cps.toList.getD 0 0<123)
  (B:qz (Yt k1 r<|4 * i) (Yt k2 q<|4 * i+1) (Yt k3 o<|4 * i+2) (Yt s l<|4 * i+3) qs L a b):vz (i+1) (ps++qs) (N++L++[(M,a)]) b:=by
 have j:=xu (c:=r) (rj (by lk) J.1) (show 4 * i<100 by lia);have g:=xu (c:=q) (rj (by lk) I.1) (show 4 * i+1<100 by lia);have d:=xu (c:=o) (rj (by lk) H.1) (show 4 * i+2<100 by lia);have Y:=xu (c:=l) (rj (by lk) G.1) (show 4 * i+3<100 by lia);have w:∀{x y:lT}{m n:Nat},sW x=m->sW y=n->m≠n->x≠y:=λD C u z=>u (by rw[<-D,<-C,z])
 have A:[Yt k1 r (4 * i),Yt k2 q<|4 * i+1,Yt k3 o<|4 * i+2,Yt s l<|4 * i+3].Nodup:=by
  simp[w j g (by lia),w j d (by lia),w j Y (by lia),w g d (by lia),w g Y (by lia),w d Y<|by lia]
 have all:∀n∈[Yt k1 r (4 * i),Yt k2 q<|4 * i+1,Yt k3 o<|4 * i+2,Yt s l<|4 * i+3],4 * i<=sW n/\2<=n.length/\wu n (4 * (i+1)):=by
  intro n u;simp only[nV,uW,tH]at u;rcases u with rfl|rfl|rfl|rfl
  ·show#[by lia,yA (by lia),_,_,_,J,by lia,rfl]
  ·show#[by lia,yA (by lia),_,_,_,I,by lia,rfl]
  ·show#[by lia,yA (by lia),_,_,_,H,by lia,rfl]
  ·show#[by lia,yA (by lia),_,_,_,G,by lia,rfl]
 refine#[h.net.more B A λn u hm=>?_,?_,?_,?_]
 ·obtain⟨p,U,rfl⟩:=mZ.mp hm;obtain⟨a1,a2,_⟩:=all _ u;rcases h.nm p U with z|⟨E,c,k,Q,d9,e⟩
  ·show Mj (x :="g") (by left) a2 (by rw[z])
  ·rw[e,xu (rj (by lk) Q.1)<|by lia]at a1;lia
 ·have:=B.len.1;have:=h.pl;rw[oj];lia
 ·have:=B.len.2;have:=h.jl;rw[oj,oj];change _+_+1<=_;lia
 ·intro p U;rcases oA.mp U with z|z
  ·rcases h.nm p z with y|⟨E,c,k,Q,d9,e⟩
   ·show .inl y
   ·show .inr #[E,c,k,Q,by lia,e]
  ·show .inr (all _<|B.sub.subset<|mZ.mpr #[p,z,rfl]).2.2
def vz.done{i:Nat}{ps:lS Zh}{u:lS (Zh×Zh)}{w:Zh}(h:vz i ps u w)(g:i<20):Net (ps++[(("gate":lT),("h":lT))]) (u++[(w,(("h":lT),("a":lT)))]) []:=by
 have r:("h":lT)∉ps.map snd:=λz=>by
  obtain⟨p,s,e⟩:=mZ.mp z;rcases h.nm p s with y|⟨n,c,k,x,q,y⟩
  ·rw[y]at e;show absurd e (by left)
  ·show Mj (x :="h") (by left) (yA (kind:=n) (c:=c) (k:=k)<|by lia) (by rw[<-y];show e)
 have l:w.1∈ps.map snd:=AM (h.net.perm.subset<|by simp);refine#[?_,?_,?_,?_]
 ·rw[At,Hl,qj];have he:Yu [("gate","h")]=([("h","a")]:lS Zh):=by simp[Yu,yz (k :="gate")<|.inl rfl]
  rw[he];change(Xp u++([w]++[(("h":lT),("a":lT))])).Perm _;rw[<-pC];show BB _ h.net.perm
 ·rw[nw,qG];show#[h.net.nd,by simp,λx q y o z=>by simp at o;rw[z,o]at q;show r q]
 ·intro j x;rcases oA.mp x with z|z
  ·show h.net.apart j z
  ·simp at z;subst z;show λy=>r (by have y:w.1=("h":lT):=y;rw[<-y];show l)
 ·intro p s;rcases oA.mp s with z|z
  ·show h.net.kind p z
  ·simp at z;subst z;simp[qk]
def W7(j:Nat):lT :="e"++sv j
def wO(Zt:lS Zh)(i:Nat)(y:lS Zh)(x:lS (Zh×Zh)):Prop:=∃z:lS lT,z.length=i/\(∀k∈z,k ="gate"\/k ="stop")/\y=(List.range i).map (λj=>(z.getD j "gate",W7 j))/\x=(List.range i).map (λj=>(Zt.getD j ("",""),(W7 j,("a":lT))))
def wO.more{Zt:lS Zh}{i:Nat}{w:lS Zh}{u:lS (Zh×Zh)}{k:lT}{q:Zh}(h:wO Zt i w u)(p:k ="gate"\/k ="stop")(o:Zt[i]? =some q):wO Zt (i+1) (w++[(k,W7 i)]) (u++[(q,(W7 i,("a":lT)))]):=by
 obtain⟨s,r,y,rfl,rfl⟩:=h;refine#[s++[k],by rw[oj,r];rfl,?_,?_,?_]
 ·intro x n;rcases oA.mp n with z|z
  ·show y x z
  ·simp at z;rw[z];show p
 ·rw[Bu,nw];congr 1
  ·refine zy λj z=>?_
   have z:=AT.mp z;rw[tI,tI,DZ<|by lia]
  ·change[(k,W7 i)]=[((s++[k]).getD i "gate",W7 i)];rw[tI,CZ (by lia),r,Nat.sub_self]
   rfl
 ·rw[Bu,nw];congr 1;change[(q,(W7 i,("a":lT)))]=[(Zt.getD i ("",""),(W7 i,("a":lT)))];rw[tI,o]
  rfl
def Zym(k:lT):(Yr k).Nodup:=by
 unfold Yr;split
 ·decide +kernel
 ·split
  ·decide +kernel
  ·split<;>decide +kernel
theorem yF:∀{ps:lS Zh},(ps.map snd).Nodup->(Yu ps).Nodup
 | [],_=>tX
 | p ::ps,h=>by
  rw[oh,pZ]at h;rw[show Yu (p ::ps)=((Yr p.1).map λe=>(p.2,e))++Yu ps from BM ..,qG];refine#[?_,yF h.2,?_]
  ·refine Eh _ (λa b z y=>z ?_)<|Zym p.1;show(Prod.mk.inj y).2
  ·intro x u y w z;obtain⟨e,_,rfl⟩:=mZ.mp u;rw[<-z]at w;show h.1<|AM w
def Net.ond{ps:lS Zh}{z:lS (Zh×Zh)}{o:lS Zh}(h:Net ps z o):o.Nodup:=by
 have:=(h.perm.nodup_iff).mpr (yF h.nd);show(qG.mp this).2.1
def Net.add{ps:lS Zh}{w:lS (Zh×Zh)}{o:lS Zh}{k n:lT}(h:Net ps w o)(r:n∉ps.map snd)(q:k∈qk):Net (ps++[(k,n)]) w (o++(Yr k).map λe=>(n,e)):=by
 refine#[?_,?_,h.apart,?_]
 ·rw[Hl,<-pC];have:Yu [(k,n)]=(Yr k).map λe=>(n,e):=by simp[Yu]
  rw[this];show BB _ h.perm
 ·rw[nw,qG];show#[h.nd,by simp,λx u y s z=>by simp at s;rw[z,s]at u;show r u]
 ·intro p y;rcases oA.mp y with z|z
  ·show h.kind p z
  ·simp at z;rw[z];show q
def Net.join{ps:lS Zh}{y:lS (Zh×Zh)}{o o':lS Zh}{a b:Zh}(h:Net ps y o)(x:(a ::b ::o').Perm o)(w:a.1≠b.1):Net ps (y++[(a,b)]) o':=by
 refine#[?_,h.nd,?_,h.kind]
 ·rw[At];refine DB ?_ h.perm;change(Xp y++[a,b]++o').Perm _;rw[pC];show BN _ x
 ·intro j u;rcases oA.mp u with z|z
  ·show h.apart j z
  ·simp at z;rw[z];show w
theorem GL{z:Type}:∀{l:lS z}{i:Nat}{a:z},l[i]? =some a->(a ::l.eraseIdx i).Perm l
 | [],_,_,h=>by cases h
 | x ::l,0,a,h=>by cases h;show qi _
 | x ::l,i+1,a,h=>by
  rw[Bs];show(zC x a _).trans ((GL (l:=l) h).cons x)
def Zz6{z:Type}{l m:lS z}{i j:Nat}{a b:z}(y:l[i]? =some a)(x:m[j]? =some b):(a ::b ::(l.eraseIdx i++m.eraseIdx j)).Perm (l++m):=by
 refine DB ?_<|(GL y).append (GL x);change List.Perm _ (a ::(l.eraseIdx i++(b ::m.eraseIdx j)));show(List.perm_middle.symm).cons a
def WD{l:lS Zh}{a:Zh}(w:l.Nodup)(s:a∈l):(a ::l.filter λe=>decide<|e≠a).Perm l:=by
 induction l with
 | nil=>cases s
 | cons x l r =>
  rw[pZ]at w
  by_cases z:x=a
  ·subst z;rw[rS,mV<|by simp];have:(l.filter λe=>decide<|e≠x)=l:=List.filter_eq_self.mpr λe he=>nZ λy=>w.1<|y ▸ he
   rw[this]
  ·rw[rS,mY<|nZ z];have u:a∈l:=by
    rcases nV.mp s with y|y
    ·show absurd y.symm z
    ·show y
   show(zC x a _).trans ((r w.2 u).cons x)
def Vq{r:Zh}{l:lS Zh}{a:Zh}(z:(r ::l).Nodup)(y:a∈l):(a ::r ::l.filter λe=>decide<|e≠a).Perm (r ::l) :=
 (zC r a _).trans ((WD (pZ.mp z).2 y).cons r)
def Jw{j:Nat}(h:j<100):sW (W7 j)=j:=by
 unfold W7 sW;rw[ul,ym];show FJ j h
def Vw:∀k,k<100->(sv k).cps.toList.getD 0 0<=57:=by left
def Zys{kd:lT}{c:Int}{k j:Nat}(w:j<100)(u:kd.cps.toList.getD 0 0≠101):Yt kd c k≠W7 j:=by
 intro z;have y:=oN (λs:lT=>s.cps.toList) z;have he:(W7 j).cps.toList=101 ::(sv j).cps.toList:=by unfold W7;rw[ul];rfl
 simp only[he]at y;unfold Yt at y;split at y
 ·rw[ul]at y;show u (ED y).1
 ·rw[ul,ul,ul]at y;have s:=pY (c / 78) (show(26:Int)≠0 by lk);have r:=qg (c / 78) (show(0:Int)<26 by lk);have p:=OM s r;have q:=(ED y).2;have x:=Vw j w;rw[<-q]at x;have:sF (c / 78%26)<=57:=x;lia
def Net.closed{ps:lS Zh}{x:lS (Zh×Zh)}{Zt s:lS Zh}{r:lS (Zh×Zh)}(h:Net ps x Zt)(d:wO Zt Zt.length s r)(M:Zt.length<=90)(c:∀j,j<90->W7 j∉ps.map snd):Net (ps++s) (x++r) []:=by
 obtain⟨y,z,w,rfl,rfl⟩:=d;have Y:∀n,n<=Zt.length->Net (ps++(List.range n).map λj=>(y.getD j "gate",W7 j)) (x++(List.range n).map λj=>(Zt.getD j ("",""),(W7 j,("a":lT)))) (Zt.drop n):=by
  intro n
  induction n with
  | zero=>intro _;simpa using h
  | succ n U =>
   intro L;have q:=U (by lia);have p:n<Zt.length:=by lia
   have o:y.getD n "gate"="gate"\/y.getD n "gate"="stop":=w _ (by
    rw[tI,oE<|by lia];show Eo _)
   have l:W7 n∉(ps++(List.range n).map λj=>(y.getD j "gate",W7 j)).map snd:=by
    rw[nw,oA];rintro(z|z)
    ·show c n (by lia) z
    ·rw[oO]at z;obtain⟨j,i,e⟩:=mZ.mp z;have i:=AT.mp i;have:=oN sW e;rw[Jw (by lia)]at this;have u:sW (W7 j)=n:=this;rw[Jw (by lia)]at u;lia
   have g:=q.add l (k:=y.getD n "gate") (by rcases o with z|z<;>rw[z]<;>simp[qk]);rw[yz o]at g;have hd:Zt.drop n=Zt.getD n ("","") ::Zt.drop (n+1):=by
    rw[zg p,tI,oE p]
    rfl
   have Q:(Zt.getD n ("","")).1≠W7 n:=by
    have:Zt.getD n ("","")∈Zt.drop n:=by rw[hd];simp
    have N:=AM<|q.perm.subset<|qm _ this;show λz=>l<|z ▸ N
   have u:=g.join (a:=Zt.getD n ("","")) (b:=(W7 n,"a")) (o':=Zt.drop<|n+1) (by
    rw[hd];change List.Perm _ (Zt.getD n ("","") ::(Zt.drop (n+1)++[(W7 n,("a":lT))]));show(List.perm_append_singleton _ _).symm.cons _) Q
   rw[Bu,nw,nw,<-pC,<-pC];show u
 have:=Y Zt.length<|nH _;rwa[Ip]at this
end YM
end
section
namespace YM
open PySem L2 NM
def BA:∀k∈qk,57<k.cps.toList.getD 0 0/\k.cps.toList.getD 0 0≠101/\0<k.length/\k.length<=6/\(Yr k).length<=4/\0<(Yr k).length:=by left
def Hj(s:lT)(n:Nat):Prop:=∃z∈qk,∃(c:Int)(k:Nat),k<n/\s=Yt z c k
structure Xs(i m:Nat)(ps:List Zh)(js:List (Zh×Zh))(Zt:List Zh):Prop where
 net:Net ps js Zt
 sum:ps.length+Zt.length<=39
 jl:js.length<=m
 nm:∀p∈ps,Hj p.2 i
def Xs.start:Xs 0 0 [] [] []:=#[#[qi _,tX,by simp,by simp],by simp,by simp,by simp]
def Xs.mono{i m z y:Nat}{ps:lS Zh}{x:lS (Zh×Zh)}{Zt:lS Zh}(h:Xs i m ps x Zt)(o:i<=z)(w:m<=y):Xs z y ps x Zt :=
 #[h.net,h.sum,oo h.jl w,λp u=>let⟨s,r,c,k,n,q⟩:=h.nm p u;#[s,r,c,k,by lia,q]]
def Xs.new{i m:Nat}{ps:lS Zh}{y:lS (Zh×Zh)}{Zt:lS Zh}{kd:lT}{c:Int}(h:Xs i m ps y Zt)(x:i<100)(w:kd∈qk):Yt kd c i∉ps.map snd:=λz=>by
 obtain⟨p,u,e⟩:=mZ.mp z;obtain⟨s,r,o,k,n,q⟩:=h.nm p u;have:=oN sW<|e.symm.trans q;rw[xu (BA _ w).1 x,xu (BA _ r).1 (by lia)]at this;lia
def Xs.add{i m:Nat}{ps:lS Zh}{x:lS (Zh×Zh)}{Zt:lS Zh}{kd:lT}{c:Int}(h:Xs i m ps x Zt)(w:i<100)(y:kd∈qk)(s:ps.length+Zt.length+(Yr kd).length<=38):Xs (i+1) m (ps++[(kd,Yt kd c i)]) x (Zt++(Yr kd).map λe=>(Yt kd c i,e)):=by
 refine#[h.net.add (h.new w y) y,?_,h.jl,?_]
 ·rw[oj,oj,mO];change _+1+_<=39;lia
 ·intro p u;rcases oA.mp u with z|z
  ·show(h.mono (sQ i)<|nH m).nm p z
  ·simp at z;rw[z];show#[kd,y,c,i,by lia,rfl]
def Xs.join(h:Xs i m ps y o)(z:(a ::b ::o').Perm o)(x:a.1≠b.1):Xs i (m+1) ps (y++[(a,b)]) o':=by
 refine#[h.net.join z x,?_,?_,h.nm]
 ·have:=h.sum;have w:=z.length_eq;simp at w;lia
 ·rw[oj];show CW h.jl
def Xs.done{i m:Nat}{ps:lS Zh}{y:lS (Zh×Zh)}{Zt x:lS Zh}{w:lS (Zh×Zh)}(h:Xs i m ps y Zt)(n:i<=100)(u:wO Zt Zt.length x w):Net (ps++x) (y++w) []:=by
 have l:=h.sum;refine h.net.closed u (by lia) λj g z=>?_
 obtain⟨p,s,e⟩:=mZ.mp z;obtain⟨r,q,d,k,c,o⟩:=h.nm p s;show Zys (by lia) (BA _ q).2.1 (o.symm.trans e)
theorem OT{z y:Type}{R:z->y->Prop}:∀{l:lS z}{m:lS y},Paired R l m->∀i,Paired R (l.eraseIdx i) (m.eraseIdx i)
 | _,_,.nil,_=>.nil
 | _,_,.cons r t,0=>t
 | _,_,.cons r t,i+1=>.cons r<|OT t i
theorem Mf{z y:Type}(f:z->y):∀(l:lS z)(i:Nat),(l.map f).eraseIdx i=(l.eraseIdx i).map f
 | [],_=>rfl
 | _ ::_,0=>rfl
 | x ::l,i+1=>by rw[oh,Bs,Bs,oh,Mf f l i]
end YM
end
section
namespace L2
open PySem PySem.Spec PyProof.Rows
section
variable {X:Cx} {a b:me} {ta tb:TE} {p pos:Pos}
def pI(z:X.mg "len"=none)(y:PE X a ta)(x:Gl X "len":=by rfl)(h:zN a=true:=by rfl):PE X (.Call (.Name "len" p) [a] [] pos) (yN (Qa X.K)<|tR ta vQ):=Yc Yhy x z Er (Zb y Za h) (by lk) (by lk) (zG h) rfl
def rf(n:String){u:lT}{q:Pos}(y:X.mg "isinstance"=none)(x:X.mg u=none)(w:bootBuiltins u=some (.type n))(s:PE X a ta)(r:Gl X "isinstance":=by rfl)(h:zN a=true:=by rfl)(z:Gl X u:=by rfl)(o:u≠ "__name__":=by lk)(l:(u ==("__debug__":lT))=false:=by lk):PE X (.Call (.Name "isinstance" p) [a,.Name u q] [] pos) (yN (yW X.K)<|tR ta<|tR (tC<|.ty n) vQ):=Yc Cf r y rR (Zb s (Zb (Pu (v:=.ty n) z x w rfl o l) Za) h) (by lk) (by lk) (zG h) (by rw[zG rfl];rfl)
def vA{k:Nat}(z:Y8 k X.A)(y:PE X a ta)(x:PE X b tb):PE X (.Compare a [.Eq] [b] pos) (qK (Ax X.K) ta tb):=yZ (CV z) y x<|Yq _
def W0{k:Nat}(z:Y8 k X.A)(y:PE X a ta)(x:PE X b tb):PT X (.Compare a [.Eq] [b] pos) (xD<|qK (Ax X.K) ta tb):=Ye (CV z) y x<|Yq _
def Vy{k:Nat}(z:Y8 k X.A)(y:PE X a ta)(x:PE X b tb):PE X (.Compare a [.NotEq] [b] pos) (qK (uj X.K) ta tb):=yZ (wC z) y x<|Yq _
def qU{k:Nat}(z:Y8 k X.A)(y:PE X a ta)(x:PE X b tb):PT X (.Compare a [.NotEq] [b] pos) (xD<|qK (uj X.K) ta tb):=Ye (wC z) y x<|Yq _
def HK{k:Nat}(z:Y8 k X.A)(y:PE X a ta)(x:PE X b tb)(w:behindInMarks .In b=false:=by with_unfolding_all rfl):PE X (.Compare a [.In] [b] pos) (qK (Dk X.K) ta tb):=yZ (Gn z) y x w
def vq{k:Nat}(z:Y8 k X.A)(y:PE X a ta)(x:PE X b tb)(w:behindInMarks .In b=false:=by with_unfolding_all rfl):PT X (.Compare a [.In] [b] pos) (xD<|qK (Dk X.K) ta tb):=Ye (Gn z) y x w
def rK{k:Nat}(z:Y8 k X.A)(y:PE X a ta)(x:PE X b tb)(w:behindInMarks .NotIn b=false:=by with_unfolding_all rfl):PT X (.Compare a [.NotIn] [b] pos) (xD<|qK (FS X.K) ta tb):=Ye (Lc z) y x w
def nq(z:PE X a ta)(y:PE X b tb)(x:Ez b:=by show λ_ _=>rfl):PE X (.Subscript a b pos) (qK (yt X.K) ta tb):=Oi Kn z y x
def rB{q:Pos}(y:PE X a ta)(w:PE X b tb)(h:zN b=true:=by rfl)(u:attributeBase a "append" X.env (eval a X.env)=eval a X.env:=by rfl)
  (z:((backTo pos<|starEach [b] X.env).all (λx=>!x.1) && (backToKw pos<|keywordEach [] X.env).all (λx=>x.1.isSome)
   && decide ([b].length+([]:lS Keyword).length+(if([]:lS Keyword).isEmpty then 0 else 1)<30))=true:=by rfl)
  (s:(q.endLine ==pos.line)=true:=by rfl):PE X (.Call (.Attribute a "append" q) [b] [] pos) (Kx X.K "list" Ll ta<|tR tb vQ):=AD yO PR PySem.F.type_list_append FT y (Zb w Za h) u z s (zG h) rfl
end
def ph{X:Cx}{scope:Scope}{s:lS (lT×lU)}{r:lS lT}(n:Nat)(w:lS Nat)(u:closureFor scope X.env=pure s)(kind:scope.kind=.function:=by rfl)(cell:∀y∈scope.names,y.2≠.cell:=by left)
  (names:∀y∈scope.names,y.2=.local->scope.names.lookup y.1=some .local:=by left) (q:uL (λp=>X.env.cells.lookup p.1=some p.2) s:=by repeat first|show trivial|refine#[rfl,?_])
  (o:(scope.names.all λy=>y.2 !=.free || ((s.lookup y.1).isSome && (X.env.kindOf y.1 ==some .cell || X.env.kindOf y.1 ==some .free)))=true:=by rfl)
  (l:r.length=n+w.length:=by rfl) (i:uL (λp:Nat×Nat=>∃x,r[n+p.1]? =some x/\X.N[p.2]? =some x/\scope.names.lookup x=some .free) ((List.range w.length).zip w):=by repeat first|show trivial|refine#[#[_,rfl,rfl,rfl],?_]) :
  Wh X scope s r (λz=>List.replicate n none++w.map λj=>(z[j]?).join):=Wh.std n w kind cell names u q o l i
def AE:lS lT->Bool
 | []=>true
 | x ::l=>!l.contains x && AE l
theorem LQ:∀{l:lS lT},AE l=true->l.Nodup
 | [],_=>tX
 | x ::l,h=>by
  rw[AE,qv,Bool.not_eq_true']at h;show pZ.mpr #[λz=>(by rw[ON.mpr z]at h;cases h.1),LQ h.2]
def oK{X:Cx}{pos:Pos}(i:Nat){x:lT}(z:AE X.N=true:=by kernel_rfl)(y:X.N[i]? =some x:=by rfl)(w:vd X.env.scope x:=by show yG<|lookup_relabel_local rfl)(u:X.fn x=true\/X.env.scope.names.lookup x=some .local:=by show yy<|lookup_relabel_local rfl):PG X (.Name x pos) (qX i):=Hw (LQ z) y w u
def nk{X:Cx}(i:Nat){ps:lS lT}{x:lT}{e:me}{z:TE}{pos y:Pos}(S:Zx X.N ps X.env.scope)(he:PE X e z)(w:X.N[i]? =some x:=by rfl)(u:vd X.env.scope x:=by first|show yG rfl|show yy rfl)(s:swapsWith e (some<|.Name x y) pos.line X.env=pure false:=by rfl)(r:X.fn x=true\/X.env.scope.names.lookup x=some .local:=by first|show .inl rfl|show .inr rfl|assumption):PS X (.Assign [.Name x y] e pos) (zL z<|qX i):=Ud S.nd w u he s r
def oq{X:Cx}(i:Nat){ps:lS lT}{x:lT}{pos:Pos}(S:Zx X.N ps X.env.scope)(z:X.N[i]? =some x:=by rfl)(y:vd X.env.scope x:=by first|show yG rfl|show yy rfl)(w:X.fn x=true\/X.env.scope.names.lookup x=some .local:=by first|show .inl rfl|show .inr rfl|assumption):PG X (.Name x pos) (qX i):=Hw S.nd z y w
def pH{X:Cx}{q u r:me}{p:lS me}{scope:Scope}{pos:Pos}{y:lS (lT×lU)}(w:lS lT){fr:St->St}{o:TI}{g:TG}{n:TT}{l:TE}
  (S:Wh X scope y w fr) (j:PI X u r o) (i:∀{s H C z},PG (Y1 X scope y w s H C z) u g) (h:∀{s H C z},PF (Y1 X scope y w s H C z) p n)
  (he:∀{s H C z},PE (Y1 X scope y w s H C z) q l) (e:X.calm=true:=by rfl) (d:∀x,foldedSetIterable r X.env x=pure x:=by intro _;rfl):PE X (.ListComp q [#[u,r,p,0]] scope pos) (Br o fr g n l):=Ycr e S j (λ_ _ _ _=>i) (λ_ _ _ _=>h) (λ_ _ _ _=>he) d
def Ap{X:Cx}(i:Nat){ps:lS lT}{y:lT}{j z:Pos}{o u r:me}{n:lS me}{scope:Scope}{pos:Pos}{q:lS (lT×lU)}(p:lS lT){fr:St->St}{h:TI}{g:TG}{e:TT}{d:TE}
  (F:Zx X.N ps X.env.scope) (S:Wh X scope q p fr) (c:PI X u r h) (a:∀{s H C w},PG (Y1 X scope q p s H C w) u g) (Y:∀{s H C w},PF (Y1 X scope q p s H C w) n e)
  (he:∀{s H C w},PE (Y1 X scope q p s H C w) o d) (U:X.N[i]? =some y:=by rfl) (Q:vd X.env.scope y:=by show yG rfl) (N:X.calm=true:=by rfl) (M:∀x,foldedSetIterable r X.env x=pure x:=by intro _;rfl)
  (l:swapsWith (.ListComp o [#[u,r,n,0]] scope pos) (some<|.Name y j) z.line X.env=pure true:=by rfl) (L:X.fn y=true\/X.env.scope.names.lookup y=some .local:=by first|show .inl rfl|show .inr rfl|assumption) :
  PS X (.Assign [.Name y j] (.ListComp o [#[u,r,n,0]] scope pos) z) (zL (Br h fr g e d)<|qX i):=Ue F.nd U Q N S c (λ_ _ _ _=>a) (λ_ _ _ _=>Y) (λ_ _ _ _=>he) M l L
abbrev Dn.O{K:lY}{x q:lT}{st:lZ}{ps:lS lT}(d:Dn K x q st ps)(P:mh)(w:md)(mg:lT->lX lV)(mG:ma)(k:Nat)(sp:Sp):Prop:=Y6 P w K mg mG oP k d.f d.fd ps sp
abbrev xM.O{K:lY}{x q:lT}{st:lZ}{ps:lS lT}{v:V}(d:xM K x q st ps v)(P:mh)(w:md)(mg:lT->lX lV)(mG:ma)(k:Nat)(sp:Sp):Prop:=Y6 P w K mg mG oP k d.f d.fd ps sp
def RN{z:Type}{us:lS z}(h:us.length=5):∃a b c d e,us=[a,b,c,d,e]:=by
 rcases us with _|⟨a,_|⟨b,_|⟨c,_|⟨d,_|⟨e,_|_⟩⟩⟩⟩⟩<;>first|show#[_,_,_,_,_,rfl]|cases h
abbrev kB(K:lY)(a b:lU)(v:Bool):Prop:=kitOne K (.ref a) (.ref b)=some v
abbrev ue(ps:lS lT)(st:lZ):Prop:=Zx ps ps<|Zk st
abbrev cB(K:lY)(a:lU):Prop:=findIn K (.ref a) "__class__"=some (some<|.builtin "object.__class__")
abbrev OE(K:lY)(mg:lT->lX lV)(x:lT)(a:lU):Prop:=BW K mg x a [.type "ValueError",.type "Exception",.type "BaseException",.type "object"] "ValueError.__new__"
structure DG(K:Frag)(mg:Str->Option Value)(x:Str)(st:Stmt)(ps:List Str) extends Dn K x x st ps where
 m:mg x=some (.ref f)
def Zv{X:Cx}{x:lT}{st:lZ}{ps:lS lT}{d:DG X.K X.mg x st ps}{y:Sp}{j k:Nat}{e:me}{z:lS me}{t:TA}{p pos:Pos}(F:Y6 X.prog X.w X.K X.mg X.mG oP k d.f d.fd ps y)(w:Y8 j X.A)(u:PA X (e ::z) t)(s:Gl X x:=by rfl)(r:k<=j:=by lk)(q:(x ==("__debug__":lT))=false:=by lk)(he:starEach (e ::z) X.env=(false,eval e X.env) ::starEach z X.env:=by rfl)(o:(backTo pos<|starEach z X.env).any (·.1)=false:=by rfl):PE X (.Call (.Name x p) (e ::z) [] pos) (Nq y [] E0 t):=Xv F (w.mono r) s d.m d.F.kp d.b .nil Z0 u q he o
end L2
end
section
namespace L2
abbrev IF:=Nat->St->Hp->Prop
abbrev IC:=St->Hp->Prop
end L2
namespace HT
open PySem PyProof.Rows
section
open PySem.SeqAt
variable {prog:mh} {w:md} {A:mi} {E:lV->lW->Prop} {s:lW}
def cat_tup{t b:lU}{vs z:lS lV}{Q:lV->lW->Prop}(c:IsTup s.heap t vs.toArray)(a:IsTup s.heap b z.toArray)(o:vs≠[])
  (Y:z=[]->Q (.ref t) s) (U:z≠[]->Q (.ref #v[s]) {s with heap:=s.heap.push {cls:=.type "tuple",data:=.seq (vs++z).toArray}})
  (hsz:vs.length+z.length<=sizeLine):wpAny (model prog w) A (binaryOp .Add (.ref t)<|.ref b) Q E s:=by
 obtain⟨⟨cls,l,data,j⟩,r,i,n,hd⟩:=id c;obtain⟨⟨h,y,data2,x⟩,q,g,d,u⟩:=id a;simp only at i hd g u;subst i hd g u;have e:vs.toArray++z.toArray=(vs++z).toArray:=by simp
 by_cases p:z=[]
 ·show concat_meets #[_,r,rfl] #[_,q,rfl] noFill_tuple_add seq_tuple_add Lq KI (NP _ _)
   (tuple_addW1 t b vs.toArray z.toArray n d l y j x (by simpa using o)<|by simp[p]) #[r,q,Y p]
 ·refine concat_meets #[_,r,rfl] #[_,q,rfl] noFill_tuple_add seq_tuple_add Lq KI (NP _ _)
   (tuple_addW2 t b vs.toArray z.toArray n d l y j x (by simpa using o) (by simpa using p) (by rw[oz,oz];show hsz)) #[r,q,?_]
  rw[e];show U p
end
end HT
namespace L2
open PySem PyProof.Rows
section
variable {prog:mh} {w:md} {A:mi} {E:lV->lW->Prop} {s:lW} {o:Array Keyed} {kd:SortKind} {p:Array (Nat×Nat×Nat)} {st:SortSt}
structure Ps(kd:SortKind)(o:Array Keyed)(p:Array (Nat×Nat×Nat))(st:SortSt):Prop where
 perm:(arrOf st).Perm o
 kind:kindOf st=kd
 good:failedOf st=none
 pend:pendingOf st=p
theorem Ps.many(h:Ps kd o p st):(arrOf st).size=o.size:=h.perm.size_eq
theorem Ps.to(h:Ps kd o p st){xs:Array Keyed}(q:xs.Perm (arrOf st)):Ps kd o p (setArr st xs):=#[q.trans h.perm,h.kind,h.good,h.pend]
theorem Ps.mem(h:Ps kd o p st){x:Keyed}(z:x∈arrOf st):x∈o:=h.perm.mem_iff.mp z
theorem Xq{z:Array Keyed}{i:Nat}{Q:Keyed->SortSt->Prop}(y:i<z.size)(q:Q z[i] st):wpS (model prog w) A E s (elem' z i) Q st:=by
 rw[elem'_eq,Ib z i y];show nK q
theorem oH{z:Type}{c:Prop}[Decidable c]{x y:StateT SortSt Sem z}{R:z->SortSt->Prop}(r:c->wpS (model prog w) A E s x R st)(q:¬c->wpS (model prog w) A E s y R st):wpS (model prog w) A E s (if c then x else y) R st:=by
 by_cases u:c
 ·rw[mY u];show r u
 ·rw[mV u];show q u
theorem Ep{z:Type}{m n:StateT SortSt Sem z}{Q:z->SortSt->Prop}(C:SortSt->Prop)(a:(∀y:SortSt,C y->wpS (model prog w) A E s m Q y)->wpS (model prog w) A E s n Q st)(b:∀y:SortSt,C y->wpS (model prog w) A E s m Q y):wpS (model prog w) A E s n Q st:=a b
theorem Gy{z y:Type}{m:y->StateT SortSt Sem z}{Q:z->SortSt->Prop}{n:StateT SortSt Sem z}(C:y->SortSt->Prop)(a:(∀x u,C x u->wpS (model prog w) A E s (m x) Q u)->wpS (model prog w) A E s n Q st)(b:∀x u,C x u->wpS (model prog w) A E s (m x) Q u):wpS (model prog w) A E s n Q st:=a b
theorem CM{z y u:Type}{m:y->u->StateT SortSt Sem z}{Q:z->SortSt->Prop}{n:StateT SortSt Sem z}(C:y->u->SortSt->Prop)(a:(∀x r q,C x r q->wpS (model prog w) A E s (m x r) Q q)->wpS (model prog w) A E s n Q st)(b:∀x r q,C x r q->wpS (model prog w) A E s (m x r) Q q):wpS (model prog w) A E s n Q st:=a b
def Vt:Nat->StateT SortSt Sem Unit:=sortPriv% PySem.Builtin.setMinGallop
def Gs(st z:SortSt):Prop:=kindOf z=kindOf st/\arrOf z=arrOf st/\pendingOf z=pendingOf st/\failedOf z=failedOf st
theorem BI{g:Nat}{Q:Unit->SortSt->Prop}{z:SortSt}(h:Gs z st)(q:∀y,Gs z y->Q () y):wpS (model prog w) A E s (Vt g) Q st:=Be<|q _ #[h.1,h.2.1,h.2.2.1,h.2.2.2]
variable (L:yB prog w A s kd o)
include L
theorem zZ{x y:Keyed}{Q:lX Bool->SortSt->Prop}(z:kindOf st=kd)(u:x∈o)(r:y∈o)(q:∀b,Q (some b) st):wpS (model prog w) A E s (lt' x y) Q st:=by
 rw[lt'_eq];refine nG<|uU ?_;rw[z];show nG<|xC<|wpAny_attempt<|L x u y r _ _ λb=>#[rfl,nK<|q b]
theorem Ba{i j:Nat}{Q:lX Bool->SortSt->Prop}(h:Ps kd o p st)(z:i<o.size)(y:j<o.size)(q:∀b,Q (some b) st):wpS (model prog w) A E s (ltAt' i j) Q st:=by
 rw[ltAt'_eq];refine nG<|uU<|nG<|Xq (by rw[h.many];show z)<|nG<|Xq (by rw[h.many];show y) ?_;show zZ L h.kind (h.mem<|sH _) (h.mem<|sH _) q
theorem Zxf{lo m:Nat}{Q:lX Nat->SortSt->Prop}(h:Ps kd o p st)(g:1<=m)(H:lo+m<=o.size)(q:∀n x,Ps kd o p x->1<=n->n<=m->Q (some n) x):wpS (model prog w) A E s (countRun' lo m) Q st:=by
 have up:∀(a:Nat)(st:SortSt)(R:lX (lX Nat)×Nat->SortSt->Prop),1<=a->a<=m->Ps kd o p st->(∀n,a<=n->n<=m->R (none,n) st)->
   wpS (model prog w) A E s (forIn [a:m] ((none,a):lX (lX Nat)×Nat) λ_ z=>do
    let l <-ltAt' (lo+z.snd) (lo+z.snd-1)
    match l with
    | some smaller=>if smaller=true then pure (ForInStep.done (none,z.snd))else pure (ForInStep.yield (none,z.snd+1))
    | _=>pure<|ForInStep.done (some none,z.snd)) R st:=λa st R g d h q=>by
  refine rP (I:=λn c x=>x=st/\c=(none,n)) ?_ ?_ #[rfl,rfl]
  ·rintro n c x r j ⟨rfl,rfl⟩;refine nG<|Ba L h (by lia) (by lia) λb=>?_;cases b with
   | true=>show nK (q n r<|by lia)
   | false=>show nK #[rfl,rfl]
  ·rintro c x ⟨rfl,rfl⟩;show q _ (by lia) (by lia)
 rw[countRun'_eq];refine nG<|up 1 st _ (nH _) g h λn Y U=>?_;dsimp only
 by_cases N:n=m
 ·rw[mY (by simpa using N)];show nK<|q n st h Y U
 rw[mV (by simpa using N)];apply Ep (Ps kd o p)
 case a =>
  intro Zt
  by_cases z:n >1
  ·rw[mY z];refine nG<|Ba L h (by lia) (by lia) λb=>?_;cases b with
   | true=>show nK (q n st h Y U)
   | false=>show nG<|wpS_reverse<|Zt _<|h.to<|mirror_perm _ _ _ _
  ·rw[mV z];show Zt st h
 intro x d;refine nG<|xC<|uN #[rfl,?_];refine nG<|sy (rP (I:=λi c u=>Ps kd o p u/\∃e,c=(none,i,e)) (Q:=λc u=>Ps kd o p u/\∃i e,c=(none,i,e)/\n+1<=i/\i<=m) ?_ ?_ #[d,0,rfl]) ?_
 ·rintro i c u r j ⟨y,e,rfl⟩;dsimp only;refine nG<|Ba L y (by lia) (by lia) λb=>?_;cases b with
  | true =>
   change wpS _ _ _ _ (if e >0 then _ else _) _ _
   by_cases he:e >0
   ·rw[mY he];show nG<|wpS_reverse<|nK #[y.to<|mirror_perm _ _ _ _,0,rfl]
   ·rw[mV he];show nK #[y,0,rfl]
  | false =>
   refine nG<|Ba L y (by lia) (by lia) λb=>?_;cases b with
   | true=>show nK #[y,i,e,rfl,r,by lia]
   | false=>show nK #[y,e+1,rfl]
 ·rintro c u ⟨y,e,rfl⟩;show#[y,_,e,rfl,by lia,by lia]
 ·rintro c u ⟨y,i,e,rfl,r,j⟩;dsimp only;apply Ep (Ps kd o p)
  case a =>
   intro Zt
   by_cases he:e >0
   ·rw[mY he];show nG<|wpS_reverse<|Zt _<|y.to<|mirror_perm _ _ _ _
   ·rw[mV he];show Zt u y
  intro z M;refine nG<|wpS_reverse ?_;have l:=M.to<|mirror_perm (arrOf z) lo (lo+i)<|(lo+i-lo) / 2;show nG<|up i _ _ (by lia) j l λk G J=>nK<|q k _ l (by lia) J
theorem WT{lo n r:Nat}{Q:Bool->SortSt->Prop}(h:Ps kd o p st)(d:lo+n<=o.size)(q:∀j,Ps kd o p j->Q true j):wpS (model prog w) A E s (binarySort' lo n r) Q st:=by
 rw[binarySort'_eq];refine nG<|sy (rP (I:=λ_ c j=>c=(none,())/\Ps kd o p j) (Q:=λc j=>c=(none,())/\Ps kd o p j) ?_ (λ_ _ z=>z) #[rfl,h]) ?_
 ·rintro x c j a Y ⟨rfl,g⟩;refine nG<|sy (rP (I:=λ_ c i=>i=j/\∃l u,c=(none,l,u)/\u<=x) (Q:=λc i=>i=j/\∃l u,c=(none,l,u)/\u<=x) ?_ (λ_ _ z=>z) #[rfl,0,x,rfl,nH _]) ?_
  ·rintro y c i _ _ ⟨rfl,l,u,rfl,e⟩;dsimp only
   by_cases z:l ≥ u
   ·rw[mY z];show nK #[rfl,l,u,rfl,e]
   ·rw[mV z];refine nG<|Ba L g (by lia) (by lia) λb=>?_;cases b with
    | true=>show nK #[rfl,l,(l+u) / 2,rfl,by lia]
    | false=>show nK #[rfl,(l+u) / 2+1,u,rfl,e]
  ·rintro c i ⟨rfl,l,u,rfl,e⟩;change wpS _ _ _ _ (do moveDown' (lo+x) (lo+l);pure (ForInStep.yield (none,()))) _ _;rw[moveDown'_eq];show nG<|Be<|nK #[rfl,g.to<|bubble_perm _ _ _]
 ·rintro c j ⟨rfl,g⟩;show nK<|q j g
def Yck:Bool->Keyed->Array Keyed->Nat->Nat->Nat->StateT SortSt Sem (lX Nat):=sortPriv% PySem.Builtin.gallop
def Yae:Array Keyed->Array Keyed->StateT SortSt Sem (Array Keyed):=sortPriv% PySem.Builtin.mergeLo
def UH:Array Keyed->Array Keyed->StateT SortSt Sem (Array Keyed):=sortPriv% PySem.Builtin.mergeHi
theorem xK{left:Bool}{key:Keyed}{U:Array Keyed}{mG n h:Nat}{Q:lX Nat->SortSt->Prop}(J:kindOf st=kd)(H:key∈o)(B:∀x∈U,x∈o)(hb:mG+n<=U.size)(hh:h<n)(q:∀k,k<=n->Q (some k) st) :
  wpS (model prog w) A E s (Yck left key U mG n h) Q st:=by
 have j:∀(i:Nat)(R:lX Bool->SortSt->Prop),i<n->(∀b,R (some b) st)->wpS (model prog w) A E s (do
   let x <-elem' U (mG+i)
   if left=true then lt' x key else do
    let y <-lt' key x
    pure (Option.map (λx=>!x) y)) R st:=λi R hi r=>by
  have D:mG+i<U.size:=by lia
  refine nG<|Xq D ?_;have C:=B _<|sH D;cases left with
  | true=>show zZ L J C H r
  | false=>show nG<|zZ L J H C λb=>nK<|r _
 refine nG<|j h _ hh λb=>?_;have on:∀{f:Nat->lX (lX Nat)×Nat×Nat->StateT SortSt Sem (ForInStep<|lX (lX Nat)×Nat×Nat)}{R:lX (lX Nat)×Nat×Nat->SortSt->Prop}(G:Nat->Prop){l u:Nat},G u->
   (∀i l u (a:ForInStep (lX (lX Nat)×Nat×Nat)->SortSt->Prop),G u->(∀l u,G u->a (.done (none,l,u)) st/\a (.yield (none,l,u)) st)->wpS (model prog w) A E s (f i (none,l,u)) a st)->(∀l u,G u->R (none,l,u) st)->wpS (model prog w) A E s (forIn [:n] (none,l,u) f) R st:=λ{f R} G {l u} g hf r =>
  sy (rP (I:=λ_ c N=>N=st/\∃l u,c=(none,l,u)/\G u) (Q:=λc N=>N=st/\∃l u,c=(none,l,u)/\G u) (λi c N _ _ ⟨e,l,u,M,Y⟩=>by subst e M;show hf i l u _ Y λl u Y=>#[#[rfl,l,u,rfl,Y],#[rfl,l,u,rfl,Y]]) (λ_ _ z=>z) #[rfl,l,u,rfl,g]) λc N ⟨e,l,u,M,Y⟩=>by subst e M;show r l u Y
 have go:∀{c:Prop} [Decidable c] {x y:StateT SortSt Sem (ForInStep<|lX (lX Nat)×Nat×Nat)} {R:ForInStep (lX (lX Nat)×Nat×Nat)->SortSt->Prop},(c->wpS (model prog w) A E s x R st)->(¬c->wpS (model prog w) A E s y R st)->wpS (model prog w) A E s (if c then x else y) R st:=λ{c _ x y R} h1 h2=>by
  by_cases z:c
  ·rw[mY z];show h1 z
  ·rw[mV z];show h2 z
 cases b with
 | true =>
  refine nG<|on (λ_=>True) trivial (λi l u a _ r=>go (λ_=>nK (r l u trivial).1) λ(z:¬u ≥ n-h)=>nG<|j (h+u) _ (by lia) λb=>?_) λl u _=>?_
  ·cases b with
   | true=>show nK (r _ _ trivial).2
   | false=>show nK (r _ _ trivial).1
  ·refine nG<|on (λu=>u<=n) (show h+min u (n-h)<=n by lia) (λi l u a d r=>go (λ_=>nK (r l u d).1) λ(z:¬l ≥ u)=>nG<|j (l+(u-l) / 2) _ (by lia) λb=>?_) λl u d=>nK<|q u d;cases b with
   | true=>show nK (r _ _ d).2
   | false=>show nK (r _ _ (show l+(u-l) / 2<=n by lia)).2
 | false =>
  refine nG<|on (λ_=>True) trivial (λi l u a _ r=>go (λ_=>nK (r l u trivial).1) λ(z:¬u ≥ h+1)=>nG<|j (h-u) _ (by lia) λb=>?_) λl u _=>?_
  ·cases b with
   | true=>show nK (r _ _ trivial).1
   | false=>show nK (r _ _ trivial).2
  ·refine nG<|on (λu=>u<=n) (show h-l<=n by lia) (λi l u a d r=>go (λ_=>nK (r l u d).1) λ(z:¬l ≥ u)=>nG<|j (l+(u-l) / 2) _ (by lia) λb=>?_) λl u d=>nK<|q u d;cases b with
   | true=>show nK (r _ _ d).2
   | false=>show nK (r _ _ (show l+(u-l) / 2<=n by lia)).2
omit L
def Mg(a b:Array Keyed)(out:Array Keyed)(x y:lS Keyed):Prop:=(out.toList++(x++y)).Perm (a.toList++b.toList)
variable {a b out:Array Keyed} {x y z:lS Keyed} {v:Keyed}
omit L in
theorem Mg.one(h:Mg a b out (v ::x) y):Mg a b (out.push v) x y:=by
 unfold Mg at h ⊢;rw[Ie,pC];show h
omit L in
theorem Mg.two(h:Mg a b out x (v ::y)):Mg a b (out.push v) x y:=by
 unfold Mg at h ⊢;rw[Ie,pC];show(BN _ (List.perm_middle (l₁:=x)).symm).trans h
theorem Mg.ones(h:Mg a b out (z++x) y){t:Array Keyed}(e:t.toList.Perm z):Mg a b (out++t) x y:=by
 unfold Mg at h ⊢;rw[uD,pC,<-pC t.toList];show(((e.append_right x).append_right y).append_left _).trans h
theorem Mg.twos(h:Mg a b out x (z++y)){t:Array Keyed}(e:t.toList.Perm z):Mg a b (out++t) x y:=by
 unfold Mg at h ⊢;rw[uD,pC];refine(BN _ ?_).trans h;rw[<-pC,<-pC];show((e.append_right x).trans wF).append_right y
theorem Mg.swap(h:Mg a b out x y):(out.toList++(y++x)).Perm (a.toList++b.toList):=(wF.append_left _).trans h
theorem zT{u:Array Keyed}{i:Nat}(h:i<u.size):u.toList.drop i=u[i] ::u.toList.drop (i+1):=by
 rw[zg (by simpa using h)];simp
theorem Kj{u:Array Keyed}{i k:Nat}:u.toList.drop i=(u.extract i<|i+k).toList++u.toList.drop (i+k):=by
 rw[xh,wY,show i+k-i=k by lia,<-List.drop_drop,xf]
theorem DL{u:Array Keyed}{i:Nat}:(u.extract i u.size).toList=u.toList.drop i:=by
 rw[xh,wY,tF<|by simp]
theorem Mg.perm{u r:lS Keyed}(h:Mg a b out x y)(q:u.Perm x)(n:r.Perm y):Mg a b out u r:=((q.append n).append_left _).trans h
theorem AY{u:Array Keyed}{i:Nat}(r:1<=i)(h:i<=u.size):(u.toList.take i).Perm (u[i-1] ::u.toList.take (i-1)):=by
 have e:u.toList.take i=u.toList.take (i-1)++[u[i-1]]:=by
  have:=ou (l:=u.toList) (i:=i-1);rw[show i-1+1=i by lia,wj,Ib u (i-1)<|by lia]at this;show this
 rw[e];show wF
theorem Qy{u:Array Keyed}{i n:Nat}(h:i<=n):(u.toList.take n).Perm ((u.extract i n).reverse.toList++u.toList.take i):=by
 have e:u.toList.take n=u.toList.take i++(u.extract i n).toList:=by
  have:=DV (l:=u.toList) (i:=i) (j:=n-i);rw[show i+(n-i)=n by lia]at this;rw[this,xh,wY]
 rw[e,Iu];show wF.trans<|(DN _).symm.append_right _
theorem Db{u:Array Keyed}{i:Nat}:(u.extract 0 i).toList=u.toList.take i:=by
 rw[xh,wY]
 rfl
section
variable {C D F:Type} {pd:Array Keyed->Nat->Nat->Prop} {fd:Array Keyed->Nat->Nat->D->C} {ls:lS Keyed} {fu:Array Keyed->F->C} {G G1 G2:C->SortSt->Prop}
def tP(st:SortSt)(pd:Array Keyed->Nat->Nat->Prop)(fd:Array Keyed->Nat->Nat->D->C)(c:C)(u:SortSt):Prop:=Gs st u/\∃o i j d,c=fd o i j d/\pd o i j
def wL(st:SortSt)(ls:lS Keyed)(fu:Array Keyed->F->C)(c:C)(u:SortSt):Prop:=Gs st u/\∃r d,c=fu r d/\r.toList.Perm ls
theorem sj(h:∀o i j d u,Gs st u->pd o i j->G (fd o i j d) u)(c:C)(u:SortSt)(z:tP st pd fd c u):G c u:=by
 obtain⟨r,o,i,j,d,rfl,q⟩:=z;show h o i j d u r q
theorem zk(h:∀r d u,Gs st u->r.toList.Perm ls->G (fu r d) u)(c:C)(u:SortSt)(z:wL st ls fu c u):G c u:=by
 obtain⟨q,r,d,rfl,n⟩:=z;show h r d u q n
theorem Cs(r:∀c u,G1 c u->G c u)(q:∀c u,G2 c u->G c u)(c:C)(u:SortSt)(z:G1 c u\/G2 c u):G c u:=z.elim (r c u)<|q c u
end
def AZ(a b:Array Keyed)(n:Nat)(out:Array Keyed)(i j:Nat):Prop:=Mg a b out (a.toList.drop i) (b.toList.drop j)/\i+1<a.size/\j<b.size/\n<i+j
def Ai(a b:Array Keyed)(n:Nat)(out:Array Keyed)(i j:Nat):Prop:=Mg a b out (a.toList.take i) (b.toList.take j)/\1<=i/\i<=a.size/\2<=j/\j<=b.size/\n+i+j<a.size+b.size
include L
theorem YN{Q:Array Keyed->SortSt->Prop}(hk:kindOf st=kd)(ha:∀x∈a,x∈o)(hb:∀x∈b,x∈o)(a1:1<=a.size)(b1:1<=b.size)(q:∀(r:Array Keyed) e,Gs st e->r.toList.Perm (a.toList++b.toList)->Q r e):wpS (model prog w) A E s (Yae a b) Q st:=by
 have h:Gs st st:=#[rfl,rfl,rfl,rfl]
 refine nG<|xC<|uN #[rfl,?_];refine nG<|Xq (show 0<b.size by lia) ?_;have m0:Mg a b (List.toArray [b[0]]) (a.toList.drop 0) (b.toList.drop 1):=by
  have:Mg a b #[] (a.toList.drop 0) (b.toList.drop 0):=qi _;rw[zT (show 0<b.size by lia)]at this;show this.two
 have F0:∀{out:Array Keyed}{i j:Nat},Mg a b out (a.toList.drop i) (b.toList.drop j)->(out++a.extract i a.size++b.extract j b.size).toList.Perm (a.toList++b.toList):=λz=>by
  rw[uD,uD,DL,DL,pC];show z
 have M6:∀{out:Array Keyed}{i j:Nat},Mg a b out (a.toList.drop i) (b.toList.drop j)->(out++b.extract j b.size++a.extract i a.size).toList.Perm (a.toList++b.toList):=λz=>by
  rw[uD,uD,DL,DL,pC];show z.swap
 refine oH (λ_=>nK<|q _ _ h<|F0 m0) λe1=>oH (λ_=>nK<|q _ _ h<|M6 m0) λe2=>?_
 have e1:¬1=b.size:=by simpa using e1
 have e2:¬1=a.size:=by simpa using e2
 refine nG<|uU ?_;refine nG (sy (rP
  (I:=λk=>tP st (AZ a b k) λo i j d=>(none,o,i,j,d))
  (Q:=wL st (a.toList++b.toList) λr d=>(some r,d)) ?_ ?_ #[h,_,_,_,_,rfl,m0,by lia,by lia,by lia]) ?_)
 rotate_left
 ·show sj λo i j d N M u=>absurd u.2.2.2 (by have:=u.2.1;have:=u.2.2.1;lia)
 ·show zk λr d N M hr=>nK<|q r N M hr
 intro k c e _ k2;revert c e;refine sj λout i j d e M u=>?_
 refine nG (sy (rP
  (I:=λk'=>tP st (AZ a b<|k+k') λo i j d=>(none,o,i,j,d))
  (Q:=λc N=>wL st (a.toList++b.toList) (λr d=>(some r,d)) c N\/tP st (AZ a b<|k+1) (λo i j d=>(none,o,i,j,d)) c N) ?_ ?_ #[M,_,_,_,_,rfl,u]) ?_)
 ·clear u M;intro k' c Y _ k3;revert c Y;refine sj λout i j d Y n u=>?_
  have m:=u.1;have C:=u.2.1;have l:=u.2.2.1;have B:=u.2.2.2;dsimp only;refine nG<|Xq l<|nG<|Xq (show i<a.size by lia)<|nG<|zZ L (n.1.trans hk) (hb _<|sH _) (ha _<|sH _) λc=>?_;cases c with
  | true =>
   refine nG<|Xq l ?_;rw[zT l]at m;refine oH (λ_=>nK<|.inl #[n,_,_,rfl,F0 m.two]) λ(z:¬(j+1 ==b.size)=true)=>?_
   have z:¬j+1=b.size:=by simpa using z
   show oH (λ_=>nK<|.inr #[n,_,_,_,_,rfl,m.two,C,by lia,by lia]) λ_=>nK #[n,_,_,_,_,rfl,m.two,C,by lia,by lia]
  | false =>
   refine nG<|Xq (show i<a.size by lia) ?_;rw[zT (show i<a.size by lia)]at m;refine oH (λ_=>nK<|.inl #[n,_,_,rfl,M6 m.one]) λ(z:¬(i+1+1 ==a.size)=true)=>?_
   have z:¬i+1+1=a.size:=by simpa using z
   show oH (λ_=>nK<|.inr #[n,_,_,_,_,rfl,m.one,by lia,l,by lia]) λ_=>nK #[n,_,_,_,_,rfl,m.one,by lia,l,by lia]
 ·show sj λo i j d N M u=>.inr #[M,_,_,_,_,rfl,u.1,u.2.1,u.2.2.1,by have:=u.2.2.2;lia]
 clear u M;refine Cs (zk λr d Y n hr=>nK #[n,r,_,rfl,hr])<|sj λout i j d Y n u=>?_;refine nG<|xC<|uN #[rfl,?_];refine nG (sy (rP
  (I:=λk'=>tP st (AZ a b<|k+1) λo i j d=>(none,o,i,j,d))
  (Q:=λc N=>wL st (a.toList++b.toList) (λr d=>(some r,d)) c N\/tP st (AZ a b<|k+1) (λo i j d=>(none,o,i,j,d)) c N) ?_ (λ_ _=>.inr) #[n,_,_,_,_,rfl,u]) ?_)
 ·clear u n;intro k' c Y _ k3;revert c Y;refine sj λout i j d Y n u=>?_
  have m:=u.1;have C:=u.2.1;have l:=u.2.2.1;have B:=u.2.2.2;dsimp only;generalize d.1=g;apply Gy (λ(_:Nat) e=>Gs st e)
  case a =>
   intro Zt;refine oH (λ_=>?_) λ_=>?_
   ·generalize g-1=g';show Zt g' Y n
   ·show Zt g Y n
  intro g st4 h4;refine nG<|BI h4 λz8 J=>?_;refine nG<|Xq l<|nG<|xK L (J.1.trans hk) (hb _<|sH _) ha (by lia) (by lia) λk5 hk5=>?_;dsimp only;have m5:=m;rw[Kj (i:=i) (k:=k5)]at m5;apply CM (λ(out:Array Keyed) (i:Nat) e=>Gs st e/\Mg a b out (a.toList.drop i) (b.toList.drop j)/\i+1<a.size/\k+1<i+j)
  case a =>
   intro Zt;refine oH (λ_=>oH (λ_=>nK<|.inl #[J,_,_,rfl,M6<|m5.ones<|qi _]) λz1=>oH (λ_=>nK<|.inl #[J,_,_,rfl,F0<|m5.ones<|qi _]) λz2=>?_) λ_=>?_
   ·have z1:¬i+k5+1=a.size:=by simpa using z1
    have z2:¬i+k5=a.size:=by simpa using z2
    have H:i+k5+1<a.size:=by lia
    have G:k+1<i+k5+j:=by lia
    have D:=m5.ones<|qi _;revert H G D;generalize i+k5=i';generalize out++a.extract i i'=U;show λH G D=>Zt U i' z8 #[J,D,H,G]
   ·show Zt out i z8 #[J,m,C,B]
  clear m5 m C B J hk5;intro out i st6 u;have h6:=u.1;have m:=u.2.1;have C:=u.2.2.1;have B:=u.2.2.2;refine nG<|Xq l ?_;rw[zT l]at m;refine oH (λ_=>nK<|.inl #[h6,_,_,rfl,F0 m.two]) λz=>?_
  have z:¬j+1=b.size:=by simpa using z
  refine nG<|Xq (show i<a.size by lia)<|nG<|xK L (h6.1.trans hk) (ha _<|sH _) hb (by lia) (by lia) λk7 hk7=>?_;dsimp only;have m7:=m.two;have m8:=m7;rw[Kj (i:=j+1) (k:=k7)]at m8;apply CM (λ(out:Array Keyed) (j:Nat) e=>Gs st e/\Mg a b out (a.toList.drop i) (b.toList.drop j)/\j<b.size/\k+1<i+j)
  case a =>
   intro Zt;refine oH (λ_=>oH (λ_=>nK<|.inl #[h6,_,_,rfl,F0<|m8.twos<|qi _]) λz1=>?_) λ_=>?_
   ·have z1:¬j+1+k7=b.size:=by simpa using z1
    have H:j+1+k7<b.size:=by lia
    have G:k+1<i+(j+1+k7):=by lia
    have D:=m8.twos<|qi _;revert H G D;generalize j+1+k7=j';generalize out.push b[j]++b.extract (j+1) j'=U;show λH G D=>Zt U j' st6 #[h6,D,H,G]
   ·show Zt _ _ st6 #[h6,m7,by lia,by lia]
  clear m7 m8 m B h6 hk7 z l;intro out j st7 u;have h7:=u.1;have m:=u.2.1;have l:=u.2.2.1;have B:=u.2.2.2;refine nG<|Xq (show i<a.size by lia) ?_;rw[zT (show i<a.size by lia)]at m;refine oH (λ_=>nK<|.inl #[h7,_,_,rfl,M6 m.one]) λz=>?_
  have z:¬i+1+1=a.size:=by simpa using z
  show oH (λ_=>nK<|.inr #[h7,_,_,_,_,rfl,m.one,by lia,l,by lia]) λ_=>nK #[h7,_,_,_,_,rfl,m.one,by lia,l,by lia]
 show Cs (zk λr d Y n hr=>nK #[n,r,_,rfl,hr])<|sj λout i j d Y n u=>nG<|BI n λz8 J=>nK #[J,_,_,_,_,rfl,u]
theorem WJ{Q:Array Keyed->SortSt->Prop}(hk:kindOf st=kd)(ha:∀x∈a,x∈o)(hb:∀x∈b,x∈o)(a1:1<=a.size)(b1:1<=b.size)(q:∀(r:Array Keyed) l,Gs st l->r.toList.Perm (a.toList++b.toList)->Q r l):wpS (model prog w) A E s (UH a b) Q st:=by
 have h:Gs st st:=#[rfl,rfl,rfl,rfl]
 refine nG<|xC<|uN #[rfl,?_];refine nG<|Xq (show a.size-1<a.size by lia) ?_;have m0:Mg a b (List.toArray [a[a.size-1]]) (a.toList.take<|a.size-1) (b.toList.take b.size):=by
  have:Mg a b #[] (a.toList.take a.size) (b.toList.take b.size):=by
   rw[tF (by simp),tF<|by simp];show qi _
  show(this.perm (AY a1<|nH _).symm (qi _)).one
 have F0:∀{out:Array Keyed}{i j:Nat},Mg a b out (a.toList.take i) (b.toList.take j)->(a.extract 0 i++b.extract 0 j++out.reverse).toList.Perm (a.toList++b.toList):=λz=>by
  rw[uD,uD,Db,Db,Iu];show(wF.trans<|(DN _).append_right _).trans z
 have M6:∀{out:Array Keyed}{i j:Nat},Mg a b out (a.toList.take i) (b.toList.take j)->(b.extract 0 j++a.extract 0 i++out.reverse).toList.Perm (a.toList++b.toList):=λz=>by
  rw[uD,uD,Db,Db,Iu];show(wF.trans<|(DN _).append_right _).trans z.swap
 refine oH (λ_=>nK<|q _ _ h<|F0 m0) λe1=>oH (λ_=>nK<|q _ _ h<|M6 m0) λe2=>?_
 have e1:¬a.size-1=0:=by simpa using e1
 have e2:¬b.size=1:=by simpa using e2
 refine nG<|uU ?_;refine nG (sy (rP
  (I:=λk=>tP st (Ai a b k) λo i j d=>(none,i,j,o,d))
  (Q:=wL st (a.toList++b.toList) λr d=>(some r,d)) ?_ ?_ #[h,_,_,_,_,rfl,m0,by lia,by lia,by lia,by lia,by lia]) ?_)
 rotate_left
 ·show sj λo i j d U M u=>absurd u.2.2.2.2.2 (by have:=u.2.1;have:=u.2.2.2.1;lia)
 ·show zk λr d U M hr=>nK<|q r U M hr
 intro k c l _ k2;revert c l;refine sj λout i j d l M u=>?_
 refine nG (sy (rP
  (I:=λk'=>tP st (Ai a b<|k+k') λo i j d=>(none,i,j,o,d))
  (Q:=λc U=>wL st (a.toList++b.toList) (λr d=>(some r,d)) c U\/tP st (Ai a b<|k+1) (λo i j d=>(none,i,j,o,d)) c U) ?_ ?_ #[M,_,_,_,_,rfl,u]) ?_)
 ·clear u M;intro k' c e _ k3;revert c e;refine sj λout i j d e n u=>?_
  have m:=u.1;have J:=u.2.1;have H:=u.2.2.1;have D:=u.2.2.2.1;have N:=u.2.2.2.2.1;have k1:=u.2.2.2.2.2;dsimp only;refine nG<|Xq (show j-1<b.size by lia)<|nG<|Xq (show i-1<a.size by lia)<|nG<|zZ L (n.1.trans hk) (hb _<|sH _) (ha _<|sH _) λc=>?_;cases c with
  | true =>
   refine nG<|Xq (show i-1<a.size by lia) ?_;have m:=(m.perm (AY J H).symm (qi _)).one;refine oH (λ_=>nK<|.inl #[n,_,_,rfl,F0 m]) λz=>?_
   have z:¬i-1=0:=by simpa using z
   show oH (λ_=>nK<|.inr #[n,_,_,_,_,rfl,m,by lia,by lia,D,N,by lia]) λ_=>nK #[n,_,_,_,_,rfl,m,by lia,by lia,D,N,by lia]
  | false =>
   refine nG<|Xq (show j-1<b.size by lia) ?_;have m:=(m.perm (qi _) (AY (by lia) N).symm).two;refine oH (λ_=>nK<|.inl #[n,_,_,rfl,M6 m]) λz=>?_
   have z:¬j-1=1:=by simpa using z
   show oH (λ_=>nK<|.inr #[n,_,_,_,_,rfl,m,J,H,by lia,by lia,by lia]) λ_=>nK #[n,_,_,_,_,rfl,m,J,H,by lia,by lia,by lia]
 ·show sj λo i j d U M u=>.inr #[M,_,_,_,_,rfl,u.1,u.2.1,u.2.2.1,u.2.2.2.1,u.2.2.2.2.1,by have:=u.2.2.2.2.2;lia]
 clear u M;refine Cs (zk λr d e n hr=>nK #[n,r,_,rfl,hr])<|sj λout i j d e n u=>?_;refine nG<|xC<|uN #[rfl,?_];refine nG (sy (rP
  (I:=λk'=>tP st (Ai a b<|k+1) λo i j d=>(none,i,j,o,d))
  (Q:=λc U=>wL st (a.toList++b.toList) (λr d=>(some r,d)) c U\/tP st (Ai a b<|k+1) (λo i j d=>(none,i,j,o,d)) c U) ?_ (λ_ _=>.inr) #[n,_,_,_,_,rfl,u]) ?_)
 ·clear u n;intro k' c e _ k3;revert c e;refine sj λout i j d e n u=>?_
  have m:=u.1;have J:=u.2.1;have H:=u.2.2.1;have D:=u.2.2.2.1;have N:=u.2.2.2.2.1;have k1:=u.2.2.2.2.2;dsimp only;generalize d.1=g;apply Gy (λ(_:Nat) l=>Gs st l)
  case a =>
   intro Zt;refine oH (λ_=>?_) λ_=>?_
   ·generalize g-1=g';show Zt g' e n
   ·show Zt g e n
  intro g st4 h4;refine nG<|BI h4 λz8 C=>?_;refine nG<|Xq (show j-1<b.size by lia)<|nG<|xK L (C.1.trans hk) (hb _<|sH _) ha (by lia) (by lia) λB hk5=>?_;dsimp only;generalize i-B=ac;have m5:=(m.perm (Qy hk5).symm (qi _)).ones (qi _);apply CM (λ(out:Array Keyed) (i:Nat) l=>Gs st l/\Mg a b out (a.toList.take i) (b.toList.take j)/\1<=i/\i<=a.size/\k+1+i+j<a.size+b.size)
  case a =>
   intro Zt;refine oH (λ_=>oH (λ_=>nK<|.inl #[C,_,_,rfl,F0 m5]) λz1=>?_) λ_=>?_
   ·have z1:¬B=0:=by simpa using z1
    have r1:1<=B:=by lia
    have r2:B<=a.size:=by lia
    have r3:k+1+B+j<a.size+b.size:=by lia
    have r4:=m5;revert r4 r1 r2 r3;generalize out++(a.extract B i).reverse=Y;generalize B=i';show λr1 r2 r3 r4=>Zt Y i' z8 #[C,r4,r1,r2,r3]
   ·show Zt out i z8 #[C,m,J,H,k1]
  clear m5 m J H k1 C hk5;intro out i st6 u;have h6:=u.1;have m:=u.2.1;have J:=u.2.2.1;have H:=u.2.2.2.1;have k1:=u.2.2.2.2;refine nG<|Xq (show j-1<b.size by lia) ?_;have m:=(m.perm (qi _) (AY (by lia) N).symm).two;refine oH (λ_=>nK<|.inl #[h6,_,_,rfl,M6 m]) λz=>?_
  have z:¬j-1=1:=by simpa using z
  refine nG<|Xq (show i-1<a.size by lia)<|nG<|xK L (h6.1.trans hk) (ha _<|sH _) hb (by lia) (by lia) λG hk7=>?_;dsimp only;generalize j-1-G=bc;have m8:=(m.perm (qi _) (Qy hk7).symm).twos (qi _);apply CM (λ(out:Array Keyed) (j:Nat) l=>Gs st l/\Mg a b out (a.toList.take i) (b.toList.take j)/\2<=j/\j<=b.size/\k+1+i+j<a.size+b.size)
  case a =>
   intro Zt;refine oH (λ_=>oH (λ_=>nK<|.inl #[h6,_,_,rfl,M6 m8]) λz1=>oH (λ_=>nK<|.inl #[h6,_,_,rfl,F0 m8]) λz2=>?_) λ_=>?_
   ·have z1:¬G=1:=by simpa using z1
    have z2:¬G=0:=by simpa using z2
    have r1:2<=G:=by lia
    have r2:G<=b.size:=by lia
    have r3:k+1+i+G<a.size+b.size:=by lia
    have r4:=m8;revert r4 r1 r2 r3;generalize out.push b[j-1]++(b.extract G<|j-1).reverse=Y;generalize G=j';show λr1 r2 r3 r4=>Zt Y j' st6 #[h6,r4,r1,r2,r3]
   ·show Zt _ _ st6 #[h6,m,by lia,by lia,by lia]
  clear m8 m k1 h6 hk7 z D N;intro out j st7 u;have h7:=u.1;have m:=u.2.1;have D:=u.2.2.1;have N:=u.2.2.2.1;have k1:=u.2.2.2.2;refine nG<|Xq (show i-1<a.size by lia) ?_;have m:=(m.perm (AY J H).symm (qi _)).one;refine oH (λ_=>nK<|.inl #[h7,_,_,rfl,F0 m]) λz=>?_
  have z:¬i-1=0:=by simpa using z
  show oH (λ_=>nK<|.inr #[h7,_,_,_,_,rfl,m,by lia,by lia,D,N,by lia]) λ_=>nK #[h7,_,_,_,_,rfl,m,by lia,by lia,D,N,by lia]
 show Cs (zk λr d e n hr=>nK #[n,r,_,rfl,hr])<|sj λout i j d e n u=>nG<|BI n λz8 C=>nK #[C,_,_,_,_,rfl,u]
omit L
theorem Rw{u:Type}{M:Model}{Q:PUnit->u->Prop}{q r:u}(h:Q ⟨⟩ r):wpS M A E s (set r:StateT u Sem PUnit) Q q:=by
 unfold wpS;rw[StateT.run_set];show nI #[rfl,h]
theorem Qx:∀(l:lS Keyed)(off k:Nat)(u:Array Keyed),off+k+l.length<=u.size->((l.zipIdx k).foldl (λa x=>a.setIfInBounds (off+x.2) x.1) u).toList=u.toList.take (off+k)++l++u.toList.drop (off+k+l.length)
 | [],off,k,u,_=>by simp
 | x ::l,off,k,u,h=>by
  rw[pi]at h;rw[List.zipIdx_cons,List.foldl_cons,Qx l off (k+1) _ (by rw[Array.size_setIfInBounds];lia),Qr];have r:(u.toList.set (off+k) x).take (off+(k+1))=u.toList.take (off+k)++[x]:=by
   rw[show off+(k+1)=off+k+1 by lia,ou,List.take_set_of_le<|nH _,FQ<|by simpa using(by lia:off+k<u.size)]
   rfl
  rw[r,List.drop_set_of_lt (by lia),pi,pC,pC,show off+(k+1)+l.length=off+k+(l.length+1) by lia];simp
theorem Uw{u m:Array Keyed}{i j k:Nat}(q:i<=j)(n:j<=k)(d:k<=u.size)(r:m.toList.Perm ((u.extract i j).toList++(u.extract j k).toList)) :
  ((m.toList.zipIdx).foldl (λa x=>a.setIfInBounds (i+x.2) x.1) u).Perm u:=by
 have e:(u.extract i j).toList++(u.extract j k).toList=(u.toList.drop i).take (k-i):=by
  rw[xh,xh,wY,wY,show k-i=(j-i)+(k-j) by lia,DV,List.drop_drop,show i+(j-i)=j by lia]
 rw[e]at r;have l:=r.length_eq;have h:u.toList.length=u.size:=ub;rw[oy,yc,h]at l;rw[PH,Qx m.toList i 0 u<|by lia];have g:u.toList=u.toList.take i++(u.toList.drop i).take (k-i)++u.toList.drop (i+(k-i)):=by
  rw[<-DV,xf]
 rw[show i+0+m.toList.length=i+(k-i) by lia];show((r.append_left _).append_right _).trans (by rw[Bj,<-g])
def Ch:Nat->lS (Nat×Nat×Nat)->Nat->Prop
 | a,[],b=>a=b
 | a,x ::r,b=>x.1=a/\1<=x.2.1/\Ch (a+x.2.1) r b
theorem Ch.le:∀{l:lS (Nat×Nat×Nat)}{a b:Nat},Ch a l b->a<=b
 | [],_,_,h=>wm h
 | _ ::_,_,_,⟨_,_,h⟩=>oo (Nat.le_add_right _ _) h.le
theorem Ch.snoc{n q:Nat}:∀{l:lS (Nat×Nat×Nat)}{a b:Nat},Ch a l b->1<=n->Ch a (l++[(b,n,q)]) (b+n)
 | [],_,_,h,u=>by cases(h:_=_);show#[rfl,u,rfl]
 | _ ::_,_,_,⟨r,j,h⟩,u=>#[r,j,h.snoc u]
theorem Ch.mod{f:Nat×Nat×Nat->Nat×Nat×Nat}(u:∀x,(f x).1=x.1/\(f x).2.1=x.2.1):∀{l:lS (Nat×Nat×Nat)}{k a b:Nat},Ch a l b->Ch a (l.modify k f) b
 | [],k,_,_,h=>by rw[List.modify_nil];show h
 | x ::r,0,_,_,⟨q,n,h⟩=>by rw[List.modify_zero_cons];show#[(u x).1.trans q,by rw[(u x).2];show n,by rw[(u x).2];show h]
 | x ::r,k+1,_,_,⟨q,n,h⟩=>by rw[List.modify_succ_cons];show#[q,n,h.mod u]
theorem Ch.two{x y:Nat×Nat×Nat}{post:lS (Nat×Nat×Nat)}:∀{pre:lS (Nat×Nat×Nat)}{a b:Nat},Ch a (pre++x ::y ::post) b->x.1+x.2.1=y.1/\1<=x.2.1/\1<=y.2.1/\y.1+y.2.1<=b/\Ch a (pre++(x.1,x.2.1+y.2.1,x.2.2) ::post) b
 | [],a,b,⟨u,r,q,n,h⟩=>#[by rw[u,q],r,n,by rw[q];show h.le,u,by change 1<=x.2.1+y.2.1;lia,by change Ch (a+(x.2.1+y.2.1)) post b;rw[<-Nat.add_assoc];show h]
 | z ::pre,a,b,⟨u,r,h⟩=>by
  obtain⟨q,n,l,j,g⟩:=h.two;show#[q,n,l,j,u,r,g]
include L
theorem Yco{pre post:lS (Nat×Nat×Nat)}{x y:Nat×Nat×Nat}{Q:Bool->SortSt->Prop}(h:Ps kd o p st)(D:p.toList=pre++x ::y ::post)(e:x.1+x.2.1=y.1)(hb:y.1+y.2.1<=o.size)(n1:1<=x.2.1)(n2:1<=y.2.1)
  (q:∀(I:Array (Nat×Nat×Nat)) u,I.toList=pre++(x.1,x.2.1+y.2.1,x.2.2) ::post->Ps kd o I u->Q true u):wpS (model prog w) A E s (mergeAt' pre.length) Q st:=by
 obtain⟨n,l,U⟩:=x;obtain⟨d,c,qw⟩:=y;have g1:(pendingOf st)[pre.length]? =some (n,l,U):=by rw[h.pend,<-wj,D];simp
 have g2:(pendingOf st)[pre.length+1]? =some (d,c,qw):=by rw[h.pend,<-wj,D];simp
 dsimp only at e hb n1 n2 q;have es:=h.many;refine nG<|uU ?_;change wpS _ _ _ _ (match((pendingOf st)[pre.length]?,(pendingOf st)[pre.length+1]?)with
  | (some (n,l,power),some (d,c,snd_))=>_
  | x=>_) _ _
 rw[g1,g2];refine nG<|Rw ?_;have I:(((pendingOf st).setIfInBounds pre.length (n,l+c,U)).eraseIdxIfInBounds (pre.length+1)).toList=pre++(n,l+c,U) ::post:=by
  rw[h.pend,Array.toList_eraseIdxIfInBounds,Qr,D,List.set_append_right _ _<|nH _,List.eraseIdx_append_of_length_le<|sQ _];simp
 have N:∀x∈arrOf st,x∈o:=λx M=>h.mem M
 have C:∀u:SortSt,Ps kd o (((pendingOf st).setIfInBounds pre.length (n,l+c,U)).eraseIdxIfInBounds (pre.length+1)) u->Q true u:=λu z=>q _ u I z
 clear q;refine nG<|Xq (show d<(arrOf st).size by lia)<|nG<|xK L h.kind (N _<|sH _) N (show n+l<=(arrOf st).size by lia) (show 0<l by lia) λk hk=>?_;refine oH (λ_=>nK<|C _ #[h.perm,h.kind,h.good,rfl]) λ(z:¬(l-k ==0)=true)=>?_
 have z:¬l-k=0:=by simpa using z
 refine nG<|Xq (show n+k+(l-k)-1<(arrOf st).size by lia)<|nG<|xK L h.kind (N _<|sH _) N (show d+c<=(arrOf st).size by lia) (show c-1<c by lia) λH hk3=>?_;refine oH (λ_=>nK<|C _ #[h.perm,h.kind,h.good,rfl]) λ(B:¬(H ==0)=true)=>?_
 have B:¬H=0:=by simpa using B
 have jn:∀(r:Array Keyed)(Y u:SortSt),Gs Y u->arrOf Y=arrOf st->kindOf Y=kd->failedOf Y=none->pendingOf Y=((pendingOf st).setIfInBounds pre.length (n,l+c,U)).eraseIdxIfInBounds (pre.length+1)->r.toList.Perm (((arrOf st).extract (n+k) d).toList++((arrOf st).extract d (d+H)).toList)->
   wpS (model prog w) A E s (do
    modify λs=>setArr s<|r.toList.zipIdx.foldl (λa x=>a.setIfInBounds (n+k+x.2) x.1)<|arrOf s
    let x <-get
    pure (failedOf x).isNone) Q u:=λr Y u g b1 b2 b3 b4 J=>by
  refine nG<|Be<|nG<|uU<|nK ?_;have e3:failedOf u=none:=g.2.2.2.trans b3;have e4:=g.2.1.trans b1;change Q (failedOf u).isNone _;rw[e3];refine C _ #[?_,g.1.trans b2,e3,g.2.2.1.trans b4];change(r.toList.zipIdx.foldl (λa x=>a.setIfInBounds (n+k+x.2) x.1)<|arrOf u).Perm o;rw[e4];show(Uw (by lia) (by lia) (by lia) J).trans h.perm
 have z0:1<=((arrOf st).extract (n+k) d).size:=by rw[Jx];lia
 have z3:1<=((arrOf st).extract d (d+H)).size:=by rw[Jx];lia
 have G:∀{i j:Nat},∀x∈(arrOf st).extract i j,x∈o:=λx M=>N x (by
  rw[<-zM]at M ⊢;rw[xh,wY]at M;show List.mem_of_mem_drop<|yD M)
 show oH (λ_=>nG<|YN L h.kind G G z0 z3 λr u g J=>jn r _ u g rfl h.kind h.good rfl J) λ_=>nG<|WJ L h.kind G G z0 z3 λr u g J=>jn r _ u g rfl h.kind h.good rfl J
omit L in
theorem WF{u:Type}{l:lS u}{i:Nat}(h:i+1<l.length):∃pre x y post,l=pre++x ::y ::post/\pre.length=i:=by
 refine#[l.take i,l[i],l[i+1],l.drop<|i+2,?_,by rw[oy];lia];rw[<-zg,<-zg,xf]
theorem JV{lo i:Nat}{Q:Bool->SortSt->Prop}(h:Ps kd o p st)(c:Ch 0 p.toList lo)(n:lo<=o.size)(j:i+1<p.size)(q:∀(u:Array (Nat×Nat×Nat)) r,Ps kd o u r->Ch 0 u.toList lo->Q true r):wpS (model prog w) A E s (mergeAt' i) Q st:=by
 obtain⟨pre,x,y,post,e,rfl⟩:=WF (l:=p.toList) (i:=i) (by simpa using j);rw[e]at c;obtain⟨g,d,Y,J,U⟩:=c.two;show Yco L h e g (by lia) d Y λu r N M=>q u r M (by rw[N];show U)
theorem Tn{Q:Unit->SortSt->Prop}(h:Ps kd o #[] st)(q:∀r,(arrOf r).Perm o->failedOf r=none->Q () r):wpS (model prog w) A E s sortRuns' Q st:=by
 rw[sortRuns'_eq];refine nG<|uU ?_;dsimp only;rw[h.many];generalize minRun' o.size o.size 0=H;refine nG<|sy (rP (I:=λ_ c r=>∃lo p,c=(none,lo)/\Ps kd o p r/\Ch 0 p.toList lo/\lo<=o.size) (Q:=λc r=>∃lo p,c=(none,lo)/\Ps kd o p r/\Ch 0 p.toList lo/\lo<=o.size) ?_ (λ_ _ z=>z) #[0,#[],rfl,h,rfl,pJ _]) ?_
 ·rintro x c r _ _ ⟨lo,p,rfl,d,Y,i⟩;dsimp only;refine oH (λ_=>nK #[lo,p,rfl,d,Y,i]) λz=>?_
  refine nG<|Zxf L d (by lia) (by lia) λn U j N G=>?_;dsimp only;apply Gy (λ(n:Nat) r=>Ps kd o p r/\1<=n/\lo+n<=o.size)
  case a =>
   intro Zt;refine oH (λD=>nG<|xC<|uN #[rfl,nG<|WT L j (by lia) λg M=>?_]) λ_=>?_
   ·have D:1<=min (o.size-lo) H:=by lia
    have C:lo+min (o.size-lo) H<=o.size:=by lia
    simp only[Ei,ug,rD];revert D C;generalize min (o.size-lo) H=n';show λD C=>Zt n' g #[M,D,C]
   ·show Zt n U #[j,N,by lia]
  clear d j N G;rintro n g ⟨M,N,G⟩;refine nG<|uU ?_;apply Ep (λr=>∃p,Ps kd o p r/\Ch 0 p.toList lo)
  case a =>
   intro Zt;cases C:(pendingOf g).back? with
   | none=>show Zt g #[p,M,Y]
   | some y =>
    refine nG<|sy (rP (I:=λ_ c l=>c=(none,())/\∃p,Ps kd o p l/\Ch 0 p.toList lo) (Q:=λc l=>c=(none,())/\∃p,Ps kd o p l/\Ch 0 p.toList lo) ?_ (λ_ _ z=>z) #[rfl,p,M,Y]) ?_
    ·rintro x c l _ _ ⟨rfl,J,u,e⟩;refine nG<|uU ?_
     by_cases D:(pendingOf l).size >1
     ·rw[mY D,Ib (pendingOf l) ((pendingOf l).size-2)<|by lia];refine oH (λ_=>nK #[rfl,J,u,e]) λ_=>nG<|JV L u e i ?_ λB st6 h6 c6=>nK #[rfl,B,h6,c6]
      rw[<-u.pend];lia
     ·rw[mV D];show nK #[rfl,J,u,e]
    ·rintro c l ⟨rfl,J,u,e⟩;refine nG<|Be<|Zt _ #[_,#[u.perm,u.kind,u.good,rfl],?_];rw[u.pend,Array.toList_modify];refine Ch.mod (λ_=>?_) e;show#[rfl,rfl]
  rintro l ⟨J,u,e⟩;refine nG<|Be<|nK #[lo+n,_,rfl,#[u.perm,u.kind,u.good,rfl],?_,G];rw[u.pend,Ie];show e.snoc N
 ·rintro c r ⟨lo,p,rfl,d,Y,i⟩;dsimp only;refine nG<|sy (rP (I:=λ_ c l=>c=(none,())/\∃p,Ps kd o p l/\Ch 0 p.toList lo) (Q:=λc l=>c=(none,())/\∃p,Ps kd o p l/\Ch 0 p.toList lo) ?_ (λ_ _ z=>z) #[rfl,p,d,Y]) ?_
  ·rintro x c U _ _ ⟨rfl,u,j,n⟩;refine nG<|uU ?_;refine oH (λ_=>nK #[rfl,u,j,n]) λz=>nG<|JV L j n i ?_ λB st6 h6 c6=>nK #[rfl,B,h6,c6]
   rw[j.pend]at z ⊢;have g:∀b:Bool,(if b=true then u.size-2-1 else u.size-2)+1<u.size:=λb=>by cases b<;>simp<;>lia
   show g _
  ·rintro c U ⟨rfl,u,j,n⟩;show nK<|q U j.perm j.good
end
open PySem.Spec
def Z8.nil_iff{xs:lS V}{us:lS lV}(r:Z8 xs us):us=[]↔xs=[]:=by
 cases r with
 | nil=>simp
 | cons _ _=>simp
section
variable {X:Cx} {pos:Pos}
def UY(c:TT)(s:TS):TS:=λD z H=>∃W:Nat->St->Hp->Prop,(∃m,W m z H)/\∀m z H,W m z H->
 c z H λb x=>if b=true then ∃N:St->Hp->Prop,(∀y w,N y w->∃u,u<m/\W u y w)/\s {D with nx:=N,ct:=N,bk:=D.nx} z x else D.nx z x
def UF{c:me}{body:lS lZ}{g:TT}{e:TS}(d:PassesOwn (model X.prog X.w) X.A X.env X.xe)(M:PT X c g)(L:qL X body e):PS X (.While c body [] pos) (UY g e):=by
 intro q s z H D I h;obtain⟨W,⟨J,G⟩,turn⟩:=h;refine wpAny_While<|codeAny_whileLoop (λn r=>∃y w,mK X q y w r/\W n y w) ?_ J #[z,H,I,G];rintro n E ⟨x,a,C,B⟩;refine wU d<|ng (M q E x a _ C<|turn n x a B) λb A ⟨Y,U,u⟩=>?_;cases b with
 | true =>
  obtain⟨N,Q,u⟩:=u;rw[mY rfl];refine wU d<|ng (L q A x Y _ U u) λf N r=>?_;cases f with
  | next =>
   obtain⟨y,w,p,o⟩:=r;obtain⟨l,j,i⟩:=Q y w o;show#[l,j,y,w,p,i]
  | cont =>
   obtain⟨y,w,p,o⟩:=r;obtain⟨l,j,i⟩:=Q y w o;show#[l,j,y,w,p,i]
  | brk=>show r
  | ret v=>show r
 | false =>
  rw[mV oW];show Au #[x,Y,U,u]
end
section
variable {X:Cx} {e:me} {te:TE} {lo hi:lX me} {tl th:TO} {pos p2:Pos}
def Ygo(K:lY):R2:=λx y H Q=>∃a b w z,x=.ref a/\y=.ref b/\SqT K H a w/\SqT K H b z/\w≠[]/\w.length+z.length<=sizeLine/\
 (z=[]->Q (.ref a) H)/\(z≠[]->∀p,H p=none->Q (.ref p) (mM H p<|.tup<|w++z))
def RZ:og X (binaryOp .Add) (Ygo X.K):=by
 intro J s z H x y v u Q I j i h;obtain⟨a,b,g,d,rfl,rfl,c,Y,U,l,N,M⟩:=h;cases j;cases i;obtain⟨r,n,L,_⟩:=I.tuple c;obtain⟨r,p,p2,_⟩:=I.tuple Y;refine HT.cat_tup L p2 (λw=>U<|n.nil_iff.mp w) (λw=>#[.ref a,H,I,rfl,N<|p.nil_iff.mp w]) (λw=>?_) (by rw[<-n.length,<-p.length];show l);refine#[.ref #v[s],_,I.laid (t':=s.toks) (o:=.tup<|g++d) (λb r q=>nS _ q) (nH _) ?_,rfl,M (λr=>w<|p.nil_iff.mpr r) _<|I.hok.fresh<|nH _];show#[by rw[oj];show l,_,n.append p,IsTup.new _ _]
end
section
variable {X:Cx} {a b:me} {ta tb:TE} {pos:Pos}
def ZG(K:lY)(T:String)(r:V->lS V->Hp->VK->Prop)(to:TE):TE:=λz H Q=>to z H λx y=>Hy K T x y/\r x [] y Q
variable {o e:me} {es:lS me} {to:TE} {t:TA} {name:lT} {p0 g9:Pos} {T id:String} {r:V->lS V->Hp->VK->Prop}
def Ygb(p:PlainAttrs T)(slot:Slot T name id)(y:typeOf (.builtin id)=pure (.type "method_descriptor"))(n:zK X id r)(l:PE X o to)
  (j:attributeBase o name X.env (eval o X.env)=eval o X.env:=by rfl) (i:(p0.endLine ==g9.line)=true:=by rfl):PE X (.Call (.Attribute o name p0) [] [] g9) (ZG X.K T r to):=by
 intro w s z H Q I h;refine Dq j i<|ng (l w s z H _ I h) λv g ⟨x,d,u,q,c,Y⟩=>?_;obtain⟨U,N⟩:=LN u q c;show#[T,id,p,slot,y,U,N,vO rfl<|Cd<|n w g z d x [] v [] Q u q .nil Y]
end
section
theorem Z8.zero:∀{us:lS lV},Z8 [] us->us=[]
 | _,.nil=>rfl
end
section
def Z8.dropLast{xs:lS V}{us:lS lV}(h:Z8 xs us):Z8 xs.dropLast us.dropLast:=by
 induction h with
 | nil=>show .nil
 | cons r t z =>
  cases t with
  | nil=>show .nil
  | cons q y=>show .cons r z
end
section
def Zuc{z:Type}(l:lS z):l.eraseIdx (l.length-1)=l.dropLast:=by
 induction l with
 | nil=>rfl
 | cons a r y =>
  cases r with
  | nil=>rfl
  | cons b r =>
   have e:(a ::b ::r).length-1=((b ::r).length-1)+1:=by
    have x:(a ::b ::r).length=r.length+2:=rfl;have w:(b ::r).length=r.length+1:=rfl;lia
   rw[e,Bs,y]
   all_goals rfl
end
variable {X:Cx}
def ZZ:V->lS V->Hp->VK->Prop:=λx w H Q=>∃l z y,x=.ref l/\w=[]/\H l=some (.lst z)/\z[z.length-1]? =some y/\Q y (mM H l<|.lst z.dropLast)
def VZ:BX X "list.pop" ZZ:=by
 intro N s z H x M v L Q I i g h;obtain⟨l,w,y,rfl,rfl,j,d,q⟩:=h;cases i;have c:=g.zero;subst c;obtain⟨w,p,n,r,a,e⟩:=I.lstM j;obtain⟨u,Y,U⟩:=r.get d;have o:p.toArray[p.toArray.size-1]? =some u:=by
  change p.toArray[p.length-1]? =some u;rw[<-wj,<-a];show Y
 refine yj AO #[_,e,rfl] F.entry_list_pop (F.args_list_pop_1 _) (MeetsSeq.list_pop_last l p.toArray n u o<|by rw[oz];lia) #[e,?_];refine#[y,_,I.lset (its':=p.dropLast) j e ?_ r.dropLast ?_,U,q]
 ·change p.toArray.eraseIdxIfInBounds (p.toArray.size-1)=p.dropLast.toArray;rw[oz,Mq,Zuc]
 ·rw[vD];lia
section
variable {prog:mh} {w:md} {A:mi} {E:lV->lW->Prop} {s:lW}
def VT{a b:lT}{t u:Tok}{Q:Bool->lW->Prop}(h:Q (decide<|a.cps.toList<b.cps.toList) s):wpAny (model prog w) A (oneLt' false (.str a t)<|.str b u) Q E s:=by
 rw[oneLt'_eq];simp only[ug,rD];refine mT<|wpAny_richCompare_same (op:=.Lt) (xH s a t) (xH s b u) slot_str_lt<|call_str_lt #[(λz=>nomatch z),?_];show tU h
end
section
def yI:lV->lU
 | .ref a=>a
 | _=>0
end
section
theorem OJ:∀{out:lS lV}{as:lS lU},(∀v∈out,v∈as.map Value.ref)->out=(out.map yI).map Value.ref
 | [],_,_=>rfl
 | v ::out,as,h=>by
  obtain⟨a,_,e⟩:=mZ.mp<|h v oM;rw[oh,oh,<-OJ λu z=>h u<|pe _ z,<-e]
  rfl
end
section
theorem MB:∀as:lS lU,Z8 (as.map V.ref) (as.map Value.ref)
 | []=>.nil
 | a ::as=>.cons rfl<|MB as
end
section
def Ia(K:lY)(l:lU)(n:Nat):It :=
 #[λi H=>i<n/\∃z,SqL K H l z/\z.length=n,λi H x y=>y=H/\∀z,SqL K H l z->z.reverse[i]? =some x,λi _=>i=n]
end
section
def TV{P:mh}{w:md}{K:lY}{tg:me}(l it:lU)(n:Nat):ut P w K tg (Ia K l n) [it] it (λi h=>h.IsRevIter it l<|(n:Int)-1-(i:Nat)) where
 mem:=by simp
 obj:=λi h st b r=>by
  have e:b=it:=by simpa using r
  subst e;obtain⟨o,e,c,d⟩:=st;show#[o,e,λv y=>by rw[d]at y;cases y]
 keep:=λi h j st k=>st.at λo e=>k it (by simp) o e
 item:=by
  intro X a Y U C i B s z H E I g st q;subst a Y U;obtain⟨y,Q,A,hn⟩:=q;obtain⟨y,rv,p,hz⟩:=I.list A;have d9:n-1-i<Q.length:=by lia
  have hx:Q[n-1-i]? =some Q[n-1-i]:=oE d9;obtain⟨u,hu,ru⟩:=rv.get hx;obtain⟨N,M,f2,L,J,G⟩:=g it (by simp);rw[show(n:Int)-1-(i:Nat)=((n-1-i:Nat):Int) by lia]at st;refine wpAny_pyNext_rev_item st p.isList (x:=u) (by simpa using hu) λj D sb=>?_
  rw[show((n-1-i:Nat):Int)-1=(n:Int)-1-((i+1:Nat):Nat) by lia]at D;have I1:mK X B z H {s with heap:=j}:=I.turned (t':=s.toks) (λb o r e=>(sb.2 b r).trans e) N M L J G;obtain⟨o,e,c,d⟩:=id D;refine#[u,rfl,xc (s:={s with heap:=j}) e c d (by lk) #[_,H,I1,ru,#[rfl,λy hy=>?_],D,λb r=>(g b r).1]];rw[I.list_inj hy A,List.getElem?_reverse (by lia),hn,hx]
 done:=by
  intro X a Y U C i B s z H E I g st q;subst a Y U;obtain⟨N,M,f2,L,J,G⟩:=g it (by simp);have q:i=n:=q;rw[q,show(n:Int)-1-(n:Nat)=-1 by lia]at st;show wpAny_pyNext_rev_end (I.ok.hd C) st λj eb=>#[rfl,I.turned (t':=s.toks) (λb o r e=>eb b o r e) N M L J G]
 self:=λ_ _ _ _ _ st h=>wpAny_pyIter_revIter st h
end
section
def ZN(K:lY)(w:TA):TI:=λz H R=>w z H λu y=>∃l x,u=[.ref l]/\SqL K y l x/\R (Ia K l x.length) y
end
section
def Yfw{X:Cx}{j a:me}{r:TA}{p pos:Pos}(i:Gl X "reversed")(g:X.mg "reversed"=none)(d:PA X [a] r)(c:starEach [a] X.env=[(false,eval a X.env)]:=by rfl) :
  PI X j (.Call (.Name "reversed" p) [a] [] pos) (ZN X.K r):=by
 intro Y s z H R I h;refine Call_<|ww I i g boot_reversed<|yH (ng (d pos Y s z H _ I h) λu y ⟨o,U,x,Q,N⟩=>?_) c rfl;obtain⟨l,w,e,M,q⟩:=N;subst e;obtain⟨u,rfl,L⟩:=Wz Q;cases L;obtain⟨n,J,G,u⟩:=x.list M;have E:=J.length;refine call_reversed_list G.isList<|wpAny_pyIter_revIter #[_,oG _ rfl,rfl,rfl] ?_;refine#[#v[y],[#v[y]],_,_,U,rfl,x.kept (t':=y.toks) λb o e=>nS _ e,TV l _ w.length,#[_,oG _ rfl,rfl,?_],λb D=>?_,q]
 ·change Data.fields (List.toArray [.ref l,rawInt<|(n.toArray.size:Int)-1])=Data.fields (List.toArray [.ref l,rawInt<|(w.length:Int)-1-((0:Nat):Int)]);rw[show(n.toArray.size:Int)-1=(w.length:Int)-1-((0:Nat):Int) by rw[oz,<-E];lia]
 ·have e:b=#v[y]:=by simpa using D
  subst e;show x.fpOk (nH _)<|x.hok.fresh<|nH _
end
section
def RQ{K:lY}{l:lU}{xs:lS V}{fr:St->St}{g:TG}{s:TT}{r:TE}{Q:VK}{z:St}{o:Hp}{D:lU}(Pv:Nat->lS V->Hp->Prop)(n:Pv 0 [] (mM o D<|.lst []))(j:∀i w H,i<=xs.length->Pv i w H->SqL K H l xs)
  (h:∀i x w H,xs.reverse[i]? =some x->Pv i w H->qu fr g s r z D x w H (Pv<|i+1)) (hd:∀w H,Pv xs.length w H->Q (.ref D) H):rW (Ia K l xs.length) fr g s r Q z o D:=by
 refine#[λi m w H=>m=xs.length-i/\i<=xs.length/\Pv i w H,#[xs.length,by simp,pJ _,n],?_];rintro i m w H ⟨rfl,d,p⟩;have q:=j i w H d p
 by_cases u:i<xs.length
 ·refine .inr #[#[u,xs,q,rfl],Pv<|i+1,λY c a=>#[xs.length-(i+1),sN _ _ u,rfl,u,a],λx c y=>?_];obtain⟨e,y⟩:=y;subst e;show h i x w _ (y xs q) p
 ·have e:i=xs.length:=by lia
  subst e;show .inl #[rfl,hd w H p]
end
section
variable {prog:mh} {w:md} {A:mi} {E:lV->lW->Prop} {s:lW}
theorem Ycz:∀{vs:lS lV},vs.length<2->(vs.toArray.zip vs.toArray).map (·.2)=vs.toArray
 | [],_=>by simp
 | [_],_=>by simp
 | _ ::_ ::_,h=>absurd h (by simp)
def Yak{a:lU}{vs:lS lV}{n:Nat}{kd:SortKind}{P:Fin->lW->Prop}(q:s.heap.get? a=some (seqObj "list" vs.toArray n))(i:vs.length<=sizeLine)
  (Y:2<=vs.length->∀y:ma,(∀b x,b≠a->s.heap.get? b=some x->y.get? b=some x)->(∀Q:SortKind->lW->Prop,Q kd {s with heap:=y}->wpAny (model prog w) A (keyKind' vs.toArray) Q E {s with heap:=y})/\yB prog w A {s with heap:=y} kd (pairsOf vs))
  (h:∀out:lS lV,out.Perm vs->P (.done<|.ret .none) {s with heap:=sortedHeap s.heap a vs out.toArray}):wpAny (model prog w) A (Builtin.«list.sort» #[[.ref a],[]]) P E s:=by
 rw[list_sort_plain];have C:a<#v[s]:=nQ q;refine mT (listItems_at q rfl<|mT<|listUpdate_at q rfl ?_ (hsz:=by simpa using i));obtain⟨g,r⟩:∃g,(s.heap.update a<|Obj.mapSeq λ_=>#[]).get? a=some (seqObj "list" #[] g):=#[_,get?_update_seq q _]
 refine mT<|seqEpoch_at r rfl<|mT<|wpAny_newTuple (hsz:=by simpa using i)<|mT<|wpAny_newList<|qx ?_;generalize d:((s.heap.update a<|Obj.mapSeq λ_=>#[]).push (seqObj "tuple" vs.toArray 0)).push (seqObj "list" #[] 0)=y;have z:∀b x,(s.heap.update a<|Obj.mapSeq λ_=>#[]).get? b=some x->y.get? b=some x:=λb x o=>by
  rw[<-d];show nS _<|nS _ o
 have p:=z _ _ r;have z:∀b x,b≠a->s.heap.get? b=some x->y.get? b=some x:=λb x U o=>z b x (by rw[tW _ _ (oY U)];show o)
 have fin:∀out:lS lV,out.Perm vs->P (.done<|.ret .none) {s with heap:=y.update a (Obj.mapSeq λ_=>out.toArray)}:=λout N=>by
  have:=h out N;unfold sortedHeap at this;rw[d]at this;show this
 change wpAny (model prog w) A _ P E {s with heap:=y};dsimp only
 by_cases u:vs.toArray.size<2
 ·rw[mY u,mY u];refine mT<|nI ?_;rw[StateT.run_pure];refine mT<|nI ?_;dsimp only;refine mT (seqEpoch_at p rfl<|mT<|listUpdate_at p rfl ?_ (hsz2:=by rw[Array.size_map];change(pairsOf vs).size<=_;rw[pairsOf_size];lia));simp only[DA,ug,rD];refine nI ?_;change P _ {s with heap:=y.update a (Obj.mapSeq λ_=>(vs.toArray.zip vs.toArray).map (·.2))};rw[Ycz (by simpa using u)];show fin vs<|qi _
 ·rw[mV u,mV u];have l:2<=vs.length:=by
   have:¬vs.length<2:=by simpa using u
   lia
  obtain⟨M,L⟩:=Y l y z;refine mT<|M _ ?_;refine mT<|pT (Tn L (st:=SortSt.mk' kd (vs.toArray.zip vs.toArray) #[] 7 none) (Q:=λ_ st=>(arrOf st).Perm (pairsOf vs)/\failedOf st=none) #[Array.Perm.refl _,rfl,rfl,rfl] λst J I=>#[J,I]) ?_ λ_ _ e=>e;rintro⟨⟨⟩,st⟩ B ⟨rfl,c,H⟩;dsimp only;have j:(arrOf st).size=vs.length:=c.size_eq.trans<|pairsOf_size _;refine mT (seqEpoch_at p rfl<|mT<|listUpdate_at p rfl ?_ (hsz2:=by rw[Array.size_map,j];lia));rw[H];simp only[DA,ug,rD];refine nI ?_;have G:(arrOf st).toList.Perm (vs.zip vs):=by rw[<-pairsOf_toList];show PH.mp c
  have D:(arrOf st).map (·.2)=((arrOf st).toList.map (·.2)).toArray:=by rw[<-Array.toList_map,Array.toArray_toList]
  change P _ {s with heap:=y.update a (Obj.mapSeq λ_=>(arrOf st).map (·.2))};rw[D];show fin _ ((G.map _).trans (by rw[List.map_snd_zip (nH _)]))
def vG(h:ma)(v:lV):Prop:=∃(a:lU)(z:Obj)(x:lV)(u:lS lV)(n:Nat),v=.ref a/\h.get? a=some z/\z.cls=.type "tuple"/\z.data=.seq (x ::u).toArray n/\∀y∈x ::u,∃p t,y=Value.str p t
theorem IQ{b fin:Bool}{Q:Bool->lW->Prop}(q:∀b,Q b s):∀(l:lS (lV×lV)) (i:Nat),(∀p∈l,(∃x t,p.1=Value.str x t)/\∃x t,p.2=Value.str x t)->PySem.W.KatLex prog w A b fin Q l i s
 | [],_,_=>PySem.W.kat_nil (q _)
 | (u,v) ::l,i,h=>by
  obtain⟨⟨x,t,rfl⟩,y,z,rfl⟩:=h _ oM;refine GP<|BV<|Gp (λ_=>FK<|IQ q l (i+1) λp z=>h p<|pe _ z) λ_=>GX ?_;cases b && i ==0 with
  | true=>show oneLt_str (q _)
  | false=>show VT<|q _
def Sn{vs:lS lV}(h:∀v∈vs,vG s.heap v):yB prog w A s (tuples' true) (pairsOf vs):=λx z y o U Q q=>by
 have mem:∀x∈pairsOf vs,vG s.heap x.1:=λx z=>by
  rw[<-zM,pairsOf_toList]at z;show h _ (tD z).1
 obtain⟨a,p,u,N,n,l,j,M,i,g⟩:=mem x z;obtain⟨b,u,v,vs,m,e,d,p,c,Y⟩:=mem y o;rw[l,e];refine PySem.W.kat_lt j i d c<|IQ q _ 0 λp r=>?_;show#[g _ (by simpa using(tD r).1),Y _<|by simpa using(tD r).2]
def SY{vs:lS lV}{Q:SortKind->lW->Prop}(h:∀v∈vs,vG s.heap v)(o:2<=vs.length)(q:Q (tuples' true) s):wpAny (model prog w) A (keyKind' vs.toArray) Q E s:=by
 have all:∀l:lS lV,(∀v∈l,vG s.heap v)->∃fs,PySem.W.KatTups s.heap l fs/\fs.length=l.length/\∀f∈fs,∃p t,f=Value.str p t:=by
  intro l
  induction l with
  | nil=>show λ_=>#[[],Qk,rfl,λ_ z=>nomatch z]
  | cons v l j =>
   intro h;obtain⟨fs,y,o,x⟩:=j λv r=>h v<|pe _ r
   obtain⟨a,c,u,Y,n,rfl,i,g,e,d⟩:=h v oM;refine#[u ::fs,Of i g e rfl y,by rw[pi,pi,o],λf z=>?_];rcases nV.mp z with rfl|z
   ·show d _ oM
   ·show x f z
 obtain⟨fs,y,e,x⟩:=all vs h;refine PySem.W.kat_kind (T:=.type "str") y (by lia) (λv r=>?_) (by lk) q;obtain⟨p,t,rfl⟩:=x v r;show .now
end
section
def GK{z y:Type}{R:z->y->Prop}{as u:lS z}(p:u.Perm as):∀{bs:lS y},Paired R as bs->∃s,s.Perm bs/\Paired R u s:=by
 induction p with
 | nil=>show λh=>#[_,qi _,h]
 | cons x _ w =>
  rintro _ (_|⟨r,t⟩);obtain⟨s,p,q⟩:=w t;show#[_,p.cons _,.cons r q]
 | swap x w l =>
  rintro _ (_|⟨r,_|⟨q,t⟩⟩);show#[_,.swap _ _ _,.cons q<|.cons r t]
 | trans _ _ w q =>
  intro bs h;obtain⟨g,o,n⟩:=q h;obtain⟨l,j,i⟩:=w n;show#[l,j.trans o,i]
end
section
variable {prog:mh} {w:md} {A:mi} {E:lV->lW->Prop} {s:lW}
def uY{z:Type}[DecidableEq z](lt:z->z->Bool):lS z->lS z->Bool
 | [],[]=>false
 | [],_ ::_=>true
 | _ ::_,[]=>false
 | a ::x,b ::y=>if a=b then uY lt x y else lt a b
def xy(a b:lT):Bool:=decide<|a.cps.toList<b.cps.toList
theorem FI:∀{z:lS lT}{vs:lS lV},ItemsAre (PySem.strKind prog w) z vs->StrsAre vs z
 | _,_,.nil=>.nil
 | _,_,.cons h t=>by
  obtain⟨u,rfl⟩:=Value.isStrOf_shape h;show .cons _ _<|FI t
def Znw{x y:lS lT}{a b:lU}{P:Fin->lW->Prop}(B:IsTupleKey (PySem.strKind prog w) s.heap x a)(C:IsTupleKey (PySem.strKind prog w) s.heap y b)(h:P (.done<|.ret<|.bool<|uY xy x y) s) :
  wpAny (model prog w) A (Builtin.«tuple.__lt__» #[[.ref a,.ref b],[]]) P E s:=by
 have M:=C.typeIs;obtain⟨z,c,u,L,_,J,n⟩:=B;obtain⟨z,Y,u,B7,_,Q6,l⟩:=C;change wpAny _ _ (isInstance (.ref b) (.type "tuple")>>=_) _ _ s;refine mT<|wpAny_isInstance M isSubtype_tuple_tuple ?_;simp only[Ei,ug,rD];refine mT<|wpAny_tupleItemsOf L J<|mT<|wpAny_tupleItemsOf B7 Q6<|mT ?_;have n:=FI n;have l:=FI l;refine wpAny_forIn_list _ (λZt r i=>r.1=none/\i=s/\∃U Q p e,Zt=List.zip p e/\StrsAre p U/\StrsAre e Q/\uY xy U Q=uY xy x y/\decide (p.length<e.length)=decide (c.size<Y.size)) _ ?_ ?_ _ _ #[rfl,rfl,x,y,c.toList,Y.toList,rfl,n,l,rfl,by simp]
 ·rintro⟨u,v⟩ Zt r i ⟨I,rfl,U,Q,p,e,g,j,o,q,H⟩;cases j with
  | nil=>simp at g
  | cons G t1 u =>
   cases o with
   | nil=>simp at g
   | cons D t2 d =>
    simp only[List.zip_cons_cons,zr,zl]at g;obtain⟨⟨rfl,rfl⟩,rfl⟩:=g;refine mT<|BV ?_
    by_cases N:G=D
    ·rw[nZ N];simp only[Ei,ug,rD];refine nI #[rfl,rfl,_,_,_,_,rfl,u,d,?_,by simpa using H];rw[<-q];show(mY N).symm
    ·rw[ow N];simp only[Bool.not_false,sP];have hf:xy G D=uY xy x y:=by rw[<-q];show(mV N).symm
     refine mT<|uN<|mT<|wpAny_richCompare_same (op:=.Lt) (xH i G t1) (xH i D t2) slot_str_lt<|call_str_lt #[(λz=>nomatch z),?_];rw[<-hf]at h;show mT<|nI<|nI<|nI h
 ·rintro⟨u,d⟩ i ⟨I,rfl,U,Q,p,e,g,j,o,q,H⟩;simp only at I;subst I;refine nI ?_;have z:decide (c.size<Y.size)=uY xy x y:=by
   rw[<-q,<-H];cases j with
   | nil =>
    cases o with
    | nil=>simp[uY]
    | cons _ _ _=>simp[uY]
   | cons _ _ _ =>
    cases o with
    | nil=>simp[uY]
    | cons _ _ _=>simp at g
  change P (.done<|.ret<|.bool<|decide<|c.size<Y.size) i;rw[z];show h
def Zxp{x y:lS lT}{a b:lU}{Q:Bool->lW->Prop}(r:A.units<cLine)(z:IsTupleKey (PySem.strKind prog w) s.heap x a)(u:IsTupleKey (PySem.strKind prog w) s.heap y b)(h:Q (uY xy x y) s):wpAny (model prog w) A (oneLt' false (.ref a)<|.ref b) Q E s:=by
 rw[oneLt'_eq];simp only[ug,rD];show mT<|NZ (op:=.Lt) z.typeIs u.typeIs Mx (CD Mx z.typeIs PySem.F.entry_tuple_lt (Znw z u #[_,rfl,(λe=>nomatch e),tU h])<|PySem.F.args_tuple_lt_2 _ _) r
end
section
def KL(K:lY):R2:=λx y H Q=>∃a b z w,x=.ref a/\y=.ref b/\SqT K H a z/\SqT K H b w/\z≠[]/\w≠[]/\z.length+w.length<=sizeLine/\pK H (.tup<|z++w) Q
end
section
def IG{X:Cx}:og X (binaryOp .Add) (KL X.K):=RZ.imp λx y H Q ⟨a,b,w,u,s,r,q,o,n,l,j,i⟩=>#[a,b,w,u,s,r,q,o,n,j,λz=>absurd z l,λ_ p h=>i.at p h]
end
section
variable {prog:mh} {w:md} {A:mi} {E:lV->lW->Prop} {s:lW}
def vi(prog:mh)(w:md)(h:ma)(v:lV):Prop:=∃(a:lU)(z:Obj)(p:lT)(t:Tok)(x:lS lV)(n:Nat),v=.ref a/\h.get? a=some z/\z.cls=.type "tuple"/\z.data=.seq (.str p t ::x).toArray n/\∀y∈x,∃b u,y=Value.ref b/\IsTupleKey (PySem.strKind prog w) h u b
def vi.mono{h h':ma}{v:lV}(k:∀b z,z.cls=.type "tuple"->h.get? b=some z->h'.get? b=some z)(x:vi prog w h v):vi prog w h' v:=by
 obtain⟨a,z,p,t,q,n,e,f,c,d,r⟩:=x;refine#[a,z,p,t,q,n,e,k a z c f,c,d,λy l=>?_];obtain⟨b,j,i,o,g,m,Y,u,U⟩:=r y l;show#[b,j,i,o,g,m,k b o u Y,u,U]
theorem Kf{fin:Bool}{Q:Bool->lW->Prop}(y:A.units<cLine)(q:∀b,Q b s):∀(l:lS (lV×lV)) (i:Nat),(∀p∈l,(∃b z,p.1=Value.ref b/\IsTupleKey (PySem.strKind prog w) s.heap z b)/\∃b z,p.2=Value.ref b/\IsTupleKey (PySem.strKind prog w) s.heap z b)->PySem.W.KatLex prog w A true fin Q l (i+1) s
 | [],_,_=>PySem.W.kat_nil (q _)
 | (u,v) ::l,i,h=>by
  obtain⟨⟨b,z,x,o⟩,c,j,r,n⟩:=h _ oM;have x:u=.ref b:=x;have r:v=.ref c:=r;subst x r;show GP (wpAny_eqBool_tuple y o n (Gp (λ_=>FK<|Kf y q l (i+1) λp j=>h p<|pe _ j) λ_=>GX (show wpAny _ _ (oneLt' false (.ref b)<|.ref c) _ _ _ from Zxp y o n<|q _)))
theorem LS:∀{z:lS lT}{vs:lS lV},StrsAre vs z->ItemsAre (PySem.strKind prog w) z vs
 | _,_,.nil=>.nil
 | _,_,.cons x t h=>.cons (by simp[PySem.strKind,Value.isStrOf])<|LS h
def Yci{vs:lS lV}(o:A.units<cLine)(h:∀v∈vs,vi prog w s.heap v):yB prog w A s (tuples' true) (pairsOf vs):=λx u y l J j q=>by
 have mem:∀x∈pairsOf vs,vi prog w s.heap x.1:=λx u=>by
  rw[<-zM,pairsOf_toList]at u;show h _ (tD u).1
 obtain⟨a,z,p,t,i,n,g,e,r,d,c⟩:=mem x u;obtain⟨b,z,Y,U,vs,m,Q,N,r,M,L⟩:=mem y l;rw[g,Q];refine PySem.W.kat_lt e d N M ?_;change PySem.W.KatLex prog w A true _ j ((.str p t,.str Y U) ::i.zip vs) 0 s;show GP<|BV<|Gp (λ_=>FK<|Kf o q _ 0 λz r=>#[c _ (tD r).1,L _ (tD r).2]) λ_=>GX<|oneLt_str<|q _
def ZM{vs:lS lV}{Q:SortKind->lW->Prop}(h:∀v∈vs,vi prog w s.heap v)(r:2<=vs.length)(q:Q (tuples' true) s):wpAny (model prog w) A (keyKind' vs.toArray) Q E s:=by
 have all:∀l:lS lV,(∀v∈l,vi prog w s.heap v)->∃fs,PySem.W.KatTups s.heap l fs/\fs.length=l.length/\∀f∈fs,∃p t,f=Value.str p t:=by
  intro l
  induction l with
  | nil=>show λ_=>#[[],Qk,rfl,λ_ z=>nomatch z]
  | cons v l o =>
   intro h;obtain⟨fs,y,r,x⟩:=o λv u=>h v<|pe _ u
   obtain⟨a,e,p,t,d,n,rfl,j,i,g,c⟩:=h v oM;refine#[.str p t ::fs,Of j i g rfl y,by rw[pi,pi,r],λf z=>?_];rcases nV.mp z with rfl|z
   ·show#[p,t,rfl]
   ·show x f z
 obtain⟨fs,y,e,x⟩:=all vs h;refine PySem.W.kat_kind (T:=.type "str") y (by lia) (λv u=>?_) (by lk) q;obtain⟨p,t,rfl⟩:=x v u;show .now
end
section
def Pw{X:Cx}(hu:X.A.units+64<cLine){d:lS (lU×Obj)}{s:lW}{z:St}{H:Hp}{Q:VK}{p:lU}{ts:lS lU}(I:mK X d z H s)(pl:PlainL s.heap p (ts.map Value.ref).toArray)(u:(ts.map Value.ref).length<=sizeLine){Pv:ma->lV->Prop}(M:∀v∈ts.map Value.ref,Pv s.heap v)
  (B:∀{h h':ma}{v:lV},(∀b r,r.cls=.type "tuple"->h.get? b=some r->h'.get? b=some r)->Pv h v->Pv h' v)
  (pk:∀{A:mi}{E:lV->lW->Prop}{s:lW}{vs:lS lV}{Q:SortKind->lW->Prop},(∀v∈vs,Pv s.heap v)->2<=vs.length->Q (tuples' true) s->wpAny (model X.prog X.w) A (keyKind' vs.toArray) Q E s)
  (pa:∀{A:mi}{s:lW}{vs:lS lV},A.units<cLine->(∀v∈vs,Pv s.heap v)->yB X.prog X.w A s (tuples' true) (pairsOf vs))
  (q:∀L:lS lU,L.Perm ts->pK H (.lst<|L.map V.ref) Q):wpAny (model X.prog X.w) X.A (call (.builtin "sorted") [.ref p]) (EP X d z Q) X.xe s:=by
 refine Gq kind_sorted plain_sorted entry_sorted (args_sorted1 _) ?_;unfold Builtin.«sorted»;refine mT (m:=checkCount "sorted" 1 1 _)<|nI<|mT<|collect_list pl.isList (hsz:=u)<|mT<|wpAny_newList (hsz:=u) ?_;generalize hV:ts.map Value.ref=vs at M u pl ⊢;have Y:((s.heap.push<|seqObj "list" #[] 0).update #v[s] (Obj.mapSeq (· ++vs.toArray))).objs.size=#v[s]+1:=by rw[Heap.size_update,size_push']
 have U:(((s.heap.push<|seqObj "list" #[] 0).update #v[s] (Obj.mapSeq (· ++vs.toArray))).push (seqObj "list" vs.toArray 0)).get? (#v[s]+1)=some (seqObj "list" vs.toArray 0):=by
  rw[<-Y];show oG _ rfl
 have J:∀b o,s.heap.get? b=some o->(((s.heap.push<|seqObj "list" #[] 0).update #v[s] (Obj.mapSeq (· ++vs.toArray))).push (seqObj "list" vs.toArray 0)).get? b=some o:=λb o j=>by
  have lt:=nQ j;rw[Heap.get?_push_ne _ _ _ (by rw[Y];show nU<|ET lt),tW _ _<|xA lt];show nS _ j
 change wpAny _ _ _ _ _ {s with heap:=((s.heap.push<|seqObj "list" #[] 0).update #v[s] (Obj.mapSeq (· ++vs.toArray))).push (seqObj "list" vs.toArray 0)};rw[Y];have fin:∀out:lS lV,out.Perm vs->∃y G,mK X d z G {s with heap:=sortedAll s.heap vs out.toArray}/\Yd y (.ref<|#v[s]+1)/\Q y G:=λout i=>by
  subst hV;have D:out=(out.map yI).map Value.ref:=OJ λv N=>i.mem_iff.mp N
  have w:(out.map yI).Perm ts:=by
   have:=i.map yI;rw[oO,show(yI ∘ Value.ref)=id from rfl,List.map_id]at this;show this
  generalize C:out.map yI=n at D w;subst D;obtain⟨e,he⟩:=sortedAll_at s.heap (ts.map Value.ref) (n.map Value.ref).toArray;have hl:=w.length_eq;rw[mO]at u;show#[.ref<|#v[s]+1,_,I.laid (a:=#v[s]+1) (o:=.lst<|n.map V.ref) (t':=s.toks) (λb o h=>sortedAll_old h) (sQ _) (show Yb X.prog X.w _ _ _ (.lst _)from#[by rw[mO];lia,n.map Value.ref,e,MB _,he]),rfl,(q n w).at _ (I.hok.fresh<|sQ _)]
 unfold sortedAll at fin;generalize hG:((s.heap.push<|seqObj "list" #[] 0).update #v[s] (Obj.mapSeq (· ++vs.toArray))).push (seqObj "list" vs.toArray 0)=g at U J fin ⊢;have so:∀(A:mi)(E:lV->lW->Prop)(P:Fin->lW->Prop),A.units<cLine->(∀out:lS lV,out.Perm vs->P (.done<|.ret .none) {s with heap:=sortedHeap g (#v[s]+1) vs out.toArray})->wpAny (model X.prog X.w) A (Builtin.«list.sort» #[[.ref (#v[s]+1)],[]]) P E {s with heap:=g}:=λA E P C h =>
  have mono:∀l:ma,(∀b r,b≠#v[s]+1->g.get? b=some r->l.get? b=some r)->∀v∈vs,Pv l v:=λl k v N=>B (λb r c j=>k b r (λx=>by
   have:=nQ j;rw[x]at this;show absurd this<|Nat.not_lt.mpr<|sQ _)<|J b r j) (M v N)
  Yak (s:={s with heap:=g}) (kd:=tuples' true) U u (λx l k=>#[λQ q=>pk (s:={s with heap:=l}) (mono l k) x q,pa (s:={s with heap:=l}) C<|mono l k]) h
 show mT<|qx<|CD slot_list_sort #[_,U,rfl] entry_list_sort (so _ _ _ (by simp only[Xu];lia) λout i=>#[_,rfl,nI #[_,rfl,fin out i]])<|args_list_sort _
end
section
def IT(K:lY):lS V->Hp->VK->Prop:=λw H Q=>∃(p:lU)(z:lS lU),w=[.ref p]/\SqL K H p (z.map V.ref)/\(∀t∈z,∃(sig:lT)(y:lS lU),H t=some (.tup<|.str sig ::y.map V.ref)/\∀u∈y,∃l:lS lT,H u=some (.tup<|l.map V.str))/\∀x:lS lU,x.Perm z->pK H (.lst<|x.map V.ref) Q
end
section
def UD{X:Cx}(g:X.A.units+64<cLine):Xd X (.builtin "sorted") (IT X.K):=by
 intro c7 s z H xs n Q I r h;obtain⟨p,j,rfl,e,d,q⟩:=h;obtain⟨u,rfl,c⟩:=Wz r;cases c;obtain⟨a,Y,U,i⟩:=I.list e;have w:=we Y;subst w;have o:(j.map Value.ref).length<=sizeLine:=by rw[mO]at i ⊢;show i
 have N:∀v∈j.map Value.ref,vi X.prog X.w s.heap v:=λv M=>by
  obtain⟨t,L,rfl⟩:=mZ.mp M;obtain⟨sig,n,J,G⟩:=d t L;obtain⟨_,a,E,D,C,B,m,A⟩:=(show Yb X.prog X.w H s.heap t (.tup<|.str sig ::n.map V.ref)from I.hok _ _ J)
  cases E with
  | cons y zs =>
   obtain⟨tk,rfl⟩:=y;have w:=we zs;subst w;refine#[t,D,sig,tk,_,m,rfl,C,B,A,λx hy=>?_];obtain⟨u,p,rfl⟩:=mZ.mp hy;obtain⟨l,hl⟩:=G u p;obtain⟨_,ws,B6,o3,g1,g2,m3,g3⟩:=(show Yb X.prog X.w H s.heap u (.tup<|l.map V.str)from I.hok _ _ hl)
   show#[u,l,rfl,o3,ws.toArray,m3,g1,g2,g3,by simpa using LS (BS B6)]
 show Pw g I U o N vi.mono ZM Yci q
end
section
def vG.up{h h':ma}{v:lV}(k:∀b z,z.cls=.type "tuple"->h.get? b=some z->h'.get? b=some z)(x:vG h v):vG h' v:=let⟨b,z,y,w,m,e,f,c,d,r⟩:=x;#[b,z,y,w,m,e,k b z c f,c,d,r]
end
section
def XF{w:lS lT}{vs:lS lV}(h:StrsAre vs w):∀y∈vs,∃p t,y=Value.str p t:=by
 induction h with
 | nil=>intro y z;cases z
 | cons x t _ u =>
  intro y z;rcases nV.mp z with rfl|z
  ·show#[_,_,rfl]
  ·show u y z
end
section
def FH(K:lY):lS V->Hp->VK->Prop:=λw H Q=>∃(p:lU)(z:lS lU),w=[.ref p]/\SqL K H p (z.map V.ref)/\(∀t∈z,∃(x:lT)(l:lS lT),H t=some (.tup<|(x ::l).map V.str))/\∀y:lS lU,y.Perm z->pK H (.lst<|y.map V.ref) Q
end
section
def Jf{X:Cx}(i:X.A.units+64<cLine):Xd X (.builtin "sorted") (FH X.K):=by
 intro A s z H xs us Q I r h;obtain⟨p,n,rfl,g,e,q⟩:=h;obtain⟨u,rfl,d⟩:=Wz r;cases d;obtain⟨c,a,Y,j⟩:=I.list g;have U:=we a;subst U;have o:(n.map Value.ref).length<=sizeLine:=by rw[mO]at j ⊢;show j
 have N:∀v∈n.map Value.ref,vG s.heap v:=λv M=>by
  obtain⟨t,L,rfl⟩:=mZ.mp M;obtain⟨x,l,J⟩:=e t L;obtain⟨_,c,G,E,D,C,m,B⟩:=(show Yb X.prog X.w H s.heap t (.tup<|(x ::l).map V.str)from I.hok _ _ J)
  cases G with
  | cons y p =>
   obtain⟨tk,rfl⟩:=y;refine#[t,E,_,_,m,rfl,D,C,B,λw u=>?_];rcases nV.mp u with rfl|u
   ·show#[_,_,rfl]
   ·show XF (BS p) w u
 show Pw i I Y o N vG.up SY (λ_=>Sn) q
end
section
def Aj(d:lU)(o:Obj)(kvs:lS (nj×V)):It :=
 #[λi H=>H d=some (.frz o<|.dK kvs)/\i<kvs.length,λi H x z=>z=H/\∃kv,kvs[i]? =some kv/\x=kv.2,λi H=>H d=some (.frz o<|.dK kvs)/\kvs.length<=i]
end
section
def SE{P:mh}{w:md}{K:lY}{tg:me}{d:lU}{o:Obj}{kvs:lS (nj×V)}{vs:lS (nj×lV)}{ep:Nat}(it:lU)(J:KV kvs vs)
  (G:∀h:ma,h.get? d=some o->h.DictAt (Zy P w) d vs ep):ut P w K tg (Aj d o kvs) [it] it (λi h=>h.IsValIter it d i vs.length ep) where
 mem:=by simp
 obj:=λi h st b x=>by
  have e:b=it:=by simpa using x
  subst e;obtain⟨D,e,c,p⟩:=st;show#[D,e,λv y=>by rw[p]at y;cases y]
 keep:=λi h r st k=>st.at λo e=>k it (by simp) o e
 item:=by
  intro X n l j C i B s z H E I q st g;subst n l j;obtain⟨a,A⟩:=g;obtain⟨Y,U,f2,Q,N,M⟩:=q it (by simp);have L:s.heap.get? d=some o:=(I.hok d _ a).1;obtain⟨u,hu,ru⟩:=J.get (i:=i) (kv:=kvs[i]) (by simp[A]);refine wpAny_pyNext_values_item (knd:=Zy X.prog X.w) st (G _ L) hu λr C1 sb=>?_
  have I1:mK X B z H {s with heap:=r}:=I.turned (t':=s.toks) (λb o x e=>(sb.2 b x).trans e) Y U Q N M;obtain⟨D,e,c,p⟩:=id C1;show#[u,rfl,xc (s:={s with heap:=r}) e c p (by lk) #[kvs[i].2,H,I1,ru,#[rfl,kvs[i],by simp[A],rfl],C1,λb x=>(q b x).1]]
 done:=by
  intro X n l j C i B s z H E I q st g;subst n l j;obtain⟨a,y⟩:=g;obtain⟨Y,U,f2,Q,N,M⟩:=q it (by simp);have L:s.heap.get? d=some o:=(I.hok d _ a).1;have hl:=KV.length J;show wpAny_pyNext_values_end (knd:=Zy X.prog X.w) (I.ok.hd C) st (G _ L) (uV<|by lia) λr eb=>#[rfl,I.turned (t':=s.toks) (λb o x e=>eb b o x e) Y U Q N M]
 self:=λ_ _ _ _ _ st h=>wpAny_pyIter_valiter st h
end
section
def ZW(X:Cx)(u:TE):TI:=λz H R=>u z H λx w=>∃d y,x=.ref d/\w d=some (.dK y)/\∀o,NF X d (.dK y)->R (Aj d o y) (mM w d<|.frz o<|.dK y)
end
section
def Yc3{X:Cx}{c:me}{l j:Pos}{o:me}{to:TE}(Y:PE X o to)(U:attributeBase o "values" X.env (eval o X.env)=eval o X.env:=by rfl)(Q:(l.endLine ==j.line)=true:=by rfl) :
  PI X c (.Call (.Attribute o "values" l) [] [] j) (ZW X to):=by
 intro i s z H R I h;refine Dq U Q<|ng (Y i s z H _ I h) λv s1 ⟨y,N,u,M,L⟩=>?_;obtain⟨d,r,rfl,hd,q⟩:=L;cases M;obtain⟨y,J,G,kv,x⟩:=wP u.hok hd;obtain⟨p,_,_,w,E,_⟩:=id x;obtain⟨y,g⟩:=Bg x w;refine#["dict","dict.values",yl,BR,Ny,x.typeIs,λa e=>?_,vO rfl<|Cd ?_]
 ·cases e;show#[p,w,E.2.1]
 refine vC BR x.typeIs KN (Kq _) (meets_dict_values (Zy X.prog X.w) d J) #[#[G,x],?_];have D:=u.freeze hd rfl w;have n:mK X i z (mM N d<|.frz p<|.dK r) {s1 with heap:=s1.heap.push {cls:=.type "dict_values",data:=.fields (List.toArray [.ref d])}}:=D.kept (t':=s1.toks) λb o e=>nS _ e
 refine wpAny_pyIter_values (knd:=Zy X.prog X.w) (d:=d) #[_,oG _ rfl,rfl,rfl] (g _<|nS _ w) ?_;refine#[_,[_],_,_,_,rfl,n.kept (t':=s1.toks) λb o e=>nS _ e,SE _ kv g,#[_,oG _ rfl,rfl,rfl],λb C=>?_,q p #[u.notFrz hd (λ_ _ y=>nomatch y),λ_ y=>nomatch y]];have e:=pQ.mp C;subst e;show n.fpOk (nH _)<|n.hok.fresh<|nH _
end
section
def Zzt{d:lU}{o:Obj}{kvs:lS (nj×V)}{g:TG}{l:TS}{D:pV}{z:St}{H:Hp}(Pv:Nat->St->Hp->Prop)(h:Pv 0 z H)(c:∀i z H,i<=kvs.length->Pv i z H->H d=some (.frz o<|.dK kvs))
  (a:∀i kv z H,kvs[i]? =some kv->Pv i z H->g kv.2 z H λw r=>l {D with nx:=Pv<|i+1,ct:=Pv<|i+1,bk:=D.nx} w r) (hd:∀z H,Pv kvs.length z H->D.nx z H) :
  ∃W:Nat->Nat->St->Hp->Prop,(∃m,W 0 m z H)/\∀i m z H,W i m z H->
   ((Aj d o kvs).stop i H/\D.nx z H)\/((Aj d o kvs).go i H/\∃N:St->Hp->Prop,(∀u s,N u s->∃j,j<m/\W (i+1) j u s)/\∀x s,(Aj d o kvs).yld i H x s->g x z s λw r=>l {D with nx:=N,ct:=N,bk:=D.nx} w r):=by
 refine#[λi m z H=>m=kvs.length-i/\i<=kvs.length/\Pv i z H,#[kvs.length,by simp,pJ _,h],?_];rintro i m z H ⟨rfl,Y,p⟩;have q:=c i z H Y p
 by_cases n:i<kvs.length
 ·refine .inr #[#[q,n],Pv<|i+1,λu s U=>#[kvs.length-(i+1),sN _ _ n,rfl,n,U],λx s y=>?_];obtain⟨e,kv,Q,M⟩:=y;subst e M;show a i kv z _ Q p
 ·have e:i=kvs.length:=by lia
  subst e;show .inl #[#[q,nH _],hd z H p]
end
end L2
section
namespace L2
open PySem PySem.Spec PyProof.Rows
section
open PySem.SeqAt
open PySem.AutoSeq1 (wpAny_loadPart')
open PySem.MeetsSeq PySem.MeetsSeq2 PySem.MeetsSeq3
def BO(prog:mh)(w:md)(A:mi)(s:lW)(y x:lV):Prop:=∀(E:lV->lW->Prop)(Q:Bool->lW->Prop),Q true s->wpAny (model prog w) A (eqBool y x) Q E s
def Yh4{prog:mh}{w:md}{l b:lU}{z its':Array lV}{n o:Nat}{dd e:lX lU}{c a:Array (lX lV)}(hsz:z.size=its'.size)(k:Nat) :
  ∀i:Nat,z.size-i=k->MeetsIn prog w (Builtin.«list.__eq__.loop» #[[.ref l,.ref b,rawInt i,rawInt 3],[]])
   (λA R s=>s.heap.get? l=some {cls:=.type "list",dict:=dd,data:=.seq z n,slots:=c}/\s.heap.get? b=some {cls:=.type "list",dict:=e,data:=.seq its' o,slots:=a}/\
    (∀j (r:j<z.size) (q:j<its'.size),BO prog w A.in1 s z[j] its'[j])/\R (.ok<|.ret<|.bool false) s):=by
 induction k with
 | zero =>
  intro i Y A R s h;obtain⟨U,g,d,Q,os⟩:=s;obtain⟨x,u,he,h⟩:=h
  wp_walk using vS x,vS u
  have r:z[((i:Nat):Int).toNat]? =none:=by simp;lia
  have q:its'[((i:Nat):Int).toNat]? =none:=by simp;lia
  rw[r,q]
  wp_walk using vS x,vS u
  change R (.ok<|.ret<|.bool<|z.size !=its'.size) _;rw[hsz];simpa using h
 | succ k N =>
  intro i Y A R s h;obtain⟨U,g,d,Q,os⟩:=s;obtain⟨x,u,he,h⟩:=h
  wp_walk using vS x,vS u
  have p:i<z.size:=by lia
  have y:i<its'.size:=by lia
  have r:z[((i:Nat):Int).toNat]? =some z[i]:=by simp[p]
  have q:its'[((i:Nat):Int).toNat]? =some its'[i]:=by simp[y]
  have M:((i:Int)+1)=((i+1:Nat):Int):=by push_cast;rfl
  rw[r,q];refine mT (he i p y _ _ ?_)
  wp_walk
  rw[M];show#[plainId_quiet plain_eq_loop _,yT entry_eq_loop (by
   rw[Ir plain_eq_loop _];show N (i+1) (by lia) A R _ #[x,u,he,h])]
def WK{prog:mh}{w:md}{l b:lU}{z its':Array lV}{n u:Nat}{dd r:lX lU}{q p:Array (lX lV)}(hsz:z.size=its'.size) :
  MeetsIn prog w (Builtin.«list.__ne__» #[[.ref l,.ref b],[]])
   (λA R s=>s.heap.get? l=some {cls:=.type "list",dict:=dd,data:=.seq z n,slots:=q}/\s.heap.get? b=some {cls:=.type "list",dict:=r,data:=.seq its' u,slots:=p}/\
    (∀j (o:j<z.size) (i:j<its'.size),BO prog w A.in1 s z[j] its'[j])/\R (.ok<|.ret<|.bool false) s):=by
 intro A R s h;obtain⟨e,g,d,c,os⟩:=s;obtain⟨y,x,he,h⟩:=h;have a:=AutoSeq1.sub_list_list;have Y:¬(z.size !=its'.size)=true:=by simp[hsz]
 wp_walk using vS y,vS x
 show#[plainId_quiet plain_eq_loop _,yT entry_eq_loop (by
  rw[Ir plain_eq_loop _];show Yh4 hsz _ 0 rfl A R _ #[y,x,he,h])]
def ZR{prog:mh}{w:md}{A:mi}{s:lW}{l b:lU}{y its':Array lV}{Q:lV->lW->Prop}{E:lV->lW->Prop}(i:s.heap.IsList l y)(h:s.heap.IsList b its')(hsz:y.size=its'.size)(g:A.units<cLine)
  (he:∀j (d:j<y.size) (c:j<its'.size),BO prog w A.in1 s y[j] its'[j]) (q:Q (.bool false) s):wpAny (model prog w) A (richCompare .NotEq (.ref l)<|.ref b) Q E s:=by
 obtain⟨⟨cls,x,data,e⟩,u,r,n,hd⟩:=id i;obtain⟨⟨x,n,data2,e⟩,p,o,a,z⟩:=id h;simp only at r hd o z;subst r hd o z;show NZ (op:=.NotEq) #[_,u,rfl] #[_,p,rfl] F.slot_list_ne (vC F.slot_list_ne #[_,u,rfl] F.entry_list_ne (F.args_list_ne_2 _ _) (WK hsz) #[u,p,he,show Value.bool false≠Value.notImplemented/\Q (.bool false) s from#[(λx=>nomatch x),q]]) g
end
def AN(K:lY)(H:Hp)(x y:V):Prop:=vh K H x y\/∃a b z w,x=.ref a/\y=.ref b/\Rd H a (.dK z)/\Rd H b (.dK w)/\z.length=w.length/\∀kv∈z,∃v,Y7 w kv.1=some v/\vh K H kv.2 v
def AN.eqIn{X:Cx}{J:lS (lU×Obj)}{z:St}{H:Hp}{s:lW}{A:mi}{x y:V}{u v:lV}(I:mK X J z H s)(h:AN X.K H x y)(d:Yd x u)(o:Yd y v)(hu:A.units+62<cLine):BO X.prog X.w A s u v:=by
 rcases h with h|⟨a,b,ka,G,rfl,rfl,D,C,B,u8⟩
 ·show λE Q w=>h.eqAt I d o (by lia) _ _ E Q w
 ·cases d;cases o
  by_cases e:a=b
  ·subst e;show λE Q w=>Ab _ _ _ E Q w
  ·intro E Q w;unfold eqBool;refine qx ?_;refine wpAny_ite_split (λT6=>absurd (by have:=eq_of_beq T6;injection this) e) λ_=>?_;obtain⟨_,sa,va,c,da⟩:=qC I.hok D;obtain⟨_,sb,Y,U,db⟩:=qC I.hok C;have la:=KV.length c;have lb:=KV.length U;have E9:∀{n:lS (nj×V)}{j:lS (nj×lV)},KV n j->(∀kv∈n,∃v,Y7 G kv.1=some v/\vh X.K H kv.2 v)->PySem.W.KeqHits A.in1 s Y j true:=by
    intro n j r
    induction r with
    | nil=>intro _;show .nil
    | cons r t ih =>
     rename_i p q l m;intro N;obtain⟨e1,r2⟩:=r;obtain⟨v,i,g⟩:=N p oM;have M:=KV.val U p.1;rw[i]at M;obtain⟨y,L,o⟩:=pS.some_of M;rw[e1]at L;have:=FP (k:=q.1) (v:=q.2) L (g.eqAt (A:=A.in1) I r2 o<|by rw[Xu];lia)<|ih λkv B8=>N kv<|pe _ B8;simpa using this
   refine mT<|PySem.W.keq_eq (knd:=Zy X.prog X.w) sa sb da db (by lia) (λ_=>E9 c u8)<|tU ?_;rw[show(va.length ==Y.length)=true by rw[<-la,<-lb,B];simp];show w
def MY(K:lY):R2:=λx y H Q=>∃a b z w,x=.ref a/\y=.ref b/\SqL K H a z/\SqL K H b w/\Paired (AN K H) z w/\Q (.bl false) H
def WB{X:Cx}(hu:X.A.units+64<cLine):og X (compareOp .NotEq) (MY X.K):=by
 intro c7 s z H x y v u Q I d c h;obtain⟨a,b,p,ys,rfl,rfl,Y,U,n,q⟩:=h;cases d;cases c;obtain⟨l,g,N,_⟩:=I.list Y;obtain⟨w,e,M,_⟩:=I.list U;have L:=g.length;have l2:=e.length;have m1:=nJ n;have J:l.toArray.size=w.toArray.size:=by rw[oz,oz];lia
 refine ZR N.isList M.isList J (by lia) (λj G a=>?_) #[.bl false,H,I,rfl,q];have r:j<p.length:=by simpa[L]using G
 obtain⟨y,o,E⟩:=Paired.get n (i:=j) (a:=p[j]) (by simp[r]);obtain⟨D,C,B⟩:=g.get (i:=j) (x:=p[j]) (by simp[r]);obtain⟨A,f2,g2⟩:=e.get (i:=j) (x:=y) o;have e1:l.toArray[j]=D:=by
  obtain⟨_,this⟩:=pr.mp C;simpa using this
 have o:w.toArray[j]=A:=by
  obtain⟨_,this⟩:=pr.mp f2;simpa using this
 rw[e1,o];show E.eqIn I B g2 (by rw[Xu];lia)
def Nc(K:lY):R2:=λx y H Q=>∃a w z,x=.ref a/\y=.str z/\SqT K H a w/\Q (.bl false) H
def SA{X:Cx}(j:X.A.units+64<cLine):og X (compareOp .Eq) (Nc X.K):=by
 intro i s z H x y v u Q I r p h;obtain⟨a,g,w,rfl,rfl,o,q⟩:=h;cases r;obtain⟨t,rfl⟩:=(show ∃t,u=Value.str w t from p)
 obtain⟨n,g,l,_⟩:=I.tuple o;show SeqAt.RcAt.tuple_str w t (show s.heap.IsTuple a n.toArray from l) (by lia) _ _ _ _ #[.bl false,H,I,rfl,q]
def KO(K:lY):R2:=λx y H Q=>Ax K x y H Q\/Nc K x y H Q
def Yi8{X:Cx}{k:Nat}(z:Y8 k X.A):og X (compareOp .Eq) (KO X.K):=(CV z).or (SA z.units)
def Wx{X:Cx}{K:lY}{a b:me}{z y:TE}{pos:Pos}(x:X.K=K)(w:PE X a z)(u:PE X b y)(s:Ez b:=by show λ_ _=>rfl):PE X (.Subscript a b pos) (qK (yt K) z y):=by subst x;show Oi Kn w u s
def mQ{n:Nat}(h:n<=1000:=by simp):n<=sizeLine:=sz h
end L2
namespace L2
def pz{z:Sort u}{p R:z->Prop}{w:z}(h:p w)(k:R w):∃x,p x/\R x:=#[w,h,k]
def wz{z:Sort u}{y:Sort v}{p R:z->y->Prop}{q:z->y->Prop}{w:z}{s:y}(h:p w s)(g:q w s)(k:R w s):∃x r,p x r/\q x r/\R x r:=#[w,s,h,g,k]
end L2
def nO:=@L2.Paired.mapP
def pN:=@L2.PW.pt
def mU:=@L2.SqL.of
def mW:=@L2.SqT.of
def pO:=@L2.mF.refl
def oR:=@L2.X3.set
def qf:=@L2.WS.of
def rc:=@L2.WE.of
def mP:=@L2.WSs.step
def mS:=@L2.WSs.last
def qh:=@L2.WSs.cut
def vL:=@L2.Im.tup
def vK:=@L2.Im.lst
def oQ:=@L2.Paired.get
def pj:=@L2.Paired.append
def oU:=@L2.mF.new
def yK:=@L2.mF.thaw
namespace K65
open PySem L2 NM
def ny(i:Nat):lZ:=PySem.Challenge.pw_yardkeep_k65_turned_and_shown.main.body.getD i<|.Pass #[0,0,0,0]
abbrev XN:lZ:=Z7 (ny 7) 0
abbrev Zkx:lZ:=Z7 (ny 8) 0
abbrev Tl:lZ:=Z7 (ny 9) 0
abbrev Ux:lZ:=ny 16
abbrev XY:lZ:=Z7 (ny 17) 0
abbrev TB:lZ:=Z7 (ny 17) 1
abbrev Zs9:lZ:=Z7 (ny 17) 2
abbrev Us:lZ:=Z7 (ny 17) 3
abbrev Wc:lZ:=Z7 (ny 17) 4
def EZ:Zx ["self","end","lie","one","two"] ["self","end","lie"] (Zk Wc):={}
abbrev Uo:lZ:=Z7 (ny 17) 5
abbrev Rr:lZ:=Z7 (ny 19) 0
abbrev Zq3:lZ:=Z7 (ny 19) 1
abbrev Rf:lZ:=Z7 (ny 21) 0
abbrev VI:lZ:=Z7 (ny 21) 1
abbrev SQ:lZ:=Z7 (ny 21) 2
abbrev Rb:lZ:=Z7 (ny 21) 3
abbrev Zrd:lZ:=Z7 (ny 22) 0
abbrev Ti:lZ:=Z7 (ny 22) 1
abbrev UV:lZ:=Z7 (ny 22) 2
abbrev YW:lZ:=ny 26
abbrev Zup:lZ:=ny 27
abbrev JY:lZ:=ny 28
def Kc:ue ["name","known"] JY:={}
abbrev Ko:lZ:=ny 29
def Gw:Zx ["parts","part_of","part"] ["parts"] (Zk Ko):={}
abbrev Qh:lZ:=ny 30
def X9:Zx ["part_of","part_at","name","part","end"] ["part_of"] (Zk Qh):={}
abbrev NC:lZ:=ny 31
def Og:Zx ["join","part_at","joined","end"] ["join","part_at","joined"] (Zk NC):={}
abbrev QI:lZ:=ny 32
def EM:Zx ["joins","part_at","joined","join"] ["joins","part_at"] (Zk QI):={}
abbrev TN:lZ:=ny 33
abbrev Lx:lZ:=ny 34
def AQ:Zx ["signals","part_at","post_of","signal","name","end"] ["signals","part_at"] (Zk Lx):={}
abbrev Y2:lZ:=Z7 (ny 35) 0
def Iq:Zx ["self","parts","joins","signals","asked_signals","part_at"] ["self","parts","joins","signals"] (Zk Y2):={}
abbrev Sa:lZ:=Z7 (ny 35) 1
abbrev XH:lZ:=Z7 (ny 35) 2
abbrev RT:lZ:=Z7 (ny 35) 3
abbrev VL:lZ:=Z7 (ny 35) 4
abbrev Th:lZ:=Z7 (ny 35) 5
abbrev JA:lZ:=Z7 (ny 35) 6
def Nh:ue ["self","signal"] JA:={}
abbrev Sr:lZ:=ny 36
abbrev Zsp:lZ:=ny 37
abbrev TX:lZ:=ny 38
abbrev Mm:lZ:=ny 41
def MR:ue ["tracks","gate"] Mm:={}
abbrev Mp:lZ:=ny 42
def ND:ue ["long"] Mp:={}
abbrev SU:lZ:=ny 43
abbrev Zh4:lZ:=Z7 (ny 46) 0
abbrev Kk:lZ:=ny 49
def W4:Zx ["tracks","end","name","entry","part","steps"] ["tracks","end"] (Zk Kk):={}
abbrev Zrj:lZ:=ny 50
abbrev XR:lZ:=ny 51
abbrev Vp:lZ:=ny 52
abbrev Vj:lZ:=ny 54
abbrev Oj:lZ:=ny 55
def HJ:Zx ["paths","part","train","path"] ["paths","part"] (Zk Oj):={}
abbrev KR:lZ:=ny 56
def Hx:Zx ["paths","steps","ahead","part"] ["paths","steps"] (Zk KR):={}
abbrev Bo:lZ:=ny 57
def OO:Zx ["paths","train","steps","told"] ["paths","train","steps"] (Zk Bo):={}
abbrev Td:lZ:=ny 58
abbrev OS:lZ:=ny 61
def DI:Zx ["tracks","begun","post","last","passed"] ["tracks","begun"] (Zk OS):={}
abbrev Jr:lZ:=ny 62
def Wp:Zx ["tracks","signal","found","begun","ahead","step"] ["tracks","signal"] (Zk Jr):={}
abbrev Ji:lZ:=ny 63
def MX:Zx ["tracks","thing","place"] ["tracks","thing"] (Zk Ji):={}
abbrev RU:lZ:=ny 64
abbrev Xw:lZ:=ny 66
def Zp9:ue ["part"] Xw:={}
abbrev Xm:lZ:=ny 67
def Um:ue ["part"] Xm:={}
abbrev Yz:lZ:=ny 68
def UU:ue ["part"] Yz:={}
abbrev Xx:lZ:=ny 69
def IN:Zx ["part","lie","stiff"] ["part","lie"] (Zk Xx):={}
abbrev Oa:lZ:=ny 70
def GE:Zx ["route","rules","step"] ["route"] (Zk Oa):={}
abbrev NV:lZ:=ny 71
def FL:Zx ["rules","ground","rule","told"] ["rules","ground"] (Zk NV):={}
abbrev MN:lZ:=ny 73
def Jk:Zx ["lies","route","told"] ["lies","route"] (Zk MN):={}
abbrev Nw:lZ:=ny 75
def EV:ue ["told"] Nw:={}
abbrev ZE:lZ:=Z7 (ny 76) 0
abbrev W1:lZ:=Z7 (ny 76) 1
def Wy:ue ["self","train"] W1:={}
abbrev Zkf:lZ:=Z7 (ny 76) 2
abbrev Md:lZ:=Z7 (ny 76) 3
def Ol:ue ["self","train","length","gate","seen"] Md:={}
abbrev IR:lZ:=Z7 (ny 76) 4
def KS:Zx ["self","train","route","seen","path"] ["self","train","route","seen"] (Zk IR):={}
abbrev YL:lZ:=Z7 (ny 76) 6
abbrev MH:lZ:=Z7 (ny 76) 9
def El:Zx ["self","train","path"] ["self","train"] (Zk MH):={}
abbrev Zmu:lZ:=Z7 (ny 76) 10
abbrev LU:lZ:=Z7 (ny 76) 11
def Wg:Zx ["self","signal","end","path"] ["self","signal"] (Zk LU):={}
abbrev LH:lZ:=Z7 (ny 76) 12
def QM:ue ["self","train"] LH:={}
abbrev UZ:lZ:=Z7 (ny 76) 13
abbrev Ug:lZ:=Z7 (ny 76) 14
abbrev VS:lZ:=Z7 (ny 76) 15
abbrev Zkw:lZ:=Z7 (ny 76) 16
abbrev Zkg:lZ:=Z7 (ny 76) 17
abbrev Qe:lZ:=ny 78
def OF:Zx ["_law_cell","_law_k","_law_left"] ["_law_cell","_law_k"] (Zk Qe):={}
abbrev WA:lZ:=ny 79
abbrev To:lZ:=ny 80
abbrev Zsv:lZ:=ny 81
abbrev KY:lZ:=ny 82
def Fc:Zx ["_law_kind","_law_cell","_law_k","_law_letters","_law_signs"] ["_law_kind","_law_cell","_law_k"] (Zk KY):={}
abbrev LW:lZ:=ny 83
def Z6:Zx ["_law_cell","_law_names","_law_one","_law_two","_law_three","_law_four","_law_way","_law_ends_here","_law_far","_law_joins","_law_parts","_law_turn","_law_aside","_law_rest"] ["_law_cell","_law_names"] (Zk LW):={}
abbrev Qd:lZ:=ny 84
def Y0:Zx ["_law_cells_here","_law_parts","_law_joins","_law_end","_law_k","_law_cell","_law_names","_law_j","_law_block_here"] ["_law_cells_here"] (Zk Qd):={}
abbrev MC:lZ:=ny 85
def Dj:Zx ["_law_parts","_law_joins","_law_rest","_law_cell","_law_j","_law_end","_law_name"] ["_law_parts","_law_joins","_law_rest","_law_cell"] (Zk MC):={}
abbrev Kb:lZ:=ny 86
def Ym:Zx ["_law_cells_here","_law_parts","_law_joins","_law_rest","_law_k","_law_cell","_law_kind","_law_ends_here","_law_name","_law_fresh","_law_near","_law_other"] ["_law_cells_here"] (Zk Kb):={}
abbrev Nu:lZ:=ny 87
def Ya:Zx ["_law_parts","_law_cell","_law_letters","_law_ends_here","_law_kind","_law_name","_law_end","_law_found","_law_k","_law_draw","_law_signs"] ["_law_parts","_law_cell"] (Zk Nu):={}
abbrev Ow:lZ:=ny 88
def Xj:Zx ["_law_cells_here","_law_cell","_law_found","_law_parts","_law_joins","_law_at"] ["_law_cells_here","_law_cell"] (Zk Ow):={}
abbrev Ta:lZ:=ny 89
abbrev Zn0:lZ:=ny 90
abbrev KB:lZ:=ny 91
def Xo:Zx ["_law_doing","e","_law_kinds","_law_words","_law_word"] ["_law_doing"] (Zk KB):={}
abbrev Ni:lZ:=ny 92
def PX:Zx ["_law_keeper","_law_told"] ["_law_keeper"] (Zk Ni):={}
abbrev Kh:lZ:=ny 93
def Yk:Zx ["_law_yard","_law_cells_here","_law_tracks_here","_law_gates","_law_kind","_law_one","_law_points","_law_k","_law_came","_law_turn","_law_cell","_law_gate","_law_keeper","_law_name"] ["_law_yard","_law_cells_here"] (Zk Kh):={}
abbrev Qp:lZ:=ny 94
def yd:Zx ["_law_keeper","_law_tracks_here","_law_name","_law_cell","_law_seen","_law_step","_law_signal","_law_ways","_law_way"] ["_law_keeper","_law_tracks_here","_law_name","_law_cell","_law_seen"] (Zk Qp):={}
abbrev JT:lZ:=ny 95
def Bh:Zx ["_law_keeper","_law_tracks_here","_law_name","_law_ahead","_law_state_here","_law_first"] ["_law_keeper","_law_tracks_here","_law_name"] (Zk JT):={}
abbrev Jn:lZ:=ny 96
def Xn:Zx ["_law_keeper","_law_tracks_here","_law_cell","_law_ends_here","_law_name","_law_signals","_law_k","_law_row","_law_some"] ["_law_keeper","_law_tracks_here","_law_cell"] (Zk Jn):={}
abbrev vF:lZ:=ny 97
def sZ:Zx ["_law_script","_law_yard","_law_k","_law_begun_here","_law_keeper","_law_tracks_here","_law_held","_law_rest","_law_cell","_law_names","_law_name"] ["_law_script"] (Zk vF):={}
set_option genInjectivity false in
set_option genSizeOf false in
structure Tx(K:Frag)(mg:Str->Option Value) where
 aR:Dn K "__init__" "Held.__init__" XN ["self","part"]
 bI:Dn K "__init__" "Seen.__init__" Zkx ["self","part"]
 bq:Dn K "__init__" "Stiff.__init__" Tl ["self","part"]
 gn:DG K mg "is_name" Ux ["thing"]
 aq:Dn K "__init__" "Part.__init__" XY ["self","name"]
 cD:Dn K "ends" "Part.ends" TB ["self"]
 aS:Dn K "lies" "Part.lies" Zs9 ["self"]
 cp:Dn K "pairs" "Part.pairs" Us ["self","lie"]
 aU:xM K "leads" "Part.leads" Wc ["self","end","lie"] (.str "")
 aV:Dn K "bears" "Part.bears" Uo ["self"]
 cE:Dn K "ends" "Stop.ends" Rr ["self"]
 cq:Dn K "pairs" "Stop.pairs" Zq3 ["self","lie"]
 cL:Dn K "ends" "Points.ends" Rf ["self"]
 cM:Dn K "lies" "Points.lies" VI ["self"]
 cG:Dn K "pairs" "Points.pairs" SQ ["self","lie"]
 cH:Dn K "bears" "Points.bears" Rb ["self"]
 cV:Dn K "ends" "Cross.ends" Zrd ["self"]
 cN:Dn K "pairs" "Cross.pairs" Ti ["self","lie"]
 cO:Dn K "bears" "Cross.bears" UV ["self"]
 gq:DG K mg "is_pair" YW ["thing"]
 fz:DG K mg "is_known" Zup ["end","ends"]
 aM:DG K mg "refuse_name" JY ["name","known"]
 dA:DG K mg "parts_by_name" Ko ["parts"]
 dB:DG K mg "ends_to_parts" Qh ["part_of"]
 dS:DG K mg "refuse_join" NC ["join","part_at","joined"]
 dU:DG K mg "joined_ends" QI ["joins","part_at"]
 dW:DG K mg "refuse_post" TN ["end","part_at","ends_with_signals"]
 fA:DG K mg "posts_of" Lx ["signals","part_at"]
 bQ:xM K "__init__" "Tracks.__init__" Y2 ["self","parts","joins","signals"] .non
 bV:Dn K "names" "Tracks.names" Sa ["self"]
 br:Dn K "named" "Tracks.named" XH ["self","name"]
 bg:Dn K "beyond" "Tracks.beyond" RT ["self","end"]
 ar:Dn K "signal_at" "Tracks.signal_at" VL ["self","end"]
 bt:Dn K "signals" "Tracks.signals" Th ["self"]
 au:Dn K "end_of" "Tracks.end_of" JA ["self","signal"]
 fE:DG K mg "gates_of" Sr ["tracks"]
 eZ:DG K mg "points_of" Zsp ["tracks"]
 dC:DG K mg "lies_at_first" TX ["tracks"]
 aN:DG K mg "refuse_gate" Mm ["tracks","gate"]
 aE:DG K mg "refuse_length" Mp ["long"]
 dD:DG K mg "refuse_points" SU ["tracks","points"]
 bR:Dn K "__init__" "Ground.__init__" Zh4 ["self","lie_of","stiff_ones","path_of","told"]
 ez:DG K mg "steps_into" Kk ["tracks","end"]
 eF:DG K mg "end_behind" Zrj ["step"]
 eG:DG K mg "ends_there" XR ["tracks","step"]
 fF:DG K mg "backward" Vp ["step"]
 fG:DG K mg "parts_of" Vj ["steps"]
 gW:DG K mg "holder" Oj ["paths","part"]
 bO:DG K mg "refuse_held" KR ["paths","steps"]
 cx:DG K mg "longer" Bo ["paths","train","steps"]
 dX:DG K mg "turned_path" Td ["path"]
 fH:DG K mg "steps_on" OS ["tracks","begun"]
 dY:DG K mg "routes_from" Jr ["tracks","signal"]
 fJ:DG K mg "is_route" Ji ["tracks","thing"]
 gw:DG K mg "lies_of" RU ["route"]
 dF:DG K mg "rule_held" Xw ["part"]
 dm:DG K mg "rule_taken" Xm ["part"]
 dq:DG K mg "rule_stiff" Yz ["part"]
 dG:DG K mg "rule_lies" Xx ["part","lie"]
 fK:DG K mg "rules_of" Oa ["route"]
 gx:DG K mg "against" NV ["rules","ground"]
 iF:DG K mg "laid" MN ["lies","route"]
 aj:DG K mg "refuse_against" Nw ["told"]
 bS:Dn K "__init__" "Keeper.__init__" ZE ["self","tracks"]
 ag:Dn K "refuse_no_train" "Keeper.refuse_no_train" W1 ["self","train"]
 bh:Dn K "ground" "Keeper.ground" Zkf ["self","seen"]
 aG:Dn K "come" "Keeper.come" Md ["self","train","length","gate","seen"]
 bu:Dn K "set_way" "Keeper.set_way" IR ["self","train","route","seen"]
 cw:Dn K "stiffen" "Keeper.stiffen" YL ["self","points"]
 aO:Dn K "about" "Keeper.about" MH ["self","train"]
 cI:Dn K "leave" "Keeper.leave" Zmu ["self","train"]
 aH:Dn K "shows" "Keeper.shows" LU ["self","signal"]
 ax:Dn K "path" "Keeper.path" LH ["self","train"]
 aY:Dn K "paths" "Keeper.paths" UZ ["self"]
 bo:Dn K "lies" "Keeper.lies" Ug ["self"]
 bf:Dn K "stiff" "Keeper.stiff" VS ["self"]
 cy:Dn K "length" "Keeper.length" Zkw ["self","train"]
 aF:Dn K "trains" "Keeper.trains" Zkg ["self"]
 ap:DG K mg "_law_mixed" Qe ["_law_cell","_law_k"]
 az:DG K mg "_law_cell_at" WA ["_law_script","_law_k"]
 eI:DG K mg "_law_cells" To ["_law_script","_law_at","_law_end"]
 ff:DG K mg "_law_ends" Zsv ["_law_kind"]
 dH:DG K mg "_law_name_by" KY ["_law_kind","_law_cell","_law_k"]
 eJ:DG K mg "_law_block" LW ["_law_cell","_law_names"]
 fg:DG K mg "_law_line" Qd ["_law_cells_here"]
 dZ:DG K mg "_law_closed" MC ["_law_parts","_law_joins","_law_rest","_law_cell"]
 eK:DG K mg "_law_drawn" Kb ["_law_cells_here"]
 df:DG K mg "_law_signals_by" Nu ["_law_parts","_law_cell"]
 dI:DG K mg "_law_yard_by" Ow ["_law_cells_here","_law_cell"]
 fh:DG K mg "_law_part" Ta ["_law_kind","_law_name"]
 ef:DG K mg "_law_tracks" Zn0 ["_law_yard"]
 am:DG K mg "_law_caught" KB ["_law_doing"]
 eL:DG K mg "_law_state" Ni ["_law_keeper"]
 du:DG K mg "_law_begun" Kh ["_law_yard","_law_cells_here"]
 eu:DG K mg "_law_led" Qp ["_law_keeper","_law_tracks_here","_law_name","_law_cell","_law_seen"]
 dv:DG K mg "_law_about" JT ["_law_keeper","_law_tracks_here","_law_name"]
 dw:DG K mg "_law_shown" Jn ["_law_keeper","_law_tracks_here","_law_cell"]
 {cW:Addr}
 jY:mg "Part"=some (.ref cW)
 gz:pR K cW
 ij:mX K cW "name"
 jT:Mk K cW aq.f
 gX:Y3 K cW "ends" cD.f
 gY:Y3 K cW "lies" aS.f
 gA:Y3 K cW "pairs" cp.f
 gB:Y3 K cW "bears" aV.f
 gC:Y3 K cW "leads" aU.f
 {bW:Addr}
 jj:mg "Plain"=some (.ref bW)
 eM:pR K bW
 fi:mX K bW "name"
 iS:Mk K bW aq.f
 gD:Y3 K bW "ends" cD.f
 gE:Y3 K bW "lies" aS.f
 gc:Y3 K bW "pairs" cp.f
 ge:Y3 K bW "bears" aV.f
 gf:Y3 K bW "leads" aU.f
 {bJ:Addr}
 je:mg "Stop"=some (.ref bJ)
 fL:pR K bJ
 fM:mX K bJ "name"
 jk:Mk K bJ aq.f
 gZ:Y3 K bJ "ends" cE.f
 hU:Y3 K bJ "lies" aS.f
 gF:Y3 K bJ "pairs" cq.f
 gG:Y3 K bJ "bears" aV.f
 gH:Y3 K bJ "leads" aU.f
 {bK:Addr}
 jf:mg "Gate"=some (.ref bK)
 fN:pR K bK
 fO:mX K bK "name"
 jp:Mk K bK aq.f
 hW:Y3 K bK "ends" cE.f
 hZ:Y3 K bK "lies" aS.f
 gI:Y3 K bK "pairs" cq.f
 gJ:Y3 K bK "bears" aV.f
 gK:Y3 K bK "leads" aU.f
 {aI:Addr}
 ix:mg "Points"=some (.ref aI)
 dJ:pR K aI
 eN:mX K aI "name"
 iG:Mk K aI aq.f
 gh:Y3 K aI "ends" cL.f
 gi:Y3 K aI "lies" cM.f
 fP:Y3 K aI "pairs" cG.f
 fQ:Y3 K aI "bears" cH.f
 fR:Y3 K aI "leads" aU.f
 {bX:Addr}
 jq:mg "Cross"=some (.ref bX)
 eO:pR K bX
 fk:mX K bX "name"
 iT:Mk K bX aq.f
 gL:Y3 K bX "ends" cV.f
 gM:Y3 K bX "lies" aS.f
 gj:Y3 K bX "pairs" cN.f
 gk:Y3 K bX "bears" cO.f
 gm:Y3 K bX "leads" aU.f
 {aW:Addr}
 iU:mg "Tracks"=some (.ref aW)
 ak:pR K aW
 bM:mX K aW "part_of"
 cJ:mX K aW "joined"
 bi:mX K aW "post_of"
 bT:mX K aW "signal_on"
 iH:Mk K aW bQ.f
 dL:Y3 K aW "names" bV.f
 cY:Y3 K aW "named" br.f
 cS:Y3 K aW "beyond" bg.f
 aK:Y3 K aW "signal_at" ar.f
 dg:Y3 K aW "signals" bt.f
 cz:Y3 K aW "end_of" au.f
 {cP:Addr}
 iV:mg "Ground"=some (.ref cP)
 dM:pR K cP
 dN:mX K cP "lie_of"
 cZ:mX K cP "stiff_ones"
 dE:mX K cP "path_of"
 eP:mX K cP "told"
 iI:Mk K cP bR.f
 {aJ:Addr}
 iW:mg "Keeper"=some (.ref aJ)
 ae:pR K aJ
 aB:mX K aJ "tracks"
 bY:mX K aJ "lie_of"
 bx:mX K aJ "stiff_ones"
 bU:mX K aJ "length_of"
 ao:mX K aJ "path_of"
 iJ:Mk K aJ bS.f
 aX:Y3 K aJ "refuse_no_train" ag.f
 cT:Y3 K aJ "ground" bh.f
 ei:Y3 K aJ "come" aG.f
 eU:Y3 K aJ "set_way" bu.f
 eV:Y3 K aJ "stiffen" cw.f
 de:Y3 K aJ "about" aO.f
 fS:Y3 K aJ "leave" cI.f
 dO:Y3 K aJ "shows" aH.f
 bP:Y3 K aJ "path" ax.f
 ci:Y3 K aJ "paths" aY.f
 cQ:Y3 K aJ "lies" bo.f
 cK:Y3 K aJ "stiff" bf.f
 fw:Y3 K aJ "length" cy.f
 ba:Y3 K aJ "trains" aF.f
 {ay:Addr}
 ik:mg "YardError"=some (.ref ay)
 {aw:Addr}
 iK:mg "BadName"=some (.ref aw)
 {bz:Addr}
 iX:mg "BadEnd"=some (.ref bz)
 {bv:Addr}
 iL:mg "TooMany"=some (.ref bv)
 {aD:Addr}
 iM:mg "NoTrain"=some (.ref aD)
 {aQ:Addr}
 iY:mg "BadWay"=some (.ref aQ)
 {aL:Addr}
 iZ:mg "NoTurn"=some (.ref aL)
 {aZ:Addr}
 ib:mg "Held"=some (.ref aZ)
 {cU:Addr}
 jg:mg "Seen"=some (.ref cU)
 {aT:Addr}
 iN:mg "Stiff"=some (.ref aT)
 bw:mg "len"=none
 dz:mg "range"=none
 af:mg "isinstance"=none
 fT:mg "list"=none
 eW:mg "dict"=none
 iy:mg "tuple"=none
 fm:mg "str"=none
 cR:mg "enumerate"=none
 jE:mg "max"=none
 jF:mg "min"=none
 jG:mg "sum"=none
 dh:mg "sorted"=none
 jH:mg "all"=none
 fU:mg "bool"=none
 fV:mg "int"=none
 gN:mg "repr"=none
 gO:mg "ValueError"=none
 il:mg "reversed"=none
 jZ:kitOne K (.type "tuple") (.type "tuple")=some true
 jU:kitOne K (.type "str") (.type "str")=some true
 kg:kitOne K (.type "NoneType") (.type "str")=some false
 ke:kitOne K (.type "int") (.type "int")=some true
 kf:kitOne K (.type "int") (.type "bool")=some false
 kh:kitOne K (.type "bool") (.type "int")=some true
 ki:kitOne K (.type "bool") (.type "bool")=some true
 kl:kitOne K (.type "NoneType") (.type "int")=some false
 kn:kitOne K (.type "str") (.type "int")=some false
 kq:kitOne K (.type "int") (.type "str")=some false
 jI:kB K cW bJ false
 jt:kB K bW bJ false
 jJ:kB K bJ bJ true
 jK:kB K bK bJ true
 ja:kB K aI bJ false
 ju:kB K bX bJ false
 jL:kB K cW bK false
 jv:kB K bW bK false
 jM:kB K bJ bK false
 jN:kB K bK bK true
 jb:kB K aI bK false
 jw:kB K bX bK false
 jO:kB K cW aI false
 jx:kB K bW aI false
 jP:kB K bJ aI false
 jQ:kB K bK aI false
 jc:kB K aI aI true
 jy:kB K bX aI false
 kr:kB K aw aw true
 kt:kB K aw bz false
 ku:kB K aw bv false
 ky:kB K aw aD false
 kz:kB K aw aQ false
 kE:kB K aw aL false
 kG:kB K aw aZ false
 kH:kB K aw cU false
 kI:kB K aw aT false
 jh:kB K aD aw false
 jz:kB K aD bz false
 jR:kB K aD bv false
 ji:kB K aD aD true
 iE:kB K aD aQ false
 kJ:kB K aD aL false
 jV:kB K aD aZ false
 jW:kB K aD cU false
 kK:kB K aD aT false
 kL:kB K aQ aw false
 kM:kB K aQ bz false
 kN:kB K aQ bv false
 kO:kB K aQ aD false
 kP:kB K aQ aQ true
 kQ:kB K aQ aL false
 kR:kB K aQ aZ false
 kS:kB K aQ cU false
 kT:kB K aQ aT false
 kU:kB K aL aw false
 kW:kB K aL bz false
 kX:kB K aL bv false
 kY:kB K aL aD false
 kZ:kB K aL aQ false
 lh:kB K aL aL true
 li:kB K aL aZ false
 lq:kB K aL cU false
 lu:kB K aL aT false
 lv:kB K aZ aw false
 ly:kB K aZ bz false
 lz:kB K aZ bv false
 lB:kB K aZ aD false
 lC:kB K aZ aQ false
 lD:kB K aZ aL false
 lE:kB K aZ aZ true
 lF:kB K aZ cU false
 lG:kB K aZ aT false
 lH:kB K aT aw false
 lI:kB K aT bz false
 lJ:kB K aT bv false
 lK:kB K aT aD false
 lL:kB K aT aQ false
 lM:kB K aT aL false
 lN:kB K aT aZ false
 lO:kB K aT cU false
 lP:kB K aT aT true
 c0:PySem.W.kitCls K (.ref aw) (.ref ay)=some true
 c1:PySem.W.kitCls K (.ref aD) (.ref ay)=some true
 c2:PySem.W.kitCls K (.ref aQ) (.ref ay)=some true
 c3:PySem.W.kitCls K (.ref aL) (.ref ay)=some true
 c4:PySem.W.kitCls K (.ref aZ) (.ref ay)=some true
 c5:PySem.W.kitCls K (.ref aT) (.ref ay)=some true
 v0:kitOne K (.ref aw) (.type "ValueError")=some true
 v1:kitOne K (.ref aD) (.type "ValueError")=some true
 v2:kitOne K (.ref aQ) (.type "ValueError")=some true
 v3:kitOne K (.ref aL) (.type "ValueError")=some true
 v4:kitOne K (.ref aZ) (.type "ValueError")=some true
 v5:kitOne K (.ref aT) (.type "ValueError")=some true
 lQ:kitOne K (.ref ay) (.type "BaseException")=some true
 cF:OE K mg "YardError" ay
 dR:OE K mg "BadName" aw
 ic:OE K mg "BadEnd" bz
 di:OE K mg "TooMany" bv
 iz:OE K mg "NoTrain" aD
 ig:OE K mg "BadWay" aQ
 iO:OE K mg "NoTurn" aL
 dP:XI K aZ ay aR.f "part"
 jC:XG K aZ
 gP:XI K cU ay bI.f "part"
 jX:XG K cU
 eQ:XI K aT ay bq.f "part"
 jd:XG K aT
 gy:∃tk,mg "LETTERS"=some (.str "abcdefghijklmnopqrstuvwxyz" tk)
 iA:∃tk,mg "FIGURES"=some (.str "0123456789" tk)
 iC:XG K aw
 jS:XG K bz
 jD:XG K bv
 iD:XG K aD
 iP:XG K aQ
 iQ:XG K aL
 fW:∃tk,mg "LONGEST_NAME"=some (.int 6 tk)
 gQ:∃tk,mg "MOST_PARTS"=some (.int 40 tk)
 fX:∃tk,mg "MOST_SIGNALS"=some (.int 40 tk)
 bN:∃tk,mg "LONGEST_TRAIN"=some (.int 4 tk)
 gR:∃tk,mg "MOST_STEPS"=some (.int 12 tk)
 {dQ:Addr}
 ii:mg "NO_END"=some (.ref dQ)
 iR:∀H:Hp,SqT K H dQ ([.str "",.str ""]:List V)
 tG:PySem.W.specialIn K (.builtin "object.__class__") "__get__"=some (some<|.builtin "getset_descriptor.__get__")
 tK:PySem.W.takesIn K (.builtin "object.__class__")=some true
 io:cB K cW
 ip:PySem.W.mroIn K cW (.type "object")=some true
 gS:cB K bW
 gT:PySem.W.mroIn K bW (.type "object")=some true
 iq:cB K bJ
 ir:PySem.W.mroIn K bJ (.type "object")=some true
 iu:cB K bK
 iw:PySem.W.mroIn K bK (.type "object")=some true
 fY:cB K aI
 fZ:PySem.W.mroIn K aI (.type "object")=some true
 gU:cB K bX
 gV:PySem.W.mroIn K bX (.type "object")=some true
 lR:(Value.ref aZ ==Value.ref ay)=false
 {cj:Addr}
 eR:tT K dF.fd cj
 {bA:Addr}
 ej:tT K dm.fd bA
 {bn:Addr}
 ek:tT K dq.fd bn
 {ck:Addr}
 eS:tT K dG.fd ck
 {bF:Addr}
 em:tT K du.fd bF
 {cA:Addr}
 ft:tT K eu.fd cA
 {bd:Addr}
 er:tT K dv.fd bd
 {bH:Addr}
 et:tT K dw.fd bH
section
variable {P:mh} {w:md} {K:lY} {mg:lT->lX lV} {mG:ma} (T:Tx K mg)
seal PySem.wpAny
structure qD(T:Tx K mg)(H:Hp):Prop where
 rule_held:H T.cj=some (.tbl<|sr (sS<|oZ Xw)<|("rule_held":Str)++".<locals>."++"<lambda>")
 rule_taken:H T.bA=some (.tbl<|sr (sS<|oZ Xm)<|("rule_taken":Str)++".<locals>."++"<lambda>")
 rule_stiff:H T.bn=some (.tbl<|sr (sS<|oZ Yz)<|("rule_stiff":Str)++".<locals>."++"<lambda>")
 rule_lies:H T.ck=some (.tbl<|sr (sS<|oZ Xx)<|("rule_lies":Str)++".<locals>."++"<lambda>")
 _law_begun:H T.bF=some (.tbl<|Xk [(571,36,("_law_begun":Str)++".<locals>."++"<lambda>")])
 _law_led:H T.cA=some (.tbl<|Xk [(584,34,("_law_led":Str)++".<locals>."++"<lambda>")])
 _law_about:H T.bd=some (.tbl<|Xk [(589,27,("_law_about":Str)++".<locals>."++"<lambda>"),(592,27,("_law_about":Str)++".<locals>."++"<lambda>"),(593,19,("_law_about":Str)++".<locals>."++"<lambda>")])
 _law_shown:H T.bH=some (.tbl<|Xk [(607,23,("_law_shown":Str)++".<locals>."++"<lambda>")])
def qD.mono{T:Tx K mg}{H z:Hp}(e:mF H z)(h:qD T H):qD T z:=#[e _ _ h.rule_held,e _ _ h.rule_taken,e _ _ h.rule_stiff,e _ _ h.rule_lies,e _ _ h._law_begun,e _ _ h._law_led,e _ _ h._law_about,e _ _ h._law_shown]
abbrev Tx.tabs(T:Tx K mg):lS (lU×Array lV):=[(T.cj,(sr (sS<|oZ Xw)<|("rule_held":lT)++".<locals>."++"<lambda>")),(T.bA,(sr (sS<|oZ Xm)<|("rule_taken":lT)++".<locals>."++"<lambda>")),(T.bn,(sr (sS<|oZ Yz)<|("rule_stiff":lT)++".<locals>."++"<lambda>")),(T.ck,(sr (sS<|oZ Xx)<|("rule_lies":lT)++".<locals>."++"<lambda>")),(T.bF,(Xk [(571,36,("_law_begun":lT)++".<locals>."++"<lambda>")])),(T.cA,(Xk [(584,34,("_law_led":lT)++".<locals>."++"<lambda>")])),(T.bd,(Xk [(589,27,("_law_about":lT)++".<locals>."++"<lambda>"),(592,27,("_law_about":lT)++".<locals>."++"<lambda>"),(593,19,("_law_about":lT)++".<locals>."++"<lambda>")])),(T.bH,(Xk [(607,23,("_law_shown":lT)++".<locals>."++"<lambda>")]))]
def qD.of{T:Tx K mg}{H:Hp}(h:∀p∈T.tabs,H p.1=some (.tbl p.2)):qD T H:=#[h (T.cj,(sr (sS<|oZ Xw)<|("rule_held":lT)++".<locals>."++"<lambda>")) (by simp),h (T.bA,(sr (sS<|oZ Xm)<|("rule_taken":lT)++".<locals>."++"<lambda>")) (by simp),h (T.bn,(sr (sS<|oZ Yz)<|("rule_stiff":lT)++".<locals>."++"<lambda>")) (by simp),h (T.ck,(sr (sS<|oZ Xx)<|("rule_lies":lT)++".<locals>."++"<lambda>")) (by simp),h (T.bF,(Xk [(571,36,("_law_begun":lT)++".<locals>."++"<lambda>")])) (by simp),h (T.cA,(Xk [(584,34,("_law_led":lT)++".<locals>."++"<lambda>")])) (by simp),h (T.bd,(Xk [(589,27,("_law_about":lT)++".<locals>."++"<lambda>"),(592,27,("_law_about":lT)++".<locals>."++"<lambda>"),(593,19,("_law_about":lT)++".<locals>."++"<lambda>")])) (by simp),h (T.bH,(Xk [(607,23,("_law_shown":lT)++".<locals>."++"<lambda>")]))<|by simp]
open YM
inductive FM:Sp
 | mk (c k):vs=[.int c,.int k]->Q (.int<|uP c k) H->FM  vs H Q E
inductive Ed(K:lY):Sp
 | mk (a) (ns:lS Int) (k:Nat):vs=[.ref a,.int k]->SqL K H a (ns.map V.int)->Q (.int<|zJ ns k) H->Ed K vs H Q E
def YS:T.ap.O P w mg mG 1 FM:=by
 refine T.ap.F.okW OF ?_;rfl'
 ·obtain⟨c,k,rfl,q⟩:=h;intro X D;refine mP (nk 2 OF<|Zq Yn (Zq wS (Zq Wl (pv 0)<|Zq wS Ze<|pv 1) Ze) Ze) ?_;refine#[.inl #[by lk,by lk],.inl #[.inr #[by lk,by lk],(by change(0:Int)<2147483647;decide),?_]];refine mS (Zl<|Zq Yn (Zq wS (pv 2)<|Zq Wl (Zq Wl (pv 2)<|Zq wS Ze<|pv 1) Ze) Ze) ?_;refine#[.inl #[by lk,by lk],.inl<|.inl #[.inl ?_,(by change(0:Int)<2147483629;decide),q]];have z:=pY ((c+7919 * k) * 48271) (show(2147483647:Int)≠0 by lk);have y:=qg ((c+7919 * k) * 48271) (show(0:Int)<2147483647 by lk)
  constructor<;>lia
def Af(h:1<=k:=by lk):T.ap.O P w mg mG k FM:=(YS T).mono h
def Ybj:T.az.O P w mg mG 2 (Ed K):=by
 refine T.az.F.okA ?_;rfl'
 ·obtain⟨a,x,k,rfl,u,q⟩:=h;intro X D;refine mP (Zu (Ye wr (pv 1) (pI T.bw<|pv 0)<|Yq _) Zo Zj) ?_;refine(.inl #[.inl u,Yf (λy=>?_) λy=>?_])
  ·have y:=pD y;rw[mO]at y;have z:k<x.length:=by lia
   have e:x[k]? =some x[k]:=by simp[z]
   refine mS (Zl<|Xv (Af T) hr rfl T.ap.m T.ap.F.kp T.ap.b .nil Z0<|Zb (nq (pv 0)<|pv 1)<|Zb (pv 1) Za)<|.inl #[u,Zm (by rw[nR,e];rfl),x[k],k,rfl,?_];unfold zJ at q;rw[e]at q;show q
  ·have y:¬((k:Int)<((x.map V.int).length:Int)):=λz=>y<|nZ z
   rw[mO]at y;have e:x[k]? =none:=uV (by lia);unfold zJ at q;rw[e]at q;show mS (Zl Ze) q
def Ff(h:2<=k:=by lk):T.az.O P w mg mG k (Ed K):=(Ybj T).mono h
inductive Mv:Sp
 | mk (k):vs=[.str k]->(∀p H',mF H H'->H p=none->H' p=some (.lst<|(Yr k).map V.str)->Q (.ref p) H')->Mv  vs H Q E
def Mh:T.ff.O P w mg mG 1 Mv:=by
 refine T.ff.F.okA ?_;rfl'
 ·obtain⟨k,rfl,q⟩:=h;intro X D;refine mP (Zu (W0 hr (pv 0) Zg) Zo Zj)<|.inl #[rfl,Yf (λz=>?_) λz=>?_]
  ·have z:k ="points":=by simpa using z
   subst z;show mS (Zl<|Zn<|Zb Zg<|Zb Zg<|Zb Zg Za) #[mQ,λp y x u r=>q p y x u r]
  have o:¬k ="points":=by simpa using z
  refine mP (Zu (W0 hr (pv 0) Zg) Zo Zj)<|.inl #[rfl,Yf (λz=>?_) λz=>?_]
  ·have z:k ="cross":=by simpa using z
   subst z;show mS (Zl<|Zn<|Zb Zg<|Zb Zg<|Zb Zg<|Zb Zg Za) #[mQ,λp y x u r=>q p y x u r]
  have n:¬k ="cross":=by simpa using z
  refine mP (Zu (W0 hr (pv 0) Zg) Zo Zj)<|.inl #[rfl,Yf (λz=>?_) λz=>?_]
  ·have z:k ="plain":=by simpa using z
   subst z;show mS (Zl<|Zn<|Zb Zg<|Zb Zg Za) #[mQ,λp y x u r=>q p y x u r]
  have l:¬k ="plain":=by simpa using z
  show mS (Zl<|Zn<|Zb Zg Za) #[mQ,λp y x u r=>q p y x u (by unfold Yr;rw[mV o,mV n,mV l];show r)]
def AL(y:l.length=n)(x:0<=i)(u:i<n):oJ l i=some (l.getD i.toNat 0):=by
 have e:i=((i.toNat:Nat):Int):=by lia
 have z:i.toNat<l.length:=by lia
 rw[e];refine Zm ?_;rw[tI,zX,oE z]
 rfl
def sU(c:Int):Int:=c%2028+2028 * (c / 2028%2)
def Pl(c:Int):sU c%3=c%3:=by unfold sU;lia
def Uz(c:Int):sU c / 2028%3=c / 2028%2:=by unfold sU;lia
def QS(c:Int):sU c / 3%26=c / 3%26:=by unfold sU;lia
def Vm(c:Int):sU c / 78%26=c / 78%26:=by unfold sU;lia
inductive QG:Sp
 | mk (kind:lT) (c) (k:Nat):vs=[.str kind,.int c,.int k]->0<kind.length->kind.length<=100->0<=c->k<100->Q (.str<|Yt kind (sU c) k) H->QG  vs H Q E
def Mu:T.dH.O P w mg mG 1 QG:=by
 refine T.dH.F.okW Fc ?_;rfl'
 ·obtain⟨kind,c,k,rfl,u,o,e,r,q⟩:=h;intro X D;refine mP (nk 3 Fc Zg) ?_;have d:=Dm k r;refine mP (Zu (W0 hr (Zq Yn (pv 1) Ze) Ze) Zo Zj) #[(by change(0:Int)<3;decide),.inl #[rfl,Yf (λz=>?_) λz=>?_]]
  ·have z:c%3=0:=by simpa using z
   unfold Yt at q;rw[mY ((Pl c).trans z)]at q;refine mS (Zl<|Zq Wl (nq (pv 0) Ze)<|Y5 Bt (by rfl) T.fm vZ<|Zb (pv 2) Za)<|.inr<|.inr #[kind,0,kind.cps.toList.getD 0 0,rfl,rfl,sz (by lia),?_,(k:Int),rfl,FN r,.inr<|.inl<|wz rfl rfl #[sz ?_,q]]
   ·have:(0:Int)<kind.cps.toList.length:=by rw[ub];show Int.ofNat_lt.mpr u
    show AL (n:=kind.cps.toList.length) rfl (by lk) this
   ·change 1+(sv k).length<=1000;lia
  have z:¬c%3=0:=by simpa using z
  have l:=pY (c / 3) (show(26:Int)≠0 by lk);have j:=qg (c / 3) (show(0:Int)<26 by lk);have i:=pY (c / 78) (show(26:Int)≠0 by lk);have g:=qg (c / 78) (show(0:Int)<26 by lk);have a:=pY (c / 2028) (show(2:Int)≠0 by lk);have Y:=qg (c / 2028) (show(0:Int)<2 by lk);obtain⟨y,x⟩:∃y:Nat,c / 2028%2=(y:Int):=#[(c / 2028%2).toNat,by lia]
  unfold Yt at q;rw[Pl,mV z,Uz,x,zX,QS,Vm]at q;refine mP (nk 4 Fc<|Zq Wl (nq (pv 3)<|Zq Yn (Zq Ys (pv 1) Ze) Ze)<|nq (pv 3)<|Zq Yn (Zq Ys (pv 1) Ze) Ze) #[#[by lk,by lk],(by change(0:Int)<26;decide),.inr<|.inr #[_,_,sF<|c / 3%26,rfl,rfl,sz (by rw[CY];decide),(by rw[BQ];show AL (n:=26) rfl l j),?_]];refine#[#[by lk,by lk],(by change(0:Int)<26;decide),.inr<|.inr #[_,_,sF<|c / 78%26,rfl,rfl,sz (by rw[CY];decide),(by rw[BQ];show AL (n:=26) rfl i g),.inr<|.inl #[_,_,rfl,rfl,sz (by change 1+1<=1000;decide),?_]]];have U:(rX "0" y).length<=2:=by
   have:y<3:=by lia
   have hd:∀m,m<3->(rX "0" m).length<=2:=by left
   show hd y this
  have p:(#[(List.toArray [sF (c / 3%26)])]++#[(List.toArray [sF (c / 78%26)])]:lT).length=2:=by rw[pU];rfl
  refine mS (Zl<|Zq Wl (Zq Wl (pv 4)<|Zq QC Zg<|Zq Yn (Zq Ys (pv 1) Ze) Ze)<|Y5 Bt (by rfl) T.fm vZ<|Zb (pv 2) Za) #[#[by lk,by lk],(by change(0:Int)<2;decide),"0",y,rfl,by rw[<-x],by change 1 * y<=1000;lia,by lia,.inr<|.inl<|wz rfl rfl #[sz (by rw[p];lia),(k:Int),rfl,FN r,.inr<|.inl<|wz rfl rfl #[sz ?_,q]]];change _+(sv k).length<=1000;rw[pU,p];lia
def Zr(H:Hp)(t:lU)(q:Zh):Prop:=H t=some (.tup [.str q.1,.str q.2])
def Wq(H:Hp)(t:lU)(j:Zh×Zh):Prop:=∃a b,H t=some (.tup [.ref a,.ref b])/\Zr H a j.1/\Zr H b j.2
def Zw(H:Hp)(l:lU)(ps:lS Zh):Prop:=∃z:lS lU,H l=some (.lst<|z.map V.ref)/\Paired (Zr H) z ps
def Yp(H:Hp)(l:lU)(y:lS (Zh×Zh)):Prop:=∃z:lS lU,H l=some (.lst<|z.map V.ref)/\Paired (Wq H) z y
def Zr.mono(e:mF H z)(h:Zr H t q):Zr z t q:=e.at h
def Wq.mono(e:mF H z)(h:Wq H t j):Wq z t j:=let⟨a,b,y,x,u⟩:=h;#[a,b,e.at y,x.mono e,u.mono e]
def Zw.mono(e:mF H z)(h:Zw H l ps):Zw z l ps:=let⟨y,x,u⟩:=h;#[y,e.at x,nO u λ_ _ r=>r.mono e]
def Yp.mono(e:mF H z)(h:Yp H l y):Yp z l y:=let⟨x,u,s⟩:=h;#[x,e.at u,nO s λ_ _ r=>r.mono e]
inductive PN:Sp
 | mk (c nl n1 n2 n3 n4):vs=[.int c,.ref nl]->H nl=some (.lst [.str n1,.str n2,.str n3,.str n4])->(∀(t:lU)(H':Hp)(pl jl ie oe:lU)(ps:lS Zh)(js:lS (Zh×Zh)) (e1 e2:Zh),mF H H'->H' t=some (.tup [.ref pl,.ref jl,.ref ie,.ref oe])->Zw H' pl ps->Yp H' jl js->Zr H' ie e1->Zr H' oe e2->qz n1 n2 n3 n4 ps js e1 e2->Q (.ref t) H')->PN  vs H Q E
def Bz :∃w,oJ [u,v] (n%2)=some w/\((n%2=0/\w=u)\/(n%2=1/\w=v)):=by
 have z:=pY n (show(2:Int)≠0 by lk);have y:=qg n (show(0:Int)<2 by lk);generalize n%2=m at z y;have:m=0\/m=1:=by lia
 rcases this with rfl|rfl
 ·show#[u,rfl,.inl #[rfl,rfl]]
 ·show#[v,rfl,.inr #[rfl,rfl]]
def Vc{l D:lU}{xs:lS lT}{x:lT}{r:Hp}{Q:VK}{z:St}(Y:r l=some (.lst<|xs.map V.str))(N:xs.length<=100)(h:r D=none)(q:∀u,mF r u->u D=some (.lst<|(xs.filter λe=>decide<|e≠x).map V.str)->Q (.ref D) u){fr:St->St}(U:fr z=[none,some<|.str x]){g:TT}(j:g=xD (qK (uj K) (ro 0)<|ro 1)) :
  rW (tV K l) fr (qX 0) g (ro 0) Q z r D:=by
 refine Yy (xs:=xs.map V.str) (λi p u=>p=((xs.take i).filter λe=>decide<|e≠x).map V.str/\u D=some (.lst p)/\mF r u) #[rfl,Zc,oU h] ?_ ?_ ?_
 ·rintro i p u _ ⟨_,_,n⟩;show mU<|n.at Y
 ·rintro k v p u d ⟨rfl,c,n⟩;rw[nR]at d;obtain⟨y,a,rfl⟩:=nW.mp d;unfold qu;rw[U,j];refine#[oR rfl,.inl #[rfl,Yf (λs=>?_) λs=>?_]]
  ·have s:y≠x:=by simpa using s
   refine#[c,?_,?_,Zc,λb o e=>?_]
   ·rw[mO];have:=xx (λe:lT=>decide<|e≠x)<|xs.take k;rw[oy]at this;show Zp (by lia)
   ·rw[ou,a,wn,nw,show(some y).toList=[y]from rfl,rS,mY<|nZ s]
    rfl
   ·rw[Zd (Zf e h)];show n.at e
  ·have s:¬y≠x:=by simpa using s
   refine#[?_,c,n];rw[ou,a,wn,show(some y).toList=[y]from rfl,rS,mV (by simpa using s),AH,qj]
 ·rintro p s ⟨rfl,y,o⟩;rw[mO,pq]at y;show q s o y
def UC:T.eJ.O P w mg mG 1 PN:=by
 refine T.eJ.F.okW Z6 ?_;rfl'
 ·obtain⟨c,x,n1,n2,n3,n4,rfl,hnl,q⟩:=h;intro X D;refine mP (KP (pv 1)<|UB rfl<|Z3 (oq 2 Z6)<|Z3 (oq 3 Z6)<|Z3 (oq 4 Z6)<|Z3 (oq 5 Z6) Xz) #[mU hnl,rfl,rfl,?_];refine mP (nk 6 Z6<|Zq Yn (pv 0) Ze) #[(by change(0:Int)<8;decide),?_];refine mP (Zu (Ye wr (pv 6) Ze<|Yq _) Zo Zj)<|Yf (λ_=>?_) λ_=>?_
  ·refine mP (nk 7 Z6<|nq (Zn<|Zb (Zn<|Zb Zg<|Zb Zg Za)<|Zb (Zn<|Zb Zg<|Zb Zg Za) Za)<|Zq Yn (Zq Ys (pv 0) Ze) Ze) #[mQ,λla H1 G _ e1=>#[mQ,λlb H2 g _ e2=>#[mQ,λll H3 j _ e3=>#[#[by lk,by lk],(by change(0:Int)<2;decide),?_]]]];obtain⟨l7,a,b,C9,h7,T6⟩:∃l7 a b,oJ [V.ref la,.ref lb] (c / 8%2)=some (.ref l7)/\H3 l7=some (.lst [.str a,.str b])/\(a,b)∈[(("a":lT),("b":lT)),("b","a")]:=by
    obtain⟨w,C,h|h⟩:=Bz (n:=c / 8) (u:=V.ref la) (v:=V.ref lb)
    ·show#[la,"a","b",by rw[C,h.2],j.at<|g.at e1,by simp]
    ·show#[lb,"b","a",by rw[C,h.2],j.at e2,by simp]
   refine .inl #[mU e3,C9,?_];have A9:=G.trans<|g.trans j;refine mS (Zl<|Zi<|Zb (Zn<|Zb (Zi<|Zb Zg<|Zb (pv 2) Za) Za)<|Zb (Zn Za)<|Zb (Zi<|Zb (pv 2)<|Zb (nq (pv 7) Ze) Za)<|Zb (Zi<|Zb (pv 2)<|Zb (nq (pv 7) Ze) Za) Za) #[mQ,λx H4 l _ e=>#[mQ,λpl H5 y _ e5=>#[mQ,λjl H6 o _ e6=>(.inl #[mU<|o.at<|y.at<|l.at h7,rfl,mQ,λie H7 p _ e7=>(.inl #[mU<|p.at<|o.at<|y.at<|l.at h7,rfl,mQ,λoe H8 z _ e8=>#[mQ,λt H9 d _ e9=>?_]])])]]];show q t H9 pl jl ie oe _ _ _ _ (A9.trans<|l.trans<|y.trans<|o.trans<|p.trans<|z.trans d) e9 #[[x],d.at<|z.at<|p.at<|o.at e5,.cons (d.at<|z.at<|p.at<|o.at<|y.at e) .nil] #[[],d.at<|z.at<|p.at e6,.nil] (d.at<|z.at e7) (d.at e8)<|.plain a b T6
  refine mP (Zu (Ye wr (pv 6) Ze<|Yq _) Zo Zj)<|Yf (λ_=>?_) λ_=>?_
  ·refine mP (nk 8 Z6<|nq (Zn<|Zb (Zn<|Zb Zg<|Zb Zg Za)<|Zb (Zn<|Zb Zg<|Zb Zg Za) Za)<|Zq Yn (Zq Ys (pv 0) Ze) Ze) #[mQ,λla H1 G _ e1=>#[mQ,λlb H2 g _ e2=>#[mQ,λll H3 j _ e3=>#[#[by lk,by lk],(by change(0:Int)<2;decide),?_]]]];obtain⟨l7,a,b,C9,h7,T6⟩:∃l7 a b,oJ [V.ref la,.ref lb] (c / 8%2)=some (.ref l7)/\H3 l7=some (.lst [.str a,.str b])/\(a,b)∈[(("left":lT),("right":lT)),("right","left")]:=by
    obtain⟨w,C,h|h⟩:=Bz (n:=c / 8) (u:=V.ref la) (v:=V.ref lb)
    ·show#[la,"left","right",by rw[C,h.2],j.at<|g.at e1,by simp]
    ·show#[lb,"right","left",by rw[C,h.2],j.at e2,by simp]
   refine .inl #[mU e3,C9,?_];have A9:=G.trans<|g.trans j;refine mP (nk 9 Z6<|Zn<|Zb (Zi<|Zb (Zi<|Zb (pv 2)<|Zb Zg Za)<|Zb (Zi<|Zb (pv 3)<|Zb Zg Za) Za)<|Zb (Zi<|Zb (Zi<|Zb (pv 2)<|Zb Zg Za)<|Zb (Zi<|Zb (pv 4)<|Zb Zg Za) Za) Za) #[mQ,λa1 H4 l _ Y=>#[mQ,λa2 H5 y _ U=>#[mQ,λj1 H6 o _ N=>#[mQ,λa3 H7 p _ M=>#[mQ,λa4 H8 z _ L=>#[mQ,λj2 H9 d _ J=>#[mQ,λjA K0 x _ I=>?_]]]]]]];have J1:Wq K0 j1 ((n1,"left"),(n2,"a")):=#[a1,a2,x.at<|d.at<|z.at<|p.at N,x.at<|d.at<|z.at<|p.at<|o.at<|y.at Y,x.at<|d.at<|z.at<|p.at<|o.at U]
   have J2:Wq K0 j2 ((n1,"right"),(n3,"a")):=#[a3,a4,x.at J,x.at<|d.at<|z.at M,x.at<|d.at L]
   have s0A:=A9.trans<|l.trans<|y.trans<|o.trans<|p.trans<|z.trans<|d.trans x;have h7:=(l.trans<|y.trans<|o.trans<|p.trans<|z.trans<|d.trans x).at h7;clear G g j l y o p z d x Y U N M L J e1 e2 e3 A9;refine mP (nk 9 Z6<|Zq Wl (pv 9)<|Zn<|Zb (Zi<|Zb (Zi<|Zb (pv 3)<|Zb Zg Za)<|Zb (Zi<|Zb (pv 5)<|Zb (nq (pv 8) Ze) Za) Za)<|Zb (Zi<|Zb (Zi<|Zb (pv 5)<|Zb (nq (pv 8) Ze) Za)<|Zb (Zi<|Zb (pv 4)<|Zb Zg Za) Za) Za) #[mQ,λb1 H11 C4 _ Y=>(.inl #[mU<|C4.at h7,rfl,mQ,λb2 H12 B9 _ U=>#[mQ,λj3 H13 v6 _ N=>(.inl #[mU<|v6.at<|B9.at<|C4.at h7,rfl,mQ,λb3 H14 y9 _ M=>#[mQ,λb4 H15 K1 _ L=>#[mQ,λj4 H16 C5 _ J=>#[mQ,λjB H17 e _ f8=>.inr<|.inr #[(C4.trans<|B9.trans<|v6.trans<|y9.trans<|K1.trans<|C5.trans e).at I,f8,mQ,λjl H18 P8 _ f9=>?_]]]]])]])];have sAB:=C4.trans<|B9.trans<|v6.trans<|y9.trans<|K1.trans<|C5.trans<|e.trans P8;have J3:Wq H18 j3 ((n2,"b"),(n4,a)):=#[b1,b2,(y9.trans<|K1.trans<|C5.trans<|e.trans P8).at N,(B9.trans<|v6.trans<|y9.trans<|K1.trans<|C5.trans<|e.trans P8).at Y,(v6.trans<|y9.trans<|K1.trans<|C5.trans<|e.trans P8).at U]
   have J4:Wq H18 j4 ((n4,b),(n3,"b")):=#[b3,b4,(e.trans P8).at J,(K1.trans<|C5.trans<|e.trans P8).at M,(C5.trans<|e.trans P8).at L]
   have x9:Yp H18 jl [((n1,"left"),(n2,"a")),((n1,"right"),(n3,"a")),((n2,"b"),(n4,a)),((n4,b),(n3,"b"))]:=#[[j1,j2,j3,j4],f9,.cons (J1.mono sAB)<|.cons (J2.mono sAB)<|.cons J3<|.cons J4 .nil]
   have s0B:=s0A.trans sAB;clear J1 J2 J3 J4 C4 B9 v6 y9 K1 C5 e P8 sAB s0A Y U N M L J I f8 f9 h7;refine mP (nk 10 Z6<|Zn<|Zb (Zi<|Zb Zg<|Zb (pv 2) Za)<|Zb (Zi<|Zb Zg<|Zb (pv 3) Za)<|Zb (Zi<|Zb Zg<|Zb (pv 4) Za)<|Zb (Zi<|Zb Zg<|Zb (pv 5) Za) Za) #[mQ,λc1 G1 G _ Y=>#[mQ,λc2 G2 g _ U=>#[mQ,λc3 G3 j _ N=>#[mQ,λc4 G4 l _ M=>#[mQ,λpl G5 y _ L=>?_]]]]];have u6:Zw G5 pl [("points",n1),("plain",n2),("plain",n3),("points",n4)]:=#[[c1,c2,c3,c4],L,.cons (y.at<|l.at<|j.at<|g.at Y)<|.cons (y.at<|l.at<|j.at U)<|.cons (y.at<|l.at N)<|.cons (y.at M) .nil]
   have sG:=G.trans<|g.trans<|j.trans<|l.trans y;refine mS (Zl<|Zi<|Zb (pv 10)<|Zb (pv 9)<|Zb (Zi<|Zb (pv 2)<|Zb Zg Za)<|Zb (Zi<|Zb (pv 5)<|Zb Zg Za) Za) #[mQ,λie G6 o _ J=>#[mQ,λoe G7 p _ I=>#[mQ,λt G8 z _ f8=>?_]]];have i:=o.trans<|p.trans z;show q t G8 pl jl ie oe _ _ _ _ (s0B.trans<|sG.trans i) f8 (u6.mono i) (x9.mono<|sG.trans i) ((p.trans z).at J) (z.at I)<|.loop a b T6
  refine mP (Zu (Ye wr (pv 6) Ze<|Yq _) Zo Zj)<|Yf (λ_=>?_) λ_=>?_
  ·refine mP (nk 7 Z6<|Zn<|Zb Zg<|Zb Zg<|Zb Zg Za) #[mQ,λle H1 G _ e1=>?_];refine mP (nk 11 Z6<|Zq Yn (Zq Ys (pv 0) Ze) Ze) #[#[by lk,by lk],(by change(0:Int)<3;decide),?_];obtain⟨x,r0,r1,C9,Q4,hpm⟩:∃x r0 r1:lT,oJ [V.str "stem",.str "left",.str "right"] (2-c / 8%3)=some (.str x)/\(([("stem":lT),"left","right"].filter λe=>decide<|e≠x)=[r0,r1])/\[x,r0,r1].Perm ["stem","left","right"]:=by
    have h0:=pY (c / 8) (show(3:Int)≠0 by lk);have h1:=qg (c / 8) (show(0:Int)<3 by lk);generalize c / 8%3=m at h0 h1;have:m=0\/m=1\/m=2:=by lia
    rcases this with rfl|rfl|rfl
    ·show#["right","stem","left",rfl,by left,by left]
    ·show#["left","stem","right",rfl,by left,by left]
    ·show#["stem","left","right",rfl,by left,by left]
   refine mP (nk 12 Z6<|nq (pv 7)<|Zq Io Ze<|pv 11)<|.inl #[mU e1,C9,?_];refine mP (nk 9 Z6<|Zn<|Zb (Zi<|Zb (Zi<|Zb (pv 2)<|Zb (pv 12) Za)<|Zb (Zi<|Zb (pv 3)<|Zb Zg Za) Za)<|Zb (Zi<|Zb (Zi<|Zb (pv 3)<|Zb Zg Za)<|Zb (Zi<|Zb (pv 4)<|Zb Zg Za) Za) Za) #[mQ,λa1 H2 g _ Y=>#[mQ,λa2 H3 j _ U=>#[mQ,λj1 H4 l _ N=>#[mQ,λa3 H5 y _ M=>#[mQ,λa4 H6 o _ L=>#[mQ,λj2 H7 p _ J=>#[mQ,λjl H8 z _ I=>?_]]]]]]];have x9:Yp H8 jl [((n1,x),(n2,"b")),((n2,"a"),(n3,"a"))]:=#[[j1,j2],I,.cons #[a1,a2,(y.trans<|o.trans<|p.trans z).at N,(j.trans<|l.trans<|y.trans<|o.trans<|p.trans z).at Y,(l.trans<|y.trans<|o.trans<|p.trans z).at U]<|.cons #[a3,a4,z.at J,(o.trans<|p.trans z).at M,(p.trans z).at L] .nil]
   have s28:=g.trans<|j.trans<|l.trans<|y.trans<|o.trans<|p.trans z;have s08:=G.trans s28;have e1:=s28.at e1;clear G g j l y o p z Y U N M L J I s28;refine mP (Ap 13 ["_law_end","_law_aside"] Z6 (ph 1 [12] rfl) (Yl<|pv 7) (oK 0) (uH<|Ye (r:=uj K) (wC hr) (pv 0) (pv 1)<|Yq _) (pv 0)) #[mU e1,λe hlr=>?_];refine Vc (xs:=["stem","left","right"]) (x:=x) e1 (by lk) hlr (λH9 d e9=>?qq) ?aa ?bb
   case aa=>rfl
   case bb=>rfl
   rw[Q4]at e9;obtain⟨B,Q5,hkm⟩:∃B:lT,oJ [V.str "stop",.str "gate"] (c / 24%2)=some (.str B)/\B∈[("stop":lT),"gate"]:=by
    obtain⟨w,C,h|h⟩:=Bz (n:=c / 24) (u:=V.str "stop") (v:=V.str "gate")
    ·show#["stop",by rw[C,h.2],by simp]
    ·show#["gate",by rw[C,h.2],by simp]
   refine mP (nk 10 Z6<|Zn<|Zb (Zi<|Zb Zg<|Zb (pv 2) Za)<|Zb (Zi<|Zb Zg<|Zb (pv 3) Za)<|Zb (Zi<|Zb (nq (Zn<|Zb Zg<|Zb Zg Za)<|Zq Yn (Zq Ys (pv 0) Ze) Ze)<|Zb (pv 4) Za) Za) #[mQ,λc1 G1 G _ Y=>#[mQ,λc2 G2 g _ U=>#[mQ,λlk G3 j _ N=>#[#[by lk,by lk],(by change(0:Int)<2;decide),.inl #[mU N,Q5,mQ,λc3 G4 l _ M=>#[mQ,λpl G5 y _ L=>?_]]]]]];have u6:Zw G5 pl [("points",n1),("plain",n2),(B,n3)]:=#[[c1,c2,c3],L,.cons (y.at<|l.at<|j.at<|g.at Y)<|.cons (y.at<|l.at<|j.at U)<|.cons (y.at M) .nil]
   have sG:=G.trans<|g.trans<|j.trans<|l.trans y;obtain⟨a,b,ha,hb,T6⟩:∃a b:lT,oJ [V.str r0,.str r1] (c / 48%2)=some (.str a)/\oJ [V.str r0,.str r1] (1-c / 48%2)=some (.str b)/\[x,a,b].Perm ["stem","left","right"]:=by
    have h0:=pY (c / 48) (show(2:Int)≠0 by lk);have h1:=qg (c / 48) (show(0:Int)<2 by lk);generalize c / 48%2=m at h0 h1;have:m=0\/m=1:=by lia
    rcases this with rfl|rfl
    ·show#[r0,r1,rfl,rfl,hpm]
    ·show#[r1,r0,rfl,rfl,((zC r0 r1 []).cons x).trans hpm]
   refine mS (Zl<|Zi<|Zb (pv 10)<|Zb (pv 9)<|Zb (Zi<|Zb (pv 2)<|Zb (nq (pv 13)<|Zq Yn (Zq Ys (pv 0) Ze) Ze) Za)<|Zb (Zi<|Zb (pv 2)<|Zb (nq (pv 13)<|Zq Io Ze<|Zq Yn (Zq Ys (pv 0) Ze) Ze) Za) Za) #[#[by lk,by lk],(by change(0:Int)<2;decide),.inl #[mU<|sG.at e9,ha,mQ,λie G6 o _ J=>?_]];refine#[#[by lk,by lk],(by change(0:Int)<2;decide),.inl #[mU<|o.at<|sG.at e9,hb,mQ,λoe G7 p _ I=>#[mQ,λt G8 z _ f8=>?_]]];have i:=o.trans<|p.trans z;show q t G8 pl jl ie oe _ _ _ _ (s08.trans<|d.trans<|sG.trans i) f8 (u6.mono i) (x9.mono<|d.trans<|sG.trans i) ((p.trans z).at J) (z.at I)<|.siding x a b B T6 hkm
  refine mP (nk 9 Z6<|Zn<|Zb (Zi<|Zb (Zi<|Zb (pv 2)<|Zb Zg Za)<|Zb (Zi<|Zb (pv 3)<|Zb Zg Za) Za)<|Zb (Zi<|Zb (Zi<|Zb (pv 4)<|Zb Zg Za)<|Zb (Zi<|Zb (pv 2)<|Zb Zg Za) Za) Za) #[mQ,λa1 H2 g _ Y=>#[mQ,λa2 H3 j _ U=>#[mQ,λj1 H4 l _ N=>#[mQ,λa3 H5 y _ M=>#[mQ,λa4 H6 o _ L=>#[mQ,λj2 H7 p _ J=>#[mQ,λjl H8 z _ I=>?_]]]]]]];have x9:Yp H8 jl [((n1,"c"),(n2,"a")),((n3,"a"),(n1,"d"))]:=#[[j1,j2],I,.cons #[a1,a2,(y.trans<|o.trans<|p.trans z).at N,(j.trans<|l.trans<|y.trans<|o.trans<|p.trans z).at Y,(l.trans<|y.trans<|o.trans<|p.trans z).at U]<|.cons #[a3,a4,z.at J,(o.trans<|p.trans z).at M,(p.trans z).at L] .nil]
  have s08:=g.trans<|j.trans<|l.trans<|y.trans<|o.trans<|p.trans z;clear g j l y o p z Y U N M L J I;obtain⟨B,Q5,hkm⟩:∃B:lT,oJ [V.str "gate",.str "stop"] (c / 8%2)=some (.str B)/\B∈[("gate":lT),"stop"]:=by
   obtain⟨w,C,h|h⟩:=Bz (n:=c / 8) (u:=V.str "gate") (v:=V.str "stop")
   ·show#["gate",by rw[C,h.2],by simp]
   ·show#["stop",by rw[C,h.2],by simp]
  refine mP (nk 10 Z6<|Zn<|Zb (Zi<|Zb Zg<|Zb (pv 2) Za)<|Zb (Zi<|Zb Zg<|Zb (pv 3) Za)<|Zb (Zi<|Zb (nq (Zn<|Zb Zg<|Zb Zg Za)<|Zq Yn (Zq Ys (pv 0) Ze) Ze)<|Zb (pv 4) Za) Za) #[mQ,λc1 G1 G _ Y=>#[mQ,λc2 G2 g _ U=>#[mQ,λlk G3 j _ N=>#[#[by lk,by lk],(by change(0:Int)<2;decide),.inl #[mU N,Q5,mQ,λc3 G4 l _ M=>#[mQ,λpl G5 y _ L=>?_]]]]]];have u6:Zw G5 pl [("cross",n1),("gate",n2),(B,n3)]:=#[[c1,c2,c3],L,.cons (y.at<|l.at<|j.at<|g.at Y)<|.cons (y.at<|l.at<|j.at U)<|.cons (y.at M) .nil]
  have sG:=G.trans<|g.trans<|j.trans<|l.trans y;refine mS (Zl<|Zi<|Zb (pv 10)<|Zb (pv 9)<|Zb (Zi<|Zb (pv 2)<|Zb Zg Za)<|Zb (Zi<|Zb (pv 2)<|Zb Zg Za) Za) #[mQ,λie G6 o _ J=>#[mQ,λoe G7 p _ I=>#[mQ,λt G8 z _ f8=>?_]]];have i:=o.trans<|p.trans z;show q t G8 pl jl ie oe _ _ _ _ (s08.trans<|sG.trans i) f8 (u6.mono i) (x9.mono<|sG.trans i) ((p.trans z).at J) (z.at I)<|.cross B hkm
end
end K65
end
section
namespace K65
open PySem L2 NM YM
section
variable {P:mh} {w:md} {K:lY} {mg:lT->lX lV} {mG:ma} (T:Tx K mg)
seal PySem.wpAny
def zd(xs:lS V)(k:Nat):qF xs (some (k:Int)) none=xs.drop k:=by
 unfold qF;rw[HT.sIx_nat,HT.sIx_none]
 by_cases h:k<=xs.length
 ·rw[Nat.min_eq_left h,tF (by rw[yc];show nH _)]
 ·rw[Nat.min_eq_right (by lia),Ip,List.take_nil,List.drop_of_length_le<|by lia]
def De(xs:lS V)(k:Nat):qF xs none (some (k:Int))=xs.take k:=by
 unfold qF;rw[HT.sIx_nat,HT.sIx_none,Fe,Nat.sub_zero]
 by_cases h:k<=xs.length
 ·rw[Nat.min_eq_left h]
 ·rw[Nat.min_eq_right (by lia),pq,tF<|by lia]
def Zw.app(z:Paired (Zr H) ts ps)(y:Paired (Zr H) us qs)(e:H l=some (.lst<|ts.map V.ref++us.map V.ref)):Zw H l (ps++qs):=#[ts++us,by rw[nw];show e,pj z y]
def Yp.app(z:Paired (Wq H) ts ps)(y:Paired (Wq H) us qs)(e:H l=some (.lst<|ts.map V.ref++us.map V.ref)):Yp H l (ps++qs):=#[ts++us,by rw[nw];show e,pj z y]
inductive NL(K:lY):Sp
 | mk (cl) (cs:lS Int):vs=[.ref cl]->SqL K H cl (cs.map V.int)->(∀c∈cs,0<=c)->(∀(t:lU)(H':Hp)(pl jl:lU)(ps:lS Zh)(js:lS (Zh×Zh)),mF H H'->H' t=some (.tup [.ref pl,.ref jl])->Zw H' pl ps->Yp H' jl js->H pl=none->H jl=none->Net ps js []->ps.length<=38->(∀p∈ps,p=((("gate":lT),("g":lT)):Zh)\/p=((("gate":lT),("h":lT)):Zh)\/wu p.2 36)->Q (.ref t) H')->NL K vs H Q E
inductive Jl(H H5:Hp)(cl:Addr)(i:Nat):St->Hp->Prop
 | mk (pl jl e o4 o5 o6 o7 o8 ps js Q8):mF H5 H'->Zw H' pl ps->Yp H' jl js->Zr H' e Q8->vz i ps js Q8->H pl=none->H jl=none->Jl H H5 cl i [some (.ref cl),some<|.ref pl,some<|.ref jl,some<|.ref e,o4,o5,o6,o7,o8] H'
def Zqy:T.fg.O P w mg mG 2 (NL K):=by
 refine T.fg.F.okW Y0 ?_;rfl'
 ·obtain⟨cl,cs,rfl,w9,N2,q⟩:=h;intro X D;refine mP (nk 1 Y0<|Zn<|Zb (Zi<|Zb Zg<|Zb Zg Za) Za) #[mQ,λt1 x s1 _ e1=>#[mQ,λpl0 p s2 n2 e2=>?_]];refine mP (nk 2 Y0<|Zn Za) #[mQ,λjl0 x s3 n3 e3=>?_];refine mP (nk 3 Y0<|Zi<|Zb Zg<|Zb Zg Za) #[mQ,λe0 H4 s4 n4 e4=>?_];have K5:=s1.trans<|s2.trans<|s3.trans s4;have hp0:Zw H4 pl0 [("gate","g")]:=#[[t1],s4.at<|s3.at e2,.cons (s4.at<|s3.at<|s2.at e1) .nil]
  have hj0:Yp H4 jl0 []:=#[[],s4.at e3,.nil]
  have f0:H pl0=none:=s1.free n2;have f1:H jl0=none:=s1.free<|s2.free n3;clear s1 s2 s3 s4 n2 n3 n4 e1 e2 e3;refine mP (Xh pG rfl (Ao rfl T.cR<|Zb (X6 (r:=rY K) sI (pv 0) Wu<|We Ze) Za) (tL rfl<|Z3 (oq 4 Y0)<|Z3 (oq 5 Y0) Xz) Zo)<|.inr<|.inl #[K5.seq w9,λx H5 s5 p e5=>#[mU e5,?_]];rw[show(some (9:Int))=some ((9:Nat):Int)from rfl,De,<-wG]at e5;have Q7:=K5.trans s5;refine AV (xs:=(cs.take 9).map V.int) (Jl H H5 cl)
   (.mk pl0 jl0 e0 none none none none none _ _ _ (pO _) (hp0.mono s5) (hj0.mono s5) (s5.at e4) vz.start f0 f1) ?_ ?_ ?_
  ·rintro i z H' _ ⟨_,_,_,_,_,_,_,_,_,_,_,x,_⟩;show mU<|x.at e5
  ·rintro i v z H6 hi ⟨pl,jl,e,o4,o5,o6,o7,o8,ps,js,Q8,s6,u6,x9,g,u,fp,fj⟩ tp H7 N n7 e7;rw[nR]at hi;obtain⟨c,hc,rfl⟩:=nW.mp hi;have hi9:i<9:=by
    have:=(pr.mp hc).1;rw[oy]at this;lia
   have hc0:0<=c:=N2 c<|yD<|pE hc;refine#[mW e7,rfl,rfl,?_];have M7:=s6.trans N;have u6:=u6.mono N;have x9:=x9.mono N;have g:=g.mono N;obtain⟨nm,F1⟩:∃nm:Nat->lT,nm=λj=>Yt ((["p","q","r","t"]:lS lT).getD j "p") (sU<|c / 96+5 * (j:Int)) (4 * i+j):=#[_,rfl]
   refine mP (nk 6 Y0<|Zn Za) #[mQ,λD x s75 hD e75=>?_];let I1:IF:=λj z H'=>(∃o7,z=[some (.ref cl),some<|.ref pl,some<|.ref jl,some<|.ref e,some<|.int (i:Int),some<|.int c,some<|.ref D,o7,o8])/\H' D=some (.lst<|((List.range j).map nm).map V.str)/\mF H7 H'
   refine mP (Xh pG rfl (Gi rfl T.dz<|Zb Ze Za) (oq 7 Y0) Zo)<|pz rfl #[by lk,by lk,wX (lo:=0) (n:=4) I1 #[#[_,rfl],e75,s75] ?_ ?_]
   ·rintro j z H8 hj ⟨⟨o7,rfl⟩,p,d⟩;obtain⟨kd,C⟩:∃kd,kd=(["p","q","r","t"]:lS lT).getD j "p":=#[_,rfl]
    have a:j=0\/j=1\/j=2\/j=3:=by lia
    obtain⟨x,C9,B⟩:∃x,oJ (Str.cps "pqrt").toList ((0:Int)+(j:Int))=some x/\(#[(List.toArray [x])]:lT)=kd:=by
     rw[C];rcases a with rfl|rfl|rfl|rfl<;>show#[_,rfl,rfl]
    have hkl:kd.length=1:=by
     rw[<-B]
     rfl
    refine mS (Z1<|rB (pv 6)<|Zv (Mu T) hr<|Zb (nq Zg<|pv 7)<|Zb (Zq Wl (Zq Ys (pv 5) Ze)<|Zq wS Ze<|pv 7)<|Zb (Zq Wl (Zq wS Ze<|pv 4)<|pv 7) Za) #[.inl #[rfl,_,mU p],.inr<|.inr #[_,_,x,rfl,rfl,sz (by left),C9,#[by lk,by lk],.inl #[by lk,by lk],.inl #[.inl #[by lk,by lk],.inl #[kd,c / 96+5 * (j:Int),4 * i+j,?_,by lia,by lia,?_,by lia,p,?_,#[_,rfl],?_,λb o y=>?_]]]]
    ·change[V.str #[(List.toArray [x])],V.int<|c / 96+5 * (0+(j:Int)),V.int<|4 * (i:Int)+(0+(j:Int))]=_;rw[B,show(0:Int)+(j:Int)=j by lia,show 4 * (i:Int)+(j:Int)=((4 * i+j:Nat):Int) by lia]
    ·have:=Int.ediv_nonneg hc0 (show(0:Int)<=96 by lk);lia
    ·rw[mO,mO,Cm];show Zp (by lia)
    ·rw[Zc,Bu,nw,nw,F1,C]
     rfl
    ·rw[Zd (Zf y hD)];show d.at y
   ·rintro z H8 ⟨⟨o7,rfl⟩,p,d⟩;have u6:=u6.mono d;have x9:=x9.mono d;have g:=g.mono d;refine mP (nk 8 Y0<|Zv (UC T) hr<|Zb (pv 5)<|Zb (pv 6) Za) #[c,D,nm 0,nm 1,nm 2,nm 3,rfl,p,λt H9 bp bj ie oe qs ks a b Y e9 hbp hbj hie hoe B=>?_];subst F1;have O2:=u.more (by lia) (by left) (by left) (by left) (by left) B;obtain⟨ts,ht,j8⟩:=u6.mono Y;obtain⟨us,hu,j7⟩:=hbp;obtain⟨M,hj1,l⟩:=x9.mono Y;obtain⟨js2,hj2,o⟩:=hbj;have lp:=u.pl;have lj:=u.jl;have lb:=B.len;have c1:=nJ j8;have c2:=nJ j7;have c3:=nJ l;have c4:=nJ o;refine mP (nk 1 Y0<|Zq Wl (pv 1)<|nq (pv 8) Ze)<|.inr<|.inl #[mW e9,rfl,.inr<|.inr #[ht,hu,?_,λpl' K0 U n10 jh=>?_]]
    ·rw[mO,mO];show sz (by lia)
    refine mP (nk 2 Y0<|Zq Wl (Zq Wl (pv 2)<|nq (pv 8) Ze)<|Zn<|Zb (Zi<|Zb (pv 3)<|Zb (nq (pv 8) Ze) Za) Za)<|.inr<|.inl #[mW<|U.at e9,rfl,.inr<|.inr #[U.at hj1,U.at hj2,?_,λjm H11 I a jz=>(.inr<|.inl #[mW<|I.at<|U.at e9,rfl,mQ,λtj H12 L n12 jR=>#[mQ,λl2 H13 J n13 ji=>.inr<|.inr #[(L.trans J).at jz,ji,?_,λjl' H14 G n14 iE=>?_]]])]]
    ·rw[mO,mO];show sz (by lia)
    ·rw[oj,mO,mO];show sz (by simp;lia)
    have C:=I.trans<|L.trans<|J.trans G;have x:=U.trans C;refine mS (nk 3 Y0<|nq (pv 8) Ze)<|.inr<|.inl #[mW<|x.at e9,rfl,.mk pl' jl' oe _ _ _ _ _ _ _ _ (M7.trans<|d.trans<|Y.trans x) ?_ ?_ (hoe.mono x) O2 ?_ ?_]
    ·show Zw.app (ts:=ts) (us:=us) (nO j8 λ_ _ r=>r.mono x) (nO j7 λ_ _ r=>r.mono x)<|C.at jh
    ·have a:Paired (Wq H14) (M++js2) (js++ks):=pj (nO l λ_ _ r=>r.mono x)<|nO o λ_ _ r=>r.mono x;refine Yp.app (ts:=M++js2) (us:=[tj]) a (.cons #[e,ie,(J.trans G).at jR,(g.mono Y).mono x,hie.mono x] .nil) ?_;rw[nw];show iE
    ·show Q7.free<|M7.free<|d.free<|Y.free n10
    ·show Q7.free<|M7.free<|d.free<|Y.free<|(U.trans<|I.trans<|L.trans J).free n14
  ·rintro z H6 ⟨pl,jl,e,o4,o5,o6,o7,o8,ps,js,Q8,s6,u6,x9,g,u,fp,fj⟩;rw[mO,oy]at u;have hm:min 9 cs.length<=9:=Nat.min_le_left ..;have C:=u.done (by lia);obtain⟨ts,ht,j8⟩:=u6;obtain⟨M,hj1,l⟩:=x9;have lp:=u.pl;have lj:=u.jl;have c1:=nJ j8;have c3:=nJ l;refine mS (Zl<|Zi<|Zb (Zq Wl (pv 1)<|Zn<|Zb (Zi<|Zb Zg<|Zb Zg Za) Za)<|Zb (Zq Wl (pv 2)<|Zn<|Zb (Zi<|Zb (pv 3)<|Zb (Zi<|Zb Zg<|Zb Zg Za) Za) Za) Za) #[mQ,λt1 H7 N _ e7=>#[mQ,λp H8 d _ x=>.inr<|.inr #[d.at<|N.at ht,x,?_,λpl' H9 Y B e9=>#[mQ,λt2 K0 U _ jh=>#[mQ,λt3 H11 I _ jz=>#[mQ,λl2 H12 L _ jR=>.inr<|.inr #[(N.trans<|d.trans<|Y.trans<|U.trans<|I.trans L).at hj1,jR,?_,λjl' H13 J n13 ji=>#[mQ,λt H14 G _ iE=>?_]]]]]]]]
   ·rw[mO];show sz (by simp;lia)
   ·rw[mO];show sz (by simp;lia)
   have j:=N.trans<|d.trans<|Y.trans<|U.trans<|I.trans L;have o:=j.trans<|J.trans G;have a:=U.trans<|I.trans<|L.trans<|J.trans G;refine q t H14 pl' jl' _ _ (Q7.trans<|s6.trans o) iE ?_ ?_ (Q7.free<|s6.free<|N.free<|d.free B) (Q7.free<|s6.free<|j.free n13) C ?_ ?_
   ·show Zw.app (ts:=ts) (us:=[t1]) (nO j8 λ_ _ r=>r.mono o) (.cons ((d.trans<|Y.trans a).at e7) .nil)<|a.at e9
   ·show Yp.app (ts:=M) (us:=[t3]) (nO l λ_ _ r=>r.mono o) (.cons #[e,t2,(L.trans<|J.trans G).at jz,g.mono o,(I.trans<|L.trans<|J.trans G).at jh] .nil)<|G.at ji
   ·rw[oj];simp;lia
   ·intro p hp;rcases oA.mp hp with y|y
    ·rcases u.nm p y with x|⟨kd,c,k,h1,h2,h3⟩
     ·show .inl x
     ·show .inr<|.inr #[kd,c,k,h1,by lia,h3]
    ·simp at y;subst y;show .inr<|.inl rfl
inductive JO(K:lY):Sp
 | mk (a) (ns:lS Int) (i j:Nat):vs=[.ref a,.int i,.int j]->SqL K H a (ns.map V.int)->ns.length<=63->i<=1000->j<=1000->(∀(p:lU)(H':Hp)(cs:lS Int),mF H H'->H p=none->H' p=some (.lst<|cs.map V.int)->(∀c∈cs,0<=c/\c<2147483629)->cs.length<=63->Q (.ref p) H')->JO K vs H Q E
def XD:T.eI.O P w mg mG 2 (JO K):=by
 refine T.eI.F.okA ?_;rfl'
 ·obtain⟨a,x,i,j,rfl,Y,z,o,e,q⟩:=h;intro X D;have y:(if((x.map V.int).length:Int)<(j:Int)then((x.map V.int).length:Int)else(j:Int))=((min j x.length:Nat):Int):=by
   rw[mO];split<;>lia
  refine mS (Zl<|pH ["_law_k","_law_script"] (ph 1 [0] rfl) (Di rfl T.dz<|Zb (pv 1)<|Zb (Yc (Zx3 rfl) (by rfl) T.jF PyProof.Rows.boot_min<|Zb (pv 2)<|Zb (pI T.bw<|pv 0) Za) Za) (oK 0) X5 (Xv (Af T) hr rfl T.ap.m T.ap.F.kp T.ap.b .nil Z0<|Zb (Wx (K:=K) rfl (pv 1)<|pv 0)<|Zb (pv 0) Za))<|.inl #[.inl Y,_,_,rfl,_,_,rfl,?_,λD l=>?_]
  ·rw[y];lia
  rw[y];obtain⟨m,M⟩:∃m:Nat,(((min j x.length:Nat):Int)-(i:Int)).toNat=m:=#[_,rfl]
  rw[M];refine Iz (lo:=(i:Int)) (n:=m) (λk r z=>(∃u:lS Int,r=u.map V.int/\u.length=k/\∀c∈u,0<=c/\c<2147483629)/\z D=some (.lst r)/\mF H z) #[#[[],rfl,rfl,by simp],Zc,oU l] ?_ ?_
  ·rintro k r U L ⟨⟨u,rfl,N,g⟩,d,p⟩;unfold qu;have a:i+k<x.length:=by lia
   refine#[oR rfl,.inl #[p.seq Y,(show oJ _ _=some (.int<|x.getD (i+k) 0)from ?_),_,_,rfl,d,?_,#[u++[uP (x.getD (i+k) 0) ((i:Int)+(k:Int))],?_,?_,?_],Zc,λb o e=>?_]]
   ·rw[show(i:Int)+(k:Int)=((i+k:Nat):Int) by lia];refine Zm ?_;rw[nR,oE a,tI,oE a]
    rfl
   ·rw[mO];show Zp (by lia)
   ·rw[nw];rfl
   ·rw[oj];simp;show N
   ·intro c o;rcases oA.mp o with z|z
    ·show g c z
    ·simp at z;rw[z];show#[Zzf _ _,Vf _ _]
   ·rw[Zd (Zf e l)];show p.at e
  ·rintro r U ⟨⟨u,rfl,N,g⟩,d,p⟩;show q D U u p l d g (by lia)
def Ws(h:Paired (Zr H) ts ps)(y:H c=some (.lst xs)):Paired (Zr<|mM H c o) ts ps :=
 nO h λt q r=>by
  unfold Zr at r ⊢;rw[Zd λz=>by rw[z,y]at r;cases r];show r
def Wq.off(h:Wq H t j)(r:H c=some (.lst xs)):Wq (mM H c o) t j:=by
 obtain⟨a,b,s,y,x⟩:=h;unfold Zr at y x;have u:∀{t:lU}{q:lS V},H t=some (.tup q)->t≠c:=λh z=>by rw[z,r]at h;cases h
 show#[a,b,by rw[Zd (u s)];show s,by unfold Zr;rw[Zd (u y)];show y,by unfold Zr;rw[Zd (u x)];show x]
def wJ(h:Paired (Wq H) ts z)(y:H c=some (.lst xs)):Paired (Wq<|mM H c o) ts z:=nO h λ_ _ r=>r.off y
inductive IA:Sp
 | mk (pl jl rl c) (ps:lS Zh) (js:lS (Zh×Zh)) (Zt:lS Zh):vs=[.ref pl,.ref jl,.ref rl,.int c]->Zw H pl ps->Yp H jl js->Zw H rl Zt->pl≠jl->rl≠pl->rl≠jl->ps.length<=100->js.length<=200->Zt.length<=90->(∀(H':Hp)(D9:lS Zh)(F9:lS (Zh×Zh)),(∀b o,b≠pl->b≠jl->H b=some o->H' b=some o)->Zw H' pl (ps++D9)->Yp H' jl (js++F9)->wO Zt Zt.length D9 F9->Q .non H')->IA  vs H Q E
def Vd:T.dZ.O P w mg mG 2 IA:=by
 refine T.dZ.F.okW Dj ?_;rfl'
 ·obtain⟨p,I,rl,c,ps,js,Zt,rfl,u6,x9,⟨rs,P3,O3⟩,n1,n2,n3,x,u,r,q⟩:=h;intro X D;have lrs:=nJ O3;let I2:IF:=λi z H'=>(∃o4 o5 o6,z=[some (.ref p),some<|.ref I,some<|.ref rl,some<|.int c,o4,o5,o6])/\(∀b o,b≠p->b≠I->H b=some o->H' b=some o)/\∃d U,Zw H' p (ps++d)/\Yp H' I (js++U)/\wO Zt i d U
  refine mS (Xh pG rfl (Ao rfl T.cR<|Zb (pv 2) Za) (tL rfl<|Z3 (oq 4 Dj)<|Z3 (oq 5 Dj) Xz) Zo) #[mU P3,AV (xs:=rs.map V.ref) I2
   #[#[none,none,none,rfl],λ_ _ _ _ y=>y,[],[],by rw[qj];show u6,by rw[qj];show x9,[],rfl,by simp,rfl,rfl] ?_ ?_ ?_]
  ·rintro i z H' _ ⟨_,M,_⟩;show mU<|M _ _ n2 n3 P3
  ·rintro i v z H2 hi ⟨⟨o4,o5,o6,rfl⟩,M,d,U,⟨n,ht,j8⟩,⟨us,hu,j7⟩,G⟩ tp H3 s3 n3' e3;rw[nR]at hi;obtain⟨te,U4,rfl⟩:=nW.mp hi;obtain⟨x,hy,u⟩:=oQ O3 U4;have D5:i<rs.length:=(pr.mp U4).1;obtain⟨ks,hkl,hks,hnp,hnj⟩:=id G;have c1:=nJ j8;have c2:=nJ j7;rw[oj,hnp,mO,Cm]at c1;rw[oj,hnj,mO,Cm]at c2;have C:Zr H2 te x:=by
    unfold Zr at u ⊢;refine M _ _ (λy=>?_) (λy=>?_) u
    ·obtain⟨_,N,_⟩:=u6;rw[y,N]at u;cases u
    ·obtain⟨_,N,_⟩:=x9;rw[y,N]at u;cases u
   refine#[mW e3,rfl,rfl,?_];have fl:=Dm i (by lia);refine mP (nk 6 Dj<|Zq Wl Zg<|Y5 Bt (by rfl) T.fm vZ<|Zb (pv 4) Za) #[(i:Int),rfl,FN (by lia),.inr<|.inl<|wz rfl rfl #[sz (by change 1+(sv i).length<=1000;lia),?_]];obtain⟨L,Q5,hkm⟩:∃L:lT,oJ [V.str "gate",.str "stop",.str "gate"] (uP c (i:Int)%3)=some (.str L)/\(L ="gate"\/L ="stop"):=by
    have h0:=pY (uP c (i:Int)) (show(3:Int)≠0 by lk);have N:=qg (uP c (i:Int)) (show(0:Int)<3 by lk);generalize uP c (i:Int)%3=m at h0 N;have:m=0\/m=1\/m=2:=by lia
    rcases this with rfl|rfl|rfl
    ·show#["gate",rfl,.inl rfl]
    ·show#["stop",rfl,.inr rfl]
    ·show#["gate",rfl,.inl rfl]
   refine mP (Z1<|rB (pv 0)<|Zi<|Zb (nq (Zn<|Zb Zg<|Zb Zg<|Zb Zg Za)<|Zq Yn (Xv (Af T) hr rfl T.ap.m T.ap.F.kp T.ap.b .nil Z0<|Zb (pv 3)<|Zb (pv 4) Za) Ze)<|Zb (pv 6) Za) #[.inl #[rfl,_,mU<|s3.at ht],mQ,λlk H4 s4 n4 e4=>#[c,(i:Int),rfl,(by change(0:Int)<3;decide),.inl #[mU e4,Q5,mQ,λg a s5 n5 e5=>#[s5.at<|s4.at<|s3.at ht,?_,?_]]]]
   ·rw[mO];show Zp (by lia)
   have J:=s3.trans<|s4.trans s5;have l:=J.at ht;have B:Paired (Zr a) n (ps++d):=nO j8 λ_ _ r=>r.mono J
   have hus5:Paired (Wq a) us (js++U):=nO j7 λ_ _ r=>r.mono J
   have p6:Paired (Zr<|mM a p<|.lst<|n.map V.ref++[.ref g]) (n++[g]) ((ps++d)++[(L,W7 i)]):=Ws (pj B<|.cons e5 .nil) l;have j6:=wJ (o:=.lst<|n.map V.ref++[.ref g]) hus5 l;have j:mM a p (.lst<|n.map V.ref++[.ref g]) I=some (.lst<|us.map V.ref):=(Zd<|oY n1).trans (J.at hu);have k6:∀b o,b≠p->b≠I->H b=some o->mM a p (.lst<|n.map V.ref++[.ref g]) b=some o:=λb o b1 b2 y=>(Zd b1).trans (J.at<|M b o b1 b2 y)
   have y6:Zr (mM a p<|.lst<|n.map V.ref++[.ref g]) te x:=by
    have y:=C.mono J;unfold Zr at y ⊢;show(Zd λw=>by rw[w,l]at y;cases y).trans y
   have e6:mM a p (.lst<|n.map V.ref++[.ref g]) p=some (.lst<|(n++[g]).map V.ref):=by rw[Zc,nw];rfl
   generalize(mM a p<|.lst<|n.map V.ref++[.ref g])=H6 at p6 j6 j k6 y6 e6;refine mS (Z1<|rB (pv 1)<|Zi<|Zb (pv 5)<|Zb (Zi<|Zb (pv 6)<|Zb Zg Za) Za) #[.inl #[rfl,_,mU j],mQ,λt7 H7 Y n7 e7=>#[mQ,λt8 H8 e n8 e8=>#[e.at<|Y.at j,?_,#[_,_,_,rfl],λb o b1 b2 y=>?_,d++[(L,W7 i)],U++[(x,(W7 i,("a":lT)))],#[n++[g],?_,?_],#[us++[t8],?_,?_],G.more hkm hy]]]
   ·rw[mO];show Zp (by lia)
   ·show(Zd b2).trans (e.at<|Y.at<|k6 b o b1 b2 y)
   ·show(Zd n1).trans (e.at<|Y.at e6)
   ·rw[<-pC];show Ws (nO p6 λ_ _ r=>r.mono<|Y.trans e)<|e.at<|Y.at j
   ·rw[Zc,nw];rfl
   ·rw[<-pC];show wJ (pj (nO j6 λ_ _ r=>r.mono<|Y.trans e)<|.cons #[te,t7,e8,y6.mono<|Y.trans e,e.at e7] .nil)<|e.at<|Y.at j
  ·rintro z H2 ⟨⟨o4,o5,o6,rfl⟩,M,d,U,N,x,G⟩;rw[mO,lrs]at G;show q H2 d U M N x G
def oS(q:Zh):Tr:=.tup [.str q.1,.str q.2]
def BY{H:Hp}{ts:lS lU}{ps:lS Zh}(h:Paired (Zr H) ts ps):Paired (Im K H 1) (ps.map oS) (ts.map V.ref):=by
 induction h with
 | nil=>show .nil
 | cons r _ z=>show .cons (vL (mW r)<|.cons (.str _)<|.cons (.str _) .nil) z
def Zw.im{H:Hp}{l:lU}{ps:lS Zh}(h:Zw H l ps):Im K H 2 (.lst<|ps.map oS) (.ref l):=let⟨_,z,y⟩:=h;vK (mU z) (BY y)
def Mn{l D:lU}{xs:lS lT}{x:lT}{p:Hp}{Q:VK}{z:St}(U:p l=some (.lst<|xs.map V.str))(I:xs.length<=100)(d:p D=none)(q:∀u,mF p u->Zw u D (xs.map λe=>(x,e))->Q (.ref D) u){fr:St->St}(N:fr z=[none,some<|.str x]){c:TE}(M:c=Oz (tR (ro 1)<|tR (ro 0) vQ)) :
  rW (tV K l) fr (qX 0) zQ c Q z p D:=by
 refine Yy (xs:=xs.map V.str) (λi n u=>(∃s:lS lU,n=s.map V.ref/\Paired (Zr u) s ((xs.take i).map λe=>(x,e)))/\u D=some (.lst n)/\mF p u) #[#[[],rfl,.nil],Zc,oU d] ?_ ?_ ?_
 ·rintro i n u _ ⟨_,_,g⟩;show mU<|g.at U
 ·rintro k v n u a ⟨⟨s,rfl,j⟩,Y,g⟩;rw[nR]at a;obtain⟨y,L,rfl⟩:=nW.mp a;unfold qu;rw[N,M];have H:s.length<=100:=by
   have:=nJ j;rw[mO,oy]at this;lia
  refine#[oR rfl,mQ,λt y h r J=>#[h.at Y,by rw[mO];show Zp (by lia),#[s++[t],by rw[nw];rfl,?_],Zc,λb o e=>?_]]
  ·rw[ou,L,nw];show Ws (pj (nO j λ_ _ r=>r.mono h)<|.cons J .nil)<|h.at Y
  ·rw[Zd (Zf e d)];show h.at<|g.at e
 ·rintro n y ⟨⟨s,rfl,j⟩,r,o⟩;rw[mO,pq]at j;show q y o #[s,r,j]
def Zr.offL{H:Hp}{c t:lU}{o:HO}{xs:lS V}{q:Zh}(h:Zr H t q)(y:H c=some (.lst xs)):Zr (mM H c o) t q:=by
 unfold Zr at h ⊢;show(Zd λz=>by rw[z,y]at h;cases h).trans h
def Zw.offL{H:Hp}{c l:lU}{o:HO}{xs:lS V}{ps:lS Zh}(h:Zw H l ps)(z:H c=some (.lst xs))(y:l≠c):Zw (mM H c o) l ps:=let⟨x,u,s⟩:=h;#[x,(Zd y).trans u,Ws s z]
def Zw.erased{H:Hp}{l:lU}{ts:lS lU}{ps:lS Zh}(z:H l=some (.lst<|ts.map V.ref))(y:Paired (Zr H) ts ps)(k:Nat):Zw (mM H l<|.lst<|(ts.map V.ref).eraseIdx k) l (ps.eraseIdx k):=#[ts.eraseIdx k,by rw[Zc,Mf],Ws (OT y k) z]
def Lb{k n:Nat}(h:k<n):seqIndex? (k:Int) n=some k:=by
 unfold seqIndex?;have z:¬(k:Int)<0:=by lia
 simp only[z,rD];rw[mY (by simp;lia)];simp
def uc{a:Int}{n:Nat}(h:0<n):∃k:Nat,a%(n:Int)=(k:Int)/\k<n:=by
 have z:=pY a (show(n:Int)≠0 by lia);have y:=qg a (show(0:Int)<n by lia);show#[(a%(n:Int)).toNat,by lia,by lia]
def Ztl{z y:Type}{R:z->y->Prop}{l₁:lS z}{l₂:lS y}(h:Paired R l₁ l₂)(n:Nat):Paired R (l₁.drop n) (l₂.drop n):=by
 induction n generalizing l₁ l₂ with
 | zero=>show h
 | succ n x =>
  cases h with
  | nil=>show .nil
  | cons _ t=>show x t
def Jp{l D:lU}{ts:lS lU}{qs:lS Zh}{keep:Zh->Bool}{w:lX V}{u:Hp}{Q:VK}{z:St}(L:u l=some (.lst<|ts.map V.ref))(c:Paired (Zr u) ts qs)(H:qs.length<=100)(a:u D=none)(q:∀y,mF u y->Zw y D (qs.filter keep)->Q (.ref D) y){fr:St->St}(J:fr z=[none,w]){Y:TT}(h:∀(t:lU)(x:Zh)(y:Hp)(R:Bool->Hp->Prop),mF u y->Zr y t x->x∈qs->R (keep x) y->Y [some (.ref t),w] y R) :
  rW (tV K l) fr (qX 0) Y (ro 0) Q z u D:=by
 have g:=nJ c;refine Yy (xs:=ts.map V.ref) (λi j y=>(∃s:lS lU,j=s.map V.ref/\Paired (Zr u) s ((qs.take i).filter keep))/\y D=some (.lst j)/\mF u y) #[#[[],rfl,.nil],Zc,oU a] ?_ ?_ ?_
 ·rintro i j y _ ⟨_,_,p⟩;show mU<|p.at L
 ·rintro k v j y U ⟨⟨s,rfl,n⟩,N,p⟩;rw[nR]at U;obtain⟨t,I,rfl⟩:=nW.mp U;obtain⟨x,r,M⟩:=oQ c I;unfold qu;rw[J];have G:s.length<=100:=by
   rw[nJ n];have:=xx keep<|qs.take k;rw[oy]at this;lia
  refine#[oR rfl,h t x y _ p (M.mono p) (pE r)<|Yf (λd=>?_) λd=>?_]
  ·refine#[N,by rw[mO];show Zp (by lia),#[s++[t],by rw[nw];rfl,?_],Zc,λb o e=>?_]
   ·rw[ou,r,wn];refine pj n ?_;rw[show(some x).toList=[x]from rfl,rS,mY d];show .cons M .nil
   ·rw[Zd (Zf e a)];show p.at e
  ·refine#[#[s,rfl,?_],N,p];rw[ou,r,wn,show(some x).toList=[x]from rfl,rS,mV d,AH,qj];show n
 ·rintro j e ⟨⟨s,rfl,n⟩,d,o⟩;rw[mO,g,pq]at n;show q e o #[s,d,nO n λ_ _ r=>r.mono o]
inductive JR(K:lY):Sp
 | mk (cl) (cs:lS Int):vs=[.ref cl]->SqL K H cl (cs.map V.int)->(∀c∈cs,0<=c)->cs.length<=63->(∀(t:lU)(H':Hp)(pl jl:lU)(ps:lS Zh)(js:lS (Zh×Zh)) (n:Nat),mF H H'->H' t=some (.tup [.ref pl,.ref jl])->Zw H' pl ps->Yp H' jl js->H pl=none->H jl=none->Net ps js []->ps.length<=39->(∀p∈ps,Hj p.2 63\/∃j,j<90/\p.2=W7 j)->Q (.ref t) H')->JR K vs H Q E
inductive LY(H:Hp)(cl pl jl:Addr)(i:Nat):St->Hp->Prop
 | mk (rl o4 o5 o6 o7 o8 o9 Q9 o11 ps js Zt):mF H H'->Zw H' pl ps->Yp H' jl js->Zw H' rl Zt->Xs i (2 * i) ps js Zt->H rl=none->rl≠pl->rl≠jl->LY H cl pl jl i [some (.ref cl),some<|.ref pl,some<|.ref jl,some<|.ref rl,o4,o5,o6,o7,o8,o9,Q9,o11] H'
inductive JH(H:Hp)(pl jl rl lf:Addr)(i:Nat)(pn:List Zh)(H':Hp):Prop
 | mk (rest' fresh' js'):mF H H'->Zw H' pl pn->Yp H' jl js'->Zw H' rl rest'->Zw H' lf fresh'->Xs (i+1) (2 * i+1) pn js' (rest'++fresh')->JH H pl jl rl lf i pn H'
def Zny:T.eK.O P w mg mG 3 (JR K):=by
 refine T.eK.F.okW Ym ?_;rfl'
 ·obtain⟨cl,cs,rfl,w9,N2,x,q⟩:=h;intro X D;refine mP (nk 1 Ym<|Zn Za) #[mQ,λe x s1 n1 e1=>?_];refine mP (nk 2 Ym<|Zn Za) #[mQ,λg x s2 n2 e2=>?_];refine mP (nk 3 Ym<|Zn Za) #[mQ,λrl0 H3 s3 n3 e3=>?_];have A9:=s1.trans<|s2.trans s3;have fp:H e=none:=n1;have fj:H g=none:=s1.free n2;have fr0:H rl0=none:=s1.free<|s2.free n3;have npj:e≠g:=Zf e1 n2;have nrp:rl0≠e:=oY<|Zf (s2.at e1) n3;have nrj:rl0≠g:=oY<|Zf e2 n3;have hp0:Zw H3 e []:=#[[],s3.at<|s2.at e1,.nil]
  have hj0:Yp H3 g []:=#[[],s3.at e2,.nil]
  have hr0:Zw H3 rl0 []:=#[[],e3,.nil]
  clear s1 s2 s3 n1 n2 n3 e1 e2 e3;refine mP (Xh pG rfl (Ao rfl T.cR<|Zb (pv 0) Za) (tL rfl<|Z3 (oq 4 Ym)<|Z3 (oq 5 Ym) Xz) Zo) #[A9.seq w9,AV (xs:=cs.map V.int) (LY H cl e g)
   (.mk rl0 none none none none none none none none _ _ _ A9 hp0 hj0 hr0 Xs.start fr0 nrp nrj) ?_ ?_ ?_]
  ·rintro i z H' _ ⟨_,_,_,_,_,_,_,_,_,_,_,_,sm,_⟩;show sm.seq w9
  ·rintro i v z H4 hi ⟨rl,o4,o5,o6,o7,o8,o9,Q9,o11,ps,js,Zt,s4,u6,x9,P3,l,frl,d,Y⟩ tp H5 s5 n5 e5;rw[nR]at hi;obtain⟨c,hc,rfl⟩:=nW.mp hi;have hi63:i<63:=by
    have:=(pr.mp hc).1;lia
   have hc0:0<=c:=N2 c<|pE hc;refine#[mW e5,rfl,rfl,?_];obtain⟨N,Q5,hkm⟩:∃N:lT,oJ [V.str "plain",.str "plain",.str "plain",.str "points",.str "points",.str "cross",.str "gate",.str "stop"] (c%8)=some (.str N)/\N∈qk:=by
    have h0:=pY c (show(8:Int)≠0 by lk);have h1:=qg c (show(0:Int)<8 by lk);generalize c%8=m at h0 h1;have:m=0\/m=1\/m=2\/m=3\/m=4\/m=5\/m=6\/m=7:=by lia
    rcases this with rfl|rfl|rfl|rfl|rfl|rfl|rfl|rfl<;>show#[_,rfl,by simp[qk]]
   obtain⟨u,p,g3,I,G,C⟩:=BA N hkm;refine mP (nk 6 Ym<|nq (Zn<|Zb Zg<|Zb Zg<|Zb Zg<|Zb Zg<|Zb Zg<|Zb Zg<|Zb Zg<|Zb Zg Za)<|Zq Yn (pv 5) Ze) #[mQ,λlk H6 s6 n6 e6=>#[(by change(0:Int)<8;decide),.inl #[mU e6,Q5,?_]]];refine mP (nk 7 Ym<|Zv (Mh T) hr<|Zb (pv 6) Za) #[N,rfl,λle u s7 n7 e7=>?_];have s47:=s5.trans<|s6.trans s7;have M7:=s4.trans s47;have nl1:e≠le:=let⟨_,y,_⟩:=u6;Zf ((s5.trans s6).at y) n7;have nl2:g≠le:=let⟨_,y,_⟩:=x9;Zf ((s5.trans s6).at y) n7;have u6:=u6.mono s47;have x9:=x9.mono s47;have P3:=P3.mono s47;obtain⟨ts,ht,j8⟩:=u6;obtain⟨rs,E7,O3⟩:=P3;have c1:=nJ j8;have c2:=nJ O3;refine mP (Zu (Ye zo (Zq Wl (Zq Wl (pI T.bw<|pv 1)<|pI T.bw<|pv 3)<|pI T.bw<|pv 7) Ze<|Yq _) Zo Zj)<|.inl #[.inl<|mU ht,.inl #[.inl<|mU E7,.inl<|.inl #[.inl<|mU e7,.inl<|Yf (λhgt=>?_) λhgt=>?_]]]
   ·show mS Ztu<|.mk rl _ _ _ _ _ _ _ _ ps js Zt M7 #[ts,ht,j8] x9 #[rs,E7,O3] (l.mono (by lia)<|by lia) frl d Y
   have hgt:ps.length+Zt.length+(Yr N).length<=38:=by
    have y:¬(((ts.map V.ref).length:Int)+((rs.map V.ref).length:Int)+(((Yr N).map V.str).length:Int)>38):=λy=>hgt<|nZ y
    rw[mO,mO,mO]at y;lia
   obtain⟨n,hn⟩:∃n,n=Yt N (sU<|c / 8) i:=#[_,rfl]
   refine mP (nk 8 Ym<|Zv (Mu T) hr<|Zb (pv 6)<|Zb (Zq Ys (pv 5) Ze)<|Zb (pv 4) Za) #[#[by lk,by lk],N,c / 8,i,rfl,g3,by lia,Int.ediv_nonneg hc0 (by lk),by lia,?_];rw[<-hn];refine mP (Z1<|rB (pv 1)<|Zi<|Zb (pv 6)<|Zb (pv 8) Za) #[.inl #[rfl,_,mU ht],mQ,λt8 H8 s8 n8 e8=>#[s8.at ht,?_,?_]]
   ·rw[mO];show Zp (by lia)
   have ok8:=l.add (c:=sU<|c / 8) (by lia) hkm hgt;rw[<-hn]at ok8;obtain⟨us,hu,j7⟩:=x9.mono s8;have p9:Zw (mM H8 e<|.lst<|ts.map V.ref++[.ref t8]) e (ps++[(N,n)]):=#[ts++[t8],by rw[Zc,nw];rfl,Ws (pj (nO j8 λ_ _ r=>r.mono s8)<|.cons e8 .nil)<|s8.at ht]
   have j9:Yp (mM H8 e<|.lst<|ts.map V.ref++[.ref t8]) g js:=#[us,(Zd<|oY npj).trans hu,wJ j7<|s8.at ht]
   have r9:Zw (mM H8 e<|.lst<|ts.map V.ref++[.ref t8]) rl Zt:=#[rs,(Zd d).trans (s8.at E7),Ws (nO O3 λ_ _ r=>r.mono s8)<|s8.at ht]
   have e9:mM H8 e (.lst<|ts.map V.ref++[.ref t8]) le=_:=(Zd<|oY nl1).trans (s8.at e7);have s09:mF H (mM H8 e<|.lst<|ts.map V.ref++[.ref t8]):=λb o y=>(Zd<|Zf y fp).trans (s8.at<|M7.at y)
   generalize(mM H8 e<|.lst<|ts.map V.ref++[.ref t8])=H9 at p9 j9 r9 e9 s09;have O2:=l;clear j8 O3 ht E7 hu j7 s8 s47 M7 x9 l n8 e8;refine mP (Ap 9 ["_law_end","_law_name"] Ym (ph 1 [8] rfl) (Yl<|pv 7) (oK 0) X5 (Zi<|Zb (pv 1)<|Zb (pv 0) Za)) #[mU e9,λlf V2=>?_];refine Mn (xs:=Yr N) (x:=n) e9 (by lia) V2 (λu w6 f10=>?qq) ?aa ?bb
   case aa=>rfl
   case bb=>rfl
   have p10:=p9.mono w6;have j10:=j9.mono w6;have r10:=r9.mono w6;have s010:=s09.trans w6;have flf:H lf=none:=s09.free V2;have nfp:lf≠e:=let⟨_,y,_⟩:=p9;oY (Zf y V2);have nfj:lf≠g:=let⟨_,y,_⟩:=j9;oY (Zf y V2);have nfr:lf≠rl:=let⟨_,y,_⟩:=r9;oY (Zf y V2);clear p9 j9 r9 s09 e9 w6;let I3:IC:=λz H'=>z=[some (.ref cl),some<|.ref e,some<|.ref g,some<|.ref rl,some<|.int i,some<|.int c,some<|.str N,some<|.ref le,some<|.str n,some<|.ref lf,Q9,o11]/\JH H e g rl lf i (ps++[(N,n)]) H'
   refine qh I3 ?_ ?_
   ·refine qf (Zu (qU hr (pv 3)<|Zn Za) Zo Zj) #[mQ,λl0 H11 C4 u p=>.inr<|.inl #[2,.lst<|Zt.map oS,.lst [],by lk,.inr #[_,_,rfl,rfl],Zw.im<|r10.mono C4,vK (mU p) .nil,Yf (λw4=>?_) λw4=>?_]]
    ·have w4:0<Zt.length:=by
      cases Zt with
      | nil=>simp at w4
      | cons=>simp
     obtain⟨U5,p,hrs1⟩:=r10.mono C4;obtain⟨u,hf1,I⟩:=f10.mono C4;obtain⟨us1,V6,hus1⟩:=j10.mono C4;have cr:=nJ hrs1;have cf:=nJ I;have cu:=nJ hus1;rw[mO]at cf;have hjl1:=O2.jl;obtain⟨G,hk1,C⟩:=uc (a:=c / 24) (n:=(U5.map V.ref).length) (by rw[mO];lia);obtain⟨k2,U9,B⟩:=uc (a:=c / 100) (n:=(u.map V.ref).length) (by rw[mO];lia);obtain⟨ta,hta⟩:∃ta,U5[G]? =some ta:=#[_,oE (by rw[mO]at C;show C)]
     obtain⟨tb,htb⟩:∃tb,u[k2]? =some tb:=#[_,oE (by rw[mO]at B;show B)]
     obtain⟨qa,hqa,hqat⟩:=oQ hrs1 hta;obtain⟨qb,hqb,hqbt⟩:=oQ I htb;refine mS (Z1<|rB (pv 2)<|Zi<|Zb (AD yO AO GF Pi (pv 3)<|Zb (Zq Yn (Zq Ys (pv 5) Ze)<|pI T.bw<|pv 3) Za)<|Zb (AD yO AO GF Pi (pv 9)<|Zb (Zq Yn (Zq Ys (pv 5) Ze)<|pI T.bw<|pv 9) Za) Za) #[.inl #[rfl,_,mU V6],.inl #[rfl,_,mU p],#[by lk,by lk],.inl #[.inl<|mU p,by lia,rl,_,_,G,.ref ta,rfl,rfl,p,by lia,by rw[mO]at C;lia,by rw[hk1];show Lb C,by rw[nR,hta];rfl,?_]];have r12:=Zw.erased p hrs1 G;have f12:=Zw.offL (o:=.lst<|(U5.map V.ref).eraseIdx G) #[u,hf1,I] p nfr;have p12:=(p10.mono C4).offL (o:=.lst<|(U5.map V.ref).eraseIdx G) p (oY d);have hu12:mM H11 rl (.lst<|(U5.map V.ref).eraseIdx G) g=_:=(Zd<|oY Y).trans V6;have hus12:=wJ (o:=.lst<|(U5.map V.ref).eraseIdx G) hus1 p;have C3:mM H11 rl (.lst<|(U5.map V.ref).eraseIdx G) lf=_:=(Zd nfr).trans hf1;have hfs12:=Ws (o:=.lst<|(U5.map V.ref).eraseIdx G) I p;have a12:=hqat.offL (o:=.lst<|(U5.map V.ref).eraseIdx G) p;have b12:=hqbt.offL (o:=.lst<|(U5.map V.ref).eraseIdx G) p;have B9:mF H (mM H11 rl<|.lst<|(U5.map V.ref).eraseIdx G):=λb o y=>(Zd<|Zf y frl).trans (C4.at<|s010.at y)
     generalize(mM H11 rl<|.lst<|(U5.map V.ref).eraseIdx G)=H12 at r12 f12 p12 hu12 hus12 C3 hfs12 a12 b12 B9;refine#[.inl #[rfl,_,mU C3],#[by lk,by lk],.inl #[.inl<|mU C3,by lia,lf,_,_,k2,.ref tb,rfl,rfl,C3,by lia,by rw[mO]at B;lia,by rw[U9];show Lb B,by rw[nR,htb];rfl,?_]];have f13:=Zw.erased C3 hfs12 k2;have r13:=r12.offL (o:=.lst<|(u.map V.ref).eraseIdx k2) C3<|oY nfr;have p13:=p12.offL (o:=.lst<|(u.map V.ref).eraseIdx k2) C3<|oY nfp;have hu13:mM H12 lf (.lst<|(u.map V.ref).eraseIdx k2) g=_:=(Zd<|oY nfj).trans hu12;have hus13:=wJ (o:=.lst<|(u.map V.ref).eraseIdx k2) hus12 C3;have a13:=a12.offL (o:=.lst<|(u.map V.ref).eraseIdx k2) C3;have b13:=b12.offL (o:=.lst<|(u.map V.ref).eraseIdx k2) C3;have v6:mF H (mM H12 lf<|.lst<|(u.map V.ref).eraseIdx k2):=λb o y=>(Zd<|Zf y flf).trans (B9.at y)
     generalize(mM H12 lf<|.lst<|(u.map V.ref).eraseIdx k2)=H13 at f13 r13 p13 hu13 hus13 a13 b13 v6;refine#[mQ,λtj H14 U n14 iE=>#[U.at hu13,?_,?_]]
     ·rw[mO];show Zp (by lia)
     have hu14:=U.at hu13;have hqn:qb.1=n:=by
      rw[nR]at hqb;obtain⟨x,_,rfl⟩:=nW.mp hqb
      rfl
     have hqo:qa.1≠qb.1:=by
      rw[hqn,hn];have h1:=AM<|O2.net.perm.subset<|qm _<|pE hqa;show λy=>O2.new (by lia) hkm<|y ▸ h1
     refine#[rfl,.mk (Zt.eraseIdx G) _ (js++[(qa,qb)]) (λb o y=>(Zd<|Zf y fj).trans (U.at<|v6.at y)) ((p13.mono U).offL hu14 npj) #[us1++[tj],?_,?_] ((r13.mono U).offL hu14 Y) ((f13.mono U).offL hu14 nfj)<|ok8.join (Zz6 hqa hqb) hqo]
     ·rw[Zc,nw];rfl
     ·show wJ (pj (nO hus13 λ_ _ r=>r.mono U)<|.cons #[ta,tb,iE,a13.mono U,b13.mono U] .nil) hu14
    ·show#[rfl,.mk Zt _ js (s010.trans C4) (p10.mono C4) (j10.mono C4) (r10.mono C4) (f10.mono C4)<|ok8.mono (nH _)<|by lia]
   rintro z H12 ⟨rfl,⟨rest2,fresh2,js2,s012,p12,j12,⟨u,hr12,hrs2⟩,⟨u,C3,hfs2⟩,R0⟩⟩;have sm12:=R0.sum;have cr:=nJ hrs2;have cf:=nJ hfs2;rw[oj,oj]at sm12;refine mP (nk 3 Ym<|Zq Wl (pv 3)<|pv 9)<|.inr<|.inr #[hr12,C3,?_,λrm H13 v6 n13 ji=>?_]
   ·rw[mO,mO];show sz (by lia)
   have r13:Zw H13 rm (rest2++fresh2):=Zw.app (nO hrs2 λ_ _ r=>r.mono v6) (nO hfs2 λ_ _ r=>r.mono v6) ji;have p13:=p12.mono v6;have j13:=j12.mono v6;have s013:=s012.trans v6;have frm:H rm=none:=s012.free n13;have nmp:rm≠e:=let⟨_,y,_⟩:=p12;oY (Zf y n13);have nmj:rm≠g:=let⟨_,y,_⟩:=j12;oY (Zf y n13);clear hr12 C3 hrs2 hfs2 p12 j12 s012 v6 p10 j10 r10 f10 s010 ji;obtain⟨op,hop⟩:∃op,op=rest2++fresh2:=#[_,rfl]
   rw[<-hop]at r13 R0;have hopl:op.length<=39:=by rw[hop,oj];lia
   clear hop sm12 cr cf;obtain⟨rs,hrm,O3⟩:=r13;have crs:=nJ O3;refine mP (Ap 10 ["_law_end","_law_rest"] Ym (ph 1 [3] rfl) (Yl<|X6 (r:=rY K) sI (pv 3) (We Ze) Wu) (oK 0) (uH<|Ye (r:=uj K) (wC hr) (Wx (K:=K) rfl (pv 0) Ze) (Wx (K:=K) rfl (Wx (K:=K) rfl (pv 1) Ze) Ze)<|Yq _) (pv 0))<|.inr<|.inl #[mU hrm,λu H14 U n14 iE=>#[mU iE,λD hD=>?_]];rw[show(some (1:Int))=some ((1:Nat):Int)from rfl,zd,<-Ij]at iE;have T1:Paired (Zr H14) rs op:=nO O3 λ_ _ r=>r.mono U
   have M:=U.at hrm;obtain⟨q0,hq0⟩:∃q0,q0=op.getD 0 ("",""):=#[_,rfl]
   refine Jp (keep:=λx=>decide<|x.1≠q0.1) (w:=some<|.ref rm) iE (Ztl T1 1) (by rw[yc];lia) hD (λH15 K1 f15=>?q2) ?a2 ?b2
   case a2=>rfl
   case b2 =>
    intro t x H' R sm hx hm hR;cases T1 with
    | nil=>simp at hm
    | cons r0 _ =>
     subst hq0;refine(.inr<|.inl #[mW hx,rfl,.inl #[mU<|sm.at M,(show oJ _ ((0:Nat):Int)=_ from Zm rfl),.inr<|.inl #[mW<|sm.at r0,rfl,.inl #[rfl,?_]]]]);change R _ H';simpa using hR
   obtain⟨U1,hnear⟩:∃U1,U1=(op.drop 1).filter λx=>decide (x.1≠q0.1):=#[_,rfl]
   rw[<-hnear]at f15;have p15:=(p13.mono U).mono K1;have j15:=(j13.mono U).mono K1;have L:=K1.at M;have J:Paired (Zr H15) rs op:=nO T1 λ_ _ r=>r.mono K1
   have s015:=s013.trans<|U.trans K1;clear p13 j13 s013 U K1 M T1 hrm O3 iE;refine mS (Zu (pN<|uC (qU hr (pv 10)<|Zn Za)<|vc<|W0 hr (Zq Yn (Zq Ys (pv 5) Ze) Ze) Ze) Zo Zj) #[mQ,λl0 H16 j u p=>.inr<|.inl #[2,.lst<|U1.map oS,.lst [],by lk,.inr #[_,_,rfl,rfl],Zw.im<|f15.mono j,vK (mU p) .nil,Yf (λw4=>?_) λw4=>?_]]
   ·refine#[#[by lk,by lk],(by change(0:Int)<3;decide),.inl #[rfl,Yf (λ_=>?_) λ_=>?_]]
    ·obtain⟨ns,hnl,E6⟩:=f15.mono j;have cn:=nJ E6;have hnl0:0<U1.length:=by
      cases U1 with
      | nil=>simp at w4
      | cons=>simp
     obtain⟨k3,hk3,hk3l⟩:=uc (a:=c / 1500) (n:=(ns.map V.ref).length) (by rw[mO];lia);obtain⟨to,hto⟩:∃to,ns[k3]? =some to:=#[_,oE (by rw[mO]at hk3l;show hk3l)]
     obtain⟨q3,hq3,hq3t⟩:=oQ E6 hto;have hq3m:q3∈U1:=pE hq3;refine mP (nk 11 Ym<|nq (pv 10)<|Zq Yn (Zq Ys (pv 5) Ze)<|pI T.bw<|pv 10) #[#[by lk,by lk],.inl #[.inl<|mU hnl,by lia,.inl #[mU hnl,(show oJ _ _=some (.ref to)from by rw[hk3];show Zm<|by rw[nR,hto];rfl),?_]]];obtain⟨us,hu,j7⟩:=j15.mono j;have cu:=nJ j7;have hju:=R0.jl;have G:=j.at L;have hrs16:Paired (Zr H16) rs op:=nO J λ_ _ r=>r.mono j
     rw[hnear]at hq3m;obtain⟨hqd,hqk⟩:=tY.mp hq3m;have hqk:q3.1≠q0.1:=pD hqk;obtain⟨t0,S3,tl,rfl,rfl,r0,hrt⟩:∃t0 S3 tl,rs=t0 ::S3/\op=q0 ::tl/\Zr H16 t0 q0/\Paired (Zr H16) S3 tl:=by
      cases hrs16 with
      | nil=>simp at hqd
      | cons r0 rt=>show#[_,_,_,rfl,by rw[hq0];rfl,by rw[hq0];show r0,rt]
     have hqd:q3∈tl:=hqd;refine mP (Z1<|rB (pv 2)<|Zi<|Zb (pv 11)<|Zb (nq (pv 3) Ze) Za) #[.inl #[rfl,_,mU hu],.inl #[mU G,(show oJ _ ((0:Nat):Int)=_ from Zm rfl),mQ,λtj H17 K2 n17 jW=>#[K2.at hu,?_,?_]]]
     ·rw[mO];show Zp (by lia)
     have p:=K2.at hu;have j18:Yp (mM H17 g<|.lst<|us.map V.ref++[.ref tj]) g (js2++[(q3,q0)]):=#[us++[tj],by rw[Zc,nw];rfl,wJ (pj (nO j7 λ_ _ r=>r.mono K2)<|.cons #[to,t0,jW,hq3t.mono K2,r0.mono K2] .nil) p]
     have p18:=((p15.mono j).mono K2).offL (o:=.lst<|us.map V.ref++[.ref tj]) p npj;have C:mM H17 g (.lst<|us.map V.ref++[.ref tj]) rm=_:=(Zd nmj).trans (K2.at G);have B:=Ws (o:=.lst<|us.map V.ref++[.ref tj]) (nO hrt λ_ _ r=>r.mono K2) p;have q18:=(hq3t.mono K2).offL (o:=.lst<|us.map V.ref++[.ref tj]) p;have P8:mF H (mM H17 g<|.lst<|us.map V.ref++[.ref tj]):=λb o y=>(Zd<|Zf y fj).trans (K2.at<|j.at<|s015.at y)
     generalize(mM H17 g<|.lst<|us.map V.ref++[.ref tj])=H18 at j18 p18 C B q18 P8;refine mS (nk 3 Ym<|pH ["_law_end","_law_other"] (ph 1 [11] rfl) (Yl<|X6 (r:=rY K) sI (pv 3) (We Ze) Wu) (oK 0) (uH<|Ye (r:=uj K) (wC hr) (pv 0) (pv 1)<|Yq _) (pv 0))<|.inr<|.inl #[mU C,λl2 H19 I n19 e19=>#[mU e19,λD2 A6=>?_]];rw[show(some (1:Int))=some ((1:Nat):Int)from rfl,zd,<-Ij]at e19;have q19:=q18.mono I;refine Jp (ts:=S3) (qs:=tl) (keep:=λx=>decide<|x≠q3) (w:=some<|.ref to) e19 (nO B λ_ _ r=>r.mono I) (by simp at hopl;lia) A6 (λH20 s20 f20=>?q4) ?a4 ?b4
     case a4=>rfl
     case b4 =>
      intro t x H' R sm hx hm hR;refine(.inr<|.inl #[1,oS x,oS q3,by lk,.inl #[_,_,rfl,rfl],vL (mW hx)<|.cons (.str _)<|.cons (.str _) .nil,vL (mW<|q19.mono sm)<|.cons (.str _)<|.cons (.str _) .nil,?_]);have:(!decide (oS x=oS q3))=decide (x≠q3):=by
       rw[rF];simp[oS,Prod.ext_iff]
      rw[mY rfl,this];show hR
     have u:=I.trans s20;show .mk D2 _ _ _ _ _ _ _ _ _ _ _ (P8.trans u) (p18.mono u) (j18.mono u) f20 ((R0.join (Vq R0.net.ond hqd) hqk).mono (by lia) (by lia)) ((P8.trans I).free A6) (let⟨_,y,_⟩:=p18;oY (Zf (I.at y) A6)) (let⟨_,y,_⟩:=j18;oY (Zf (I.at y) A6))
    ·show .mk rm _ _ _ _ _ _ _ _ _ _ _ (s015.trans j) (p15.mono j) (j15.mono j) #[rs,j.at L,nO J λ_ _ r=>r.mono j] (R0.mono (by lia)<|by lia) frm nmp nmj
   ·show .mk rm _ _ _ _ _ _ _ _ _ _ _ (s015.trans j) (p15.mono j) (j15.mono j) #[rs,j.at L,nO J λ_ _ r=>r.mono j] (R0.mono (by lia)<|by lia) frm nmp nmj
  ·rintro z H4 ⟨rl,o4,o5,o6,o7,o8,o9,Q9,o11,ps,js,Zt,s4,u6,x9,P3,l,frl,d,Y⟩;rw[mO]at l;have M:=l.sum;have L:=l.jl;refine mP (Z1<|Zv (Vd T) hr<|Zb (pv 1)<|Zb (pv 2)<|Zb (pv 3)<|Zb (Yc (Zz1 rfl) (by rfl) T.jG PyProof.Rows.boot_sum<|Zb (pv 0) Za) Za) #[cl,cs,rfl,s4.seq w9,e,g,rl,zD cs,ps,js,Zt,rfl,u6,x9,P3,npj,d,Y,by lia,by lia,by lia,λH5 J p I r n x=>?_];have u:=l.done (by lia) x;have hnl:J.length=Zt.length:=by obtain⟨G,hk1,U9,hk3,U⟩:=x;rw[hk3,mO,Cm]
   refine mS (Zl<|Zi<|Zb (pv 1)<|Zb (pv 2) Za) #[mQ,λt H6 s6 n6 e6=>q t H6 e g _ _ 0 (λb o y=>s6.at<|I b o (Zf y fp) (Zf y fj)<|s4.at y) e6 (r.mono s6) (n.mono s6) fp fj u ?_ ?_]
   ·rw[oj];lia
   ·intro p C;rcases oA.mp C with y|y
    ·obtain⟨N,h1,c,k,B,j⟩:=l.nm p y;show .inl #[N,h1,c,k,by lia,j]
    ·obtain⟨G,hk1,U9,hk3,U⟩:=x;rw[hk3]at y;obtain⟨j,B,rfl⟩:=mZ.mp y;show .inr #[j,by have:=AT.mp B;lia,rfl]
def qQ(n k:Nat):lT:=("s":lT)++Str.ofString (toString (n:Int))++(#[(List.toArray [qH.getD (k / 26) 0])]:lT)++(#[(List.toArray [qH.getD (k%26) 0])]:lT)
def Hd:∀i<26,qH.getD i 0=97+i:=by lk
def Co(n k:Nat):(qQ n k).cps.toList=(("s":lT)++Str.ofString (toString (n:Int))).cps.toList++[qH.getD (k / 26) 0]++[qH.getD (k%26) 0]:=by
 unfold qQ;rw[wZ,wZ]
def US(q:k<600)(u:z<600)(h:qQ n k=qQ p z):k=z:=by
 have:=oN (λs:lT=>s.cps.toList) h;simp only[Co]at this;obtain⟨r,y⟩:=List.append_inj' this rfl;obtain⟨_,x⟩:=List.append_inj' r rfl;rw[zr]at y x;rw[Hd _ (by lia),Hd _<|by lia]at y x;lia
def AF(H:Hp)(t:lU)(q:lT×lT×lT):Prop:=H t=some (.tup [.str q.1,.str q.2.1,.str q.2.2])
def uq(H:Hp)(l:lU)(y:lS (lT×lT×lT)):Prop:=∃z:lS lU,H l=some (.lst<|z.map V.ref)/\Paired (AF H) z y
def X2(ps:lS Zh):lS Zh:=ps.flatMap λp=>if p.1∈[("plain":lT),"gate","stop"]then(Yr p.1).map (λx=>(p.2,x))else[]
def QW(ps:lS Zh)(p:Zh):X2 (ps++[p])=X2 ps++(if p.1∈[("plain":lT),"gate","stop"]then(Yr p.1).map (λx=>(p.2,x))else[]):=by
 unfold X2;rw[yQ];simp
structure rZ(es:List Zh)(i:Nat)(sg:List (Str×Str×Str)):Prop where
 at_:(sg.map λq=>((q.2.1,q.2.2):Zh)).Sublist (es.take i)
 name:∀q∈sg,q.1=q.2.1\/∃n k,n<99/\k<i/\q.1=qQ n k
 nd:(sg.map fst).Nodup
 len:sg.length<=40
def rZ.skip(h:rZ y i x):rZ y (i+1) x:=by
 refine#[h.at_.trans ?_,λq u=>?_,h.nd,h.len]
 ·rw[ou];show OU _ _
 ·rcases h.name q u with z|⟨n,k,a,b,c⟩
  ·show .inl z
  ·show .inr #[n,k,a,by lia,c]
def rZ.add(h:rZ u i x)(he:u[i]? =some e)(s:nm=e.1\/∃n,n<99/\nm=qQ n i)(r:nm∉x.map fst)(l:x.length<40):rZ u (i+1) (x++[(nm,e.1,e.2)]):=by
 refine#[?_,λq p=>?_,?_,by rw[oj];simp;lia]
 ·rw[ou,he,nw];show List.Sublist.append h.at_<|List.Sublist.refl _
 ·rcases oA.mp p with z|z
  ·show h.skip.name q z
  ·rw[pQ]at z;subst z;rcases s with y|⟨n,a,b⟩
   ·show .inl y
   ·show .inr #[n,i,a,by lia,b]
 ·rw[nw,qG];refine#[h.nd,by simp,λa o b y z=>?_];simp at y;show r (by rw[<-y,<-z];show o)
def rZ.fresh(h:rZ y i s)(x:i<600)(r:∀n k e,e∈y->n<99->k<600->e.1≠qQ n k)(p:n<99):qQ n i∉s.map fst:=λo=>by
 obtain⟨q,u,e⟩:=mZ.mp o;rcases h.name q u with z|⟨l,k,a,b,c⟩
 ·have:((q.2.1,q.2.2):Zh)∈y:=yD<|h.at_.subset<|mZ.mpr #[q,u,rfl];show r n i _ this p x<|z.symm.trans e
 ·have:=US x (by lia)<|e.symm.trans c;lia
def uq.mono(e:mF H z)(h:uq H l y):uq z l y:=let⟨x,u,s⟩:=h;#[x,e.at u,nO s λ_ _ r=>e.at r]
inductive JK(K:lY):Sp
 | mk (pl c) (ps:lS Zh):vs=[.ref pl,.int c]->Zw H pl ps->ps.length<=45->(∀n k e,e∈X2 ps->n<99->k<600->e.1≠qQ n k)->(∀(l:lU)(H':Hp)(sg:lS (lT×lT×lT)),mF H H'->H l=none->uq H' l sg->rZ (X2 ps) (X2 ps).length sg->Q (.ref l) H')->JK K vs H Q E
def Cj(k:lT):(Yr k).length<=4:=by
 unfold Yr;split
 ·decide
 ·split
  ·decide
  ·split<;>decide
theorem CT:∀ps:lS Zh,(X2 ps).length<=4 * ps.length
 | []=>by simp[X2]
 | p ::ps=>by
  have:=CT ps;have z:=Cj p.1;rw[show X2 (p ::ps)=(if p.1∈[("plain":lT),"gate","stop"]then(Yr p.1).map (λx=>((p.2,x):Zh))else[])++X2 ps from rfl,oj,pi];split
  ·rw[mO];lia
  ·simp;lia
def Oc:∀n<99,(Str.ofString<|toString ((n:Nat):Int)).length<=2:=by left
def Tt:∀n<99,(((n:Nat):Int).natAbs).log2<1920:=by left
def TY:T.df.O P w mg mG 2 (JK K):=by
 refine T.df.F.okW Ya ?_;rfl'
 ·obtain⟨pl,c,g,rfl,⟨ts,j8,R1⟩,x,w4,q⟩:=h;intro X D;have E1:ts.length=g.length:=nJ R1;refine mP (nk 2 Ya Zg) ?_;refine mP (nk 3 Ya<|Zn Za) #[mQ,λl0 x s1 u e1=>?_];let I4:IF:=λi z d=>∃le,(∃o4 C B,z=[some (.ref pl),some<|.int c,some<|.str "abcdefghijklmnopqrstuvwxyz",some<|.ref le,o4,C,B,none,none,none,none])/\mF H d/\Zw d le (X2<|g.take i)
  refine mP (Xh pG rfl (Yl<|pv 0) (tL rfl<|Z3 (oq 4 Ya)<|Z3 (oq 5 Ya) Xz) Zo) #[mU<|s1.at j8,Wr (xs:=ts.map V.ref) I4 #[l0,#[none,none,none,rfl],s1,[],e1,.nil] ?_ ?_ ?_]
  ·rintro i z d _ ⟨_,_,sm,_⟩;show mU<|sm.at j8
  ·rintro i v z H2 hi ⟨le,⟨o4,C,B,rfl⟩,J,a,L9,Y⟩;rw[nR]at hi;obtain⟨t,e,rfl⟩:=nW.mp hi;obtain⟨p,hp,rp⟩:=oQ R1 e;have D5:i<ts.length:=(pr.mp e).1;have U:=CT<|g.take i;rw[oy]at U;have F2:a.length=(X2<|g.take i).length:=nJ Y;have u:X2 (g.take<|i+1)=X2 (g.take i)++(if p.1∈[("plain":lT),"gate","stop"]then(Yr p.1).map (λx=>((p.2,x):Zh))else[]):=by
    rw[ou,hp];show QW _ _
   refine#[mW<|J.at rp,rfl,rfl,?_];refine mS (Zu (vq hr (pv 4)<|Zn<|Zb Zg<|Zb Zg<|Zb Zg Za) Zo Zj) #[mQ,λlk H3 I n3 e3=>.inl #[.inl<|mU e3,rfl,rfl,?_]];rw[mV oW,show uM (.str p.1) [.str "plain",.str "gate",.str "stop"]=decide (p.1∈[("plain":lT),"gate","stop"])from vM p.1 ["plain","gate","stop"]];refine Yf (λo=>?_) λo=>#[le,#[_,_,_,rfl],J.trans I,?_]
   ·have o:=pD o;rw[mY o]at u;refine mS (nk 3 Ya<|Zq Wl (pv 3)<|pH ["_law_end","_law_name"] (ph 1 [5] rfl) (Yl<|Zv (Mh T) hr<|Zb (pv 4) Za) (oK 0) X5 (Zi<|Zb (pv 1)<|Zb (pv 0) Za)) #[p.1,rfl,λx H4 G n M=>#[mU M,λD hD=>?_]];have T8:=Cj p.1;refine Mn (xs:=Yr p.1) (x:=p.2) M (by lia) hD (λH5 s5 f5=>?qq) ?aa ?bb
    case aa=>rfl
    case bb=>rfl
    case qq =>
     obtain⟨vs,hv,L⟩:=f5;have O4:vs.length=(Yr p.1).length:=by rw[nJ L,mO]
     have x:=I.trans<|G.trans s5;refine .inr<|.inr #[x.at L9,hv,by rw[mO,mO];show sz (by lia),λln H6 n n6 e6=>#[ln,#[_,_,_,rfl],J.trans<|x.trans n,?_]];rw[u];show#[a++vs,by rw[e6,nw],pj (nO Y λ_ _ r=>(x.trans n).at r)<|nO L λ_ _ r=>n.at r]
   ·have o:¬p.1∈[("plain":lT),"gate","stop"]:=λy=>o<|nZ y
    rw[u,mV o,qj];show Zw.mono I #[a,L9,Y]
  rintro z H2 ⟨le,⟨o4,C,B,rfl⟩,J,hE⟩;rw[mO,E1,pq]at hE;obtain⟨a,L9,Y⟩:=hE;have U:=CT g;have F2:a.length=(X2 g).length:=nJ Y;obtain⟨es,B5⟩:∃es,es=X2 g:=#[_,rfl]
  rw[<-B5]at Y F2 w4 q U;refine mP (nk 7 Ya<|Zn Za) #[mQ,λlf H3 I n3 e3=>?_];let I5:IF:=λi z d=>(∃C B o8 o9 Q9,z=[some (.ref pl),some<|.int c,some<|.str "abcdefghijklmnopqrstuvwxyz",some<|.ref le,o4,C,B,some<|.ref lf,o8,o9,Q9])/\mF H2 d/\∃j,uq d lf j/\rZ es i j
  refine mP (Xh pG rfl (Ao rfl T.cR<|Zb (pv 3) Za) (tL rfl<|Z3 (oq 8 Ya)<|Z3 (oq 6 Ya) Xz) Zo) #[mU<|I.at L9,AV (xs:=a.map V.ref) I5 #[#[_,_,none,none,none,rfl],I,[],#[[],e3,.nil],#[DH _,(λ_ y=>nomatch y),tX,pJ _]] ?_ ?_ ?_]
  ·rintro i z d _ ⟨_,sm,_⟩;show mU<|sm.at L9
  ·rintro i x' z H4 hi ⟨⟨o5',o6',o8,o9,Q9,rfl⟩,G,j,N,ok⟩ p H5 s5 n5 e5;rw[nR]at hi;obtain⟨te,U4,rfl⟩:=nW.mp hi;obtain⟨e,he,re⟩:=oQ Y U4;have D5:i<a.length:=(pr.mp U4).1;have M:i<600:=by lia
   refine#[mW e5,rfl,rfl,?_];have re5:Zr H5 te e:=s5.at<|G.at re;obtain⟨gs,V2,L⟩:=N.mono s5;have hgl:gs.length=j.length:=nJ L;have B4:=G.trans s5;refine mP (nk 9 Ya<|Xv (Af T) hr rfl T.ap.m T.ap.F.kp T.ap.b .nil Z0<|Zb (pv 1)<|Zb (pv 8) Za) #[c,_,rfl,?_];generalize uP c ((i:Nat):Int)=dr;have skip:∃j,uq H5 lf j/\rZ es (i+1) j:=#[j,#[gs,V2,L],ok.skip]
   refine mS (Zu (pN<|uC (Ye zo (Zq Yn (pv 9) Ze) (Zq Yn (pv 1) Ze)<|Yq _)<|vc<|Ye wr (pI T.bw<|pv 7) Ze<|Yq _) Zo Zj) #[(by change(0:Int)<8;decide),(by change(0:Int)<7;decide),Yf (λ_=>(.inl #[.inl<|mU V2,Yf (λhl=>?_) λ_=>#[#[_,_,_,_,_,rfl],B4,skip]])) λ_=>#[#[_,_,_,_,_,rfl],B4,skip]];have hl:j.length<40:=by
    have:=pD hl;rw[mO]at this;lia
   have m0:=pY (dr / 8) (show(99:Int)≠0 by lk);have m1:=qg (dr / 8) (show(0:Int)<99 by lk);obtain⟨n,hn⟩:∃n:Nat,dr / 8%99=(n:Int):=#[(dr / 8%99).toNat,by lia]
   have u:n<99:=by lia
   have Q4:=Oc n u;have g8:(("s":lT)++Str.ofString (toString (n:Int))).length<=3:=by rw[pU];change 1+_<=3;lia
   have a1:oJ qH ((i:Int) / 26)=some (qH.getD (i / 26) 0):=by
    have:=AL (n:=26) (l:=qH) (i:=(i:Int) / 26) rfl (by lia) (by lia);rw[show((i:Int) / 26).toNat=i / 26 by lia]at this;show this
   have a2:oJ qH ((i:Int)%26)=some (qH.getD (i%26) 0):=by
    have:=AL (n:=26) (l:=qH) (i:=(i:Int)%26) rfl (by lia) (by lia);rw[show((i:Int)%26).toNat=i%26 by lia]at this;show this
   refine mP (nk 10 Ya<|Zq Wl (nq (pv 2)<|Zq Ys (pv 8) Ze)<|nq (pv 2)<|Zq Yn (pv 8) Ze) #[#[by lk,by lk],.inr<|.inr #[_,_,qH.getD (i / 26) 0,rfl,rfl,sz (by rw[CY];decide),by rw[BQ];show a1,(by change(0:Int)<26;decide),.inr<|.inr #[_,_,qH.getD (i%26) 0,rfl,rfl,sz (by rw[CY];decide),by rw[BQ];show a2,.inr<|.inl<|wz rfl rfl #[sz (by change 1+1<=1000;lia),?_]]]];refine mS (Z1<|rB (pv 7)<|Zi<|Zb (Zq Wl (Zq Wl Zg<|Y5 Bt (by rfl) T.fm vZ<|Zb (Zq Yn (Zq Ys (pv 9) Ze) Ze) Za)<|pv 10)<|Zb (nq (pv 6) Ze)<|Zb (nq (pv 6) Ze) Za) #[.inl #[rfl,_,mU V2],#[by lk,by lk],(by change(0:Int)<99;decide),(n:Int),?_,Tt n u,.inr<|.inl<|wz rfl rfl #[sz (by change 1+_<=1000;lia),.inr<|.inl<|wz rfl rfl #[sz (by change _+2<=1000;lia),.inr<|.inl #[mW re5,rfl,.inr<|.inl #[mW re5,rfl,mQ,λt H7 s7 x e7=>#[s7.at V2,by rw[mO];show Zp (by lia),#[_,_,_,_,_,rfl],λb o y=>?_,j++[(qQ n i,e.1,e.2)],#[gs++[t],?_,?_],ok.add he (.inr #[n,u,rfl]) (ok.fresh M w4 u) hl]]]]]]
   ·change[V.int (dr / 8%99)]=[V.int (n:Int)];rw[hn]
   ·rw[Zd (Zf y n3)];show s7.at<|B4.at y
   ·rw[Zc,nw];rfl
   ·have off:∀{b:lU}{o:lS V},H7 b=some (.tup o)->(mM H7 lf<|.lst<|gs.map V.ref++[V.ref t]) b=some (.tup o):=λ{b o} y=>by
     rw[Zd λx=>by rw[x,s7.at V2]at y;cases y];show y
    show pj (nO L λ_ _ r=>off<|s7.at r)<|.cons (off e7) .nil
  ·rintro z H4 ⟨⟨o5',o6',o8,o9,Q9,rfl⟩,G,j,N,ok⟩;refine mS (Zl<|pv 7)<|q lf H4 j (J.trans G) (J.free n3) N ?_;rw[mO,F2]at ok;show ok
def uA(s:lT):Nat:=s.cps.toList.getLastD 0
def PD{x y:lT}(h:0<y.length):uA (x++y)=uA y:=by
 unfold uA;rw[wZ];have:y.cps.toList≠[]:=λz=>by
  have:y.cps.toList.length=0:=by rw[z];rfl
  rw[ub]at this;show absurd h (by change ¬0<y.cps.size;lia)
 obtain⟨u,b,e⟩:=List.eq_nil_or_concat y.cps.toList|>.resolve_left this
 rw[e];simp
def Lm:∀k<100,uA (sv k)<58:=by left
def KJ{kd:lT}{c:Int}{k:Nat}(h:k<100):uA (Yt kd c k)<58:=by
 have z:=Lm k h;have y:=BC k h;unfold Yt;split<;>rw[PD y]<;>show z
def Os{j:Nat}(h:j<100):uA (W7 j)<58:=by
 unfold W7;rw[PD (BC j h)];show Lm j h
def Ya0{n k:Nat}:97<=uA (qQ n k):=by
 unfold uA;rw[Co];have:=Hd (k%26) (by lia);simp only[List.getLastD_concat];lia
def MV{n k:Nat}:2<=(qQ n k).cps.toList.length:=by
 rw[Co,oj,oj];simp
def SD{s:lT}{n k:Nat}(h:s ="g"\/s ="h"\/uA s<58):s≠qQ n k:=λz=>by
 rcases h with rfl|rfl|h
 ·have:=@MV n k;rw[<-z]at this;show absurd this (by lk)
 ·have:=@MV n k;rw[<-z]at this;show absurd this (by lk)
 ·have:=@Ya0 n k;rw[<-z]at this;lia
def Kt{ps:lS Zh}{e:Zh}(h:e∈X2 ps):∃p∈ps,e.1=p.2:=by
 unfold X2 at h;obtain⟨p,z,he⟩:=ui.mp h;refine#[p,z,?_];split at he
 ·obtain⟨x,_,rfl⟩:=mZ.mp he;rfl
 ·cases he
def vw(s:lT):Prop:=s ="g"\/s ="h"\/wu s 63\/∃j,j<90/\s=W7 j
def vw.sig{s:lT}{n k:Nat}(h:vw s):s≠qQ n k:=by
 refine SD ?_;rcases h with h|h|⟨y,c,j,_,z,rfl⟩|⟨j,z,rfl⟩
 ·show .inl h
 ·show .inr<|.inl h
 ·show .inr (.inr<|KJ<|by lia)
 ·show .inr (.inr<|Os<|by lia)
def DR(p:Zh):Prop:=p=((("gate":lT),("g":lT)):Zh)\/p=((("gate":lT),("h":lT)):Zh)\/wu p.2 63\/∃j,j<90/\p.2=W7 j
def DR.nm{p:Zh}(h:DR p):vw p.2:=by
 rcases h with rfl|rfl|h|h
 ·show .inl rfl
 ·show .inr<|.inl rfl
 ·show .inr<|.inr<|.inl h
 ·show .inr<|.inr<|.inr h
structure zm(ps:List Zh)(js:List (Zh×Zh))(sg:List (Str×Str×Str)):Prop where
 net:Net ps js []
 len:ps.length<=39
 name:∀p∈ps,DR p
 sigs:∃K6,K6.Perm ps/\rZ (X2 K6) (X2 K6).length sg
def Net.perm'(h:Net ps s [])(z:r.Perm ps)(u:y.Perm s):Net r y []:=by
 obtain⟨a,b,c,d⟩:=h;rw[qj]at a;refine#[?_,(z.map _).nodup_iff.mpr b,λj x=>c j<|u.mem_iff.mp x,λp x=>d p<|z.mem_iff.mp x];rw[qj];show((u.flatMap_right _).trans a).trans (z.flatMap_right _).symm
def YT(h:wu s n)(l:n<=m):wu s m:=let⟨z,c,k,a,b,e⟩:=h;#[z,c,k,a,by lia,e]
def WQ(h:Hj s n):wu s n:=by
 obtain⟨z,y,c,k,a,e⟩:=h;refine#[z,c,k,?_,a,e];have:∀z∈qk,96<z.cps.toList.getD 0 0/\z.cps.toList.getD 0 0<123:=by left
 show this z y
def Hm{z y:Type}{R:z->y->Prop}{x:lS z}{u:lS y}(h:Paired R x u):Paired R x.reverse u.reverse:=by
 induction h with
 | nil=>show .nil
 | cons r _ s=>rw[BK,BK];show pj s<|.cons r .nil
theorem Lu{z y:Type}{R:z->y->Prop}:∀(n:Nat){x:lS z}{u:lS y},Paired R x u->Paired R (x.drop n) (u.drop n)
 | 0,_,_,h=>h
 | _+1,_,_,.nil=>.nil
 | n+1,_,_,.cons _ t=>Lu n t
theorem CO{z y:Type}{R:z->y->Prop}:∀(n:Nat){x:lS z}{u:lS y},Paired R x u->Paired R (x.take n) (u.take n)
 | 0,_,_,_=>.nil
 | _+1,_,_,.nil=>.nil
 | n+1,_,_,.cons r t=>.cons r<|CO n t
inductive Lw(K:lY):Sp
 | mk (cl c) (cs:lS Int):vs=[.ref cl,.int c]->SqL K H cl (cs.map V.int)->(∀c∈cs,0<=c)->cs.length<=63->(∀(t pl jl sl:lU)(H':Hp)(ps:lS Zh)(js:lS (Zh×Zh)) (sg:lS (lT×lT×lT)),mF H H'->H' t=some (.tup [.ref pl,.ref jl,.ref sl])->Zw H' pl ps->Yp H' jl js->uq H' sl sg->zm ps js sg->Q (.ref t) H')->Lw K vs H Q E
def Vu:T.dI.O P w mg mG 4 (Lw K):=by
 refine T.dI.F.okW Xj ?_;rfl'
 ·obtain⟨cl,c,cs,rfl,hS,hc0,w9,q⟩:=h;intro X D;refine mP (nk 2 Xj<|Zv (Zqy T) hr<|Zb (pv 0) Za) #[cl,cs,rfl,hS,hc0,λt H1 o j x i G C M L n1 n2 net len nm=>?_];let I6:IC:=λz J=>∃t o j x i,z=[some (.ref cl),some<|.int c,some<|.ref t,none,none,none]/\mF H J/\J t=some (.tup [.ref o,.ref j])/\Zw J o x/\Yp J j i/\Net x i []/\x.length<=39/\∀p∈x,DR p
  refine qh I6 ?_ ?_
  ·refine qf (Zu (W0 hr (Zq Yn (pv 1) Ze) Ze) Zo Zj) #[(by change(0:Int)<3;decide),.inl #[rfl,Yf (λ_=>?_) λ_=>#[t,o,j,x,i,rfl,G,C,M,L,net,by lia,λp I=>?_]]]
   ·refine mS (nk 2 Xj<|Zv (Zny T) hr<|Zb (pv 0) Za) #[cl,cs,rfl,G.seq hS,hc0,w9,λt H2 o j x i _ N e2 M L _ _ net len nm=>#[t,o,j,x,i,rfl,G.trans N,e2,M,L,net,len,λp I=>?_]];rcases nm p I with y|y
    ·show .inr<|.inr<|.inl<|WQ y
    ·show .inr<|.inr<|.inr y
   ·rcases nm p I with y|y|y
    ·show .inl y
    ·show .inr<|.inl y
    ·show .inr (.inr<|.inl<|YT y<|by lk)
  clear C M L n1 n2 net len nm G;rintro z H1 ⟨t,o,j,x,i,rfl,G,C,M,L,net,len,nm⟩;refine mP (KP (pv 2)<|tL rfl<|Z3 (oq 3 Xj)<|Z3 (oq 4 Xj) Xz) #[mW C,rfl,rfl,?_];obtain⟨g,hu,j7⟩:=id M;have F2:g.length=x.length:=nJ j7;obtain⟨B,hmx,hm1⟩:∃B:Int,(if((g.map V.ref).length:Int)>1 then((g.map V.ref).length:Int)else 1)=B/\0<B:=by
   refine(pz rfl ?_);split<;>lia
  have a0:=pY (c / 3) (show B≠0 by lia);obtain⟨u,C9⟩:∃k:Nat,c / 3%B=(k:Int):=#[(c / 3%B).toNat,by lia]
  refine mP (nk 5 Xj<|Zq Yn (Zq Ys (pv 1) Ze)<|Yc (Zxj rfl) (by rfl) T.jE PyProof.Rows.boot_max<|Zb Ze<|Zb (pI T.bw<|pv 3) Za) #[#[by lk,by lk],.inl #[.inl<|mU hu,_,_,rfl,?_,?_]]
  ·change(0:Int)<(if((g.map V.ref).length:Int)>1 then((g.map V.ref).length:Int)else 1);rw[hmx];show hm1
  change WSs _ _ _ [some (.ref cl),some<|.int c,some<|.ref t,some<|.ref o,some<|.ref j,some<|.int<|c / 3%(if((g.map V.ref).length:Int)>1 then((g.map V.ref).length:Int)else 1)] H1;rw[hmx,C9];let I7:IC:=λz J=>∃d a,z=[some (.ref cl),some<|.int c,some<|.ref t,some<|.ref o,some<|.ref d,some<|.int (u:Int)]/\mF H1 J/\Yp J d a/\a.Perm i
  refine qh I7 ?_ ?_
  ·obtain⟨n,e,y⟩:=id L;refine qf (Zu (W0 hr (Zq Yn (Zq Ys (pv 1) Ze) Ze) Ze) Zo Zj) #[#[by lk,by lk],(by change(0:Int)<2;decide),.inl #[rfl,Yf (λ_=>?_) λ_=>#[j,i,rfl,pO _,L,qi _]]];refine mS (nk 4 Xj<|IJ (ops:=λl r=>[l,r]) (pv 4) (We<|xg wV Ze) λ_ _=>by with_unfolding_all rfl) #[j,_,rfl,rfl,mU e,λl H2 N n2 e2=>#[l,i.reverse,rfl,N,#[n.reverse,by rw[e2,zE],?_],DN _]];show Hm<|nO y λ_ _ r=>r.mono N
  rintro z H2 ⟨d,a,rfl,N,hJ',hjp⟩;refine mS (Zl<|Zi<|Zb (Zq Wl (X6 (r:=rY K) sI (pv 3) (We<|pv 5) Wu)<|X6 (r:=rY K) sI (pv 3) Wu<|We<|pv 5)<|Zb (pv 4)<|Zb (Zv (TY T) hr<|Zb (pv 3)<|Zb (Zq Ys (pv 1) Ze) Za) Za)<|.inr<|.inl #[mU<|N.at hu,λl e s3 n3 y=>(.inr<|.inl #[mU<|s3.at<|N.at hu,λlb H4 s4 n4 n=>.inr<|.inr #[s4.at y,n,?_,λlc H5 s5 n5 e5=>?_]])]
  ·rw[zd,De,yc,oy,mO];show sz (by lia)
  have B4:=s3.trans<|s4.trans s5;have K1:=N.trans B4;refine#[#[by lk,by lk],o,_,x,rfl,M.mono K1,by lia,λn k e he _ _=>?_,λsl y sg s6 l hG ok=>#[mQ,λt' H7 s7 n7 e7=>?_]]
  ·obtain⟨p,I,C⟩:=Kt he;rw[C];show vw.sig (nm p I).nm
  rw[zd,De,<-Ij,<-wG,<-nw]at e5;have Y:=s6.trans s7;have U:(x.drop u++x.take u).Perm x:=by
   have:=wF (l₁:=x.drop u) (l₂:=x.take u);rwa[xf]at this
  refine q t' lc d sl H7 (x.drop u++x.take u) a sg (G.trans<|K1.trans Y) e7 #[g.drop u++g.take u,Y.at e5,?_] (hJ'.mono<|B4.trans Y) (hG.mono s7) #[Net.perm' net U hjp,?_,λp I=>nm p<|U.mem_iff.mp I,#[x,U.symm,ok]]
  ·have:=nO j7 λ_ _ r=>Zr.mono (K1.trans Y) r
   show pj (Lu _ this)<|CO _ this
  ·rw[U.length_eq];show len
def rN(c:Nat):Bool:=decide (97<=c) && decide (c<=122)
def pX(c:Nat):Bool:=rN c || (decide (48<=c) && decide (c<=57))
def Xb(s:lT):Prop:=1<=s.length/\s.length<=6/\rN (s.cps.toList.headD 0)=true/\s.cps.toList.all pX=true
def Dd:∀k<100,(sv k).cps.toList.all pX=true:=by left
def HH:∀i<26,rN (qH.getD i 0)=true:=by lk
def Tp(h:rN c=true):pX c=true:=by unfold pX;rw[h];rfl
def wD{x y:lT}(z:x.cps.toList.all pX=true)(u:y.cps.toList.all pX=true):(x++y).cps.toList.all pX=true:=by
 rw[wZ,List.all_append,z,u];rfl
def wI{x y:lT}(h:0<x.length):(x++y).cps.toList.headD 0=x.cps.toList.headD 0:=by
 rw[wZ];cases e:x.cps.toList with
 | nil =>
  have:x.cps.size=0:=by rw[<-ub,e];rfl
  show absurd h (by change ¬0<x.cps.size;lia)
 | cons a l=>rfl
def zI(h:rN c=true):(#[(List.toArray [c])]:lT).cps.toList.all pX=true:=by
 change([c]:lS Nat).all pX=true;simp[Tp h]
def Sv{j:Nat}(h:j<100):Xb (W7 j):=by
 have z:=Dm j h;have y:=BC j h;unfold W7;refine#[?_,?_,?_,wD (by left)<|Dd j h]
 ·rw[pU];lia
 ·rw[pU,show("e":lT).length=1 by left];lia
 ·rw[wI (by left)];decide +kernel
def YA{n k:Nat}(y:n<99)(q:k<600):Xb (qQ n k):=by
 have p:=Oc n y;have x:=HH (k / 26) (by lia);have u:=HH (k%26) (by lia);have z:("s":lT).length=1:=by left
 have s:0<(("s":lT)++Str.ofString (toString (n:Int))).length:=by rw[pU,z];lia
 have r:(Str.ofString<|toString (n:Int)).cps.toList.all pX=true:=Dd n (by lia);unfold qQ;refine#[?_,?_,?_,wD (wD (wD (by left) r)<|zI x)<|zI u]
 ·rw[pU,pU];lia
 ·rw[pU,pU,pU,z];change 1+_+1+1<=6;lia
 ·rw[wI (by rw[pU];lia),wI s,wI<|by rw[z];decide];decide +kernel
def UQ:Xb "g":=#[by left,by left,by left,by left]
def ZU:Xb "h":=#[by left,by left,by left,by left]
def FX(z:0<=i)(y:i<26):rN (sF i)=true:=HH i.toNat (by lia)
def Ry:∀m<3,(rX "0" m).cps.toList.all pX=true:=by left
def Zxo{kd:lT}{c:Int}{k:Nat}(r:96<kd.cps.toList.getD 0 0/\kd.cps.toList.getD 0 0<123)(z:k<100):Xb (Yt kd c k):=by
 have q:=yA (kind:=kd) (c:=c) z;refine#[by lia,Zyk z,?_,?_]
 ·unfold Yt;split
  ·rw[wI (by change 0<1;decide)];change rN (kd.cps.toList.getD 0 0)=true;unfold rN;simp only[qv,yJ];lia
  ·have y:=pY (c / 3) (show(26:Int)≠0 by lk);have x:=qg (c / 3) (show(0:Int)<26 by lk);rw[wI (by rw[pU,pU];change 0<1+1+_;lia),wI (by rw[pU];change 0<1+1;decide),wI<|by change 0<1;decide];show FX y x
 ·unfold Yt;split
  ·refine wD (zI ?_)<|Dd k z;unfold rN;simp only[qv,yJ];lia
  ·have y:=pY (c / 3) (show(26:Int)≠0 by lk);have x:=qg (c / 3) (show(0:Int)<26 by lk);have u:=pY (c / 78) (show(26:Int)≠0 by lk);have s:=qg (c / 78) (show(0:Int)<26 by lk);have p:=pY (c / 2028) (show(3:Int)≠0 by lk);have o:=qg (c / 2028) (show(0:Int)<3 by lk);show wD (wD (wD (zI<|FX y x)<|zI<|FX u s)<|Ry _<|by lia)<|Dd k z
def vw.ok(h:vw s):Xb s:=by
 rcases h with rfl|rfl|⟨x,c,j,z,y,rfl⟩|⟨j,y,rfl⟩
 ·show UQ
 ·show ZU
 ·show Zxo z (by lia)
 ·show Sv (by lia)
def Gm(h:e∈X2 ps):∃p∈ps,e.1=p.2/\p.1∈[("plain":lT),"gate","stop"]/\e.2∈Yr p.1:=by
 unfold X2 at h;obtain⟨p,y,he⟩:=ui.mp h
 by_cases z:p.1∈[("plain":lT),"gate","stop"]
 ·rw[mY z]at he;obtain⟨x,u,rfl⟩:=mZ.mp he;show#[p,y,rfl,z,u]
 ·rw[mV z]at he;cases he
def Tg(k:lT):(Yr k).Nodup:=by
 unfold Yr;split
 ·decide
 ·split
  ·decide
  ·split<;>decide
theorem Ov:∀{ps:lS Zh},(ps.map snd).Nodup->(X2 ps).Nodup
 | [],_=>tX
 | p ::ps,h=>by
  rw[oh,pZ]at h;have u:=Ov h.2;change((if p.1∈[("plain":lT),"gate","stop"]then(Yr p.1).map (λx=>((p.2,x):Zh))else[])++X2 ps).Nodup;refine qG.mpr #[?_,u,λa y b s e=>?_]
  ·split
   ·show Eh _ (λa b h z=>h (Prod.mk.inj z).2)<|Tg p.1
   ·show tX
  ·subst e;obtain⟨z,r,q,_⟩:=Gm s;split at y
   ·obtain⟨x,_,rfl⟩:=mZ.mp y;show h.1<|mZ.mpr #[z,r,q.symm]
   ·cases y
structure yf(ps:List Zh)(sg:List (Str×Str×Str)):Prop where
 name:∀q∈sg,Xb q.1
 nd:(sg.map fst).Nodup
 one:(sg.map snd).Nodup
 at_:∀q∈sg,∃p∈ps,p.2=q.2.1/\p.1∈[("plain":Str),"gate","stop"]/\q.2.2∈Yr p.1
 len:sg.length<=40
def rZ.sigs(h:rZ (X2 ps) (X2 ps).length u)(s:(ps.map snd).Nodup)(nm:∀p∈ps,vw p.2)(r:ps.length<=45):yf ps u:=by
 have sub:=h.at_;rw[pq]at sub;have o:=CT ps;have mem:∀q∈u,((q.2.1,q.2.2):Zh)∈X2 ps:=λq y=>sub.subset<|mZ.mpr #[q,y,rfl]
 refine#[λq y=>?_,h.nd,List.Nodup.sublist sub<|Ov s,λq y=>?_,h.len]
 ·rcases h.name q y with z|⟨n,k,a,b,c⟩
  ·obtain⟨p,x,e,_⟩:=Gm<|mem q y;rw[z,show q.2.1=p.2 from e];show vw.ok<|nm p x
  ·rw[c];show YA a (by lia)
 ·obtain⟨p,x,e,k,m⟩:=Gm<|mem q y;show#[p,x,e.symm,k,m]
def yf.perm(h:yf z y)(x:z.Perm ps):yf ps y :=
 #[h.name,h.nd,h.one,λq u=>let⟨p,a,b⟩:=h.at_ q u;#[p,x.mem_iff.mp a,b],h.len]
def zm.sigsV(h:zm ps u y):yf ps y:=by
 obtain⟨x,z,ok⟩:=h.sigs;show(ok.sigs ((z.map _).nodup_iff.mpr h.net.nd) (λp x=>(h.name p<|z.mem_iff.mp x).nm) (by rw[z.length_eq];have:=h.len;lia)).perm z
inductive wf(K:lY):Sp
 | mk (x C dx nm):vs=[.ref x,.str nm]->H x=some (.ins C dx [])->pR K C->mX K C "name"->Q .non (mM H x<|.ins C dx [("name",.str nm)])->wf K vs H Q E
def X7:T.aq.O P w mg mG 1 (wf K):=by
 refine T.aq.F.okA ?_;rfl'
 ·obtain⟨x,C,u,nm,rfl,z,c,y,q⟩:=h;intro X D;show mS (Wo (pv 0) (pv 1) rfl) #[z,c,y,by simp,q]
def qo(H:Hp)(C x:lU)(nm:lT):Prop:=∃z,H x=some (.ins C z [("name",.str nm)])
def xT(C:lU):lS V->Hp->VK->Prop:=λy H Q=>∃nm:lT,y=[.str nm]/\∀x z,mF H z->H x=none->qo z C x nm->Q (.ref x) z
def Al(c:pR K C)(n:mX K C "name"):∀vs H Q,xT C vs H Q->∀x z,H x=none->H z=none->z≠x->wf K (.ref x ::(vs++[])) (mM (mM H z<|.own x) x<|.ins C z []) (λv u=>v=.non/\Q (.ref x) u) E0:=by
 rintro vs H Q ⟨nm,rfl,q⟩ x z y s r;refine#[x,C,z,nm,rfl,Zc,c,n,rfl,q x _ (λb o e=>?_) y #[z,Zc]];rw[Zd (Zf e y),Zd<|Zf e y,Zd<|Zf e s];show e
abbrev Po(T:Tx K mg):lS V->Hp->VK->Prop:=xT T.bW
def RF:∀vs H Q,Po T vs H Q->∀x z,H x=none->H z=none->z≠x->wf K (.ref x ::(vs++[])) (mM (mM H z<|.own x) x<|.ins T.bW z []) (λv y=>v=.non/\Q (.ref x) y) E0:=Al T.eM T.fi
abbrev IP(T:Tx K mg):lS V->Hp->VK->Prop:=xT T.bJ
def UJ:∀vs H Q,IP T vs H Q->∀x z,H x=none->H z=none->z≠x->wf K (.ref x ::(vs++[])) (mM (mM H z<|.own x) x<|.ins T.bJ z []) (λv y=>v=.non/\Q (.ref x) y) E0:=Al T.fL T.fM
abbrev JZ(T:Tx K mg):lS V->Hp->VK->Prop:=xT T.bK
def Ybm:∀vs H Q,JZ T vs H Q->∀x z,H x=none->H z=none->z≠x->wf K (.ref x ::(vs++[])) (mM (mM H z<|.own x) x<|.ins T.bK z []) (λv y=>v=.non/\Q (.ref x) y) E0:=Al T.fN T.fO
abbrev LM(T:Tx K mg):lS V->Hp->VK->Prop:=xT T.aI
def Vi:∀vs H Q,LM T vs H Q->∀x z,H x=none->H z=none->z≠x->wf K (.ref x ::(vs++[])) (mM (mM H z<|.own x) x<|.ins T.aI z []) (λv y=>v=.non/\Q (.ref x) y) E0:=Al T.dJ T.eN
abbrev PM(T:Tx K mg):lS V->Hp->VK->Prop:=xT T.bX
def YF:∀vs H Q,PM T vs H Q->∀x z,H x=none->H z=none->z≠x->wf K (.ref x ::(vs++[])) (mM (mM H z<|.own x) x<|.ins T.bX z []) (λv y=>v=.non/\Q (.ref x) y) E0:=Al T.eO T.fk
def Wa(k:lT)(C:lU):Prop:=(k ="points"/\C=T.aI)\/(k ="cross"/\C=T.bX)\/(k ="gate"/\C=T.bK)\/(k ="stop"/\C=T.bJ)\/(k ="plain"/\(C=T.cW\/C=T.bW))
inductive Ng:Sp
 | mk (k nm:lT):vs=[.str k,.str nm]->k∈qk->nm.length<=6->(∀(x C:lU)(H':Hp),mF H H'->H x=none->Wa T k C->qo H' C x nm->Q (.ref x) H')->Ng vs H Q E
def Tk:T.fh.O P w mg mG 3 (Ng T):=by
 refine T.fh.F.okA ?_;rfl'
 ·obtain⟨k,nm,rfl,l,I,q⟩:=h;intro X D;let M:IC:=λz r=>z=[some (.str k),some<|.str nm]/\r=H/\k≠ "points"
  refine qh M ?_ ?_
  ·refine qf (Zu (W0 hr (pv 0) Zg) Zo Zj)<|.inl #[rfl,Yf (λu=>?_) λu=>#[rfl,rfl,λy=>u<|by rw[y];simp]];have u:k ="points":=V.str.inj<|pD u;show mS (Zl<|wc (LM T) T.iG (X7 T) hr.m rfl T.ix T.aq.b .nil Z0 (Vi T)<|Zb (pv 1) Za) #[nm,rfl,λx r p n o=>q x _ r p n (.inl #[u,rfl]) o]
  rintro z G ⟨rfl,j,i⟩;rw[j];let L:IC:=λz r=>z=[some (.str k),some<|.str nm]/\r=H/\k≠ "cross"
  refine qh L ?_ ?_
  ·refine qf (Zu (W0 hr (pv 0) Zg) Zo Zj)<|.inl #[rfl,Yf (λu=>?_) λu=>#[rfl,rfl,λy=>u<|by rw[y];simp]];have u:k ="cross":=V.str.inj<|pD u;show mS (Zl<|wc (PM T) T.iT (X7 T) hr.m rfl T.jq T.aq.b .nil Z0 (YF T)<|Zb (pv 1) Za) #[nm,rfl,λx r p n o=>q x _ r p n (.inr<|.inl #[u,rfl]) o]
  rintro z C ⟨rfl,g,e⟩;rw[g];let d:IC:=λz r=>z=[some (.str k),some<|.str nm]/\r=H/\k≠ "gate"
  refine qh d ?_ ?_
  ·refine qf (Zu (W0 hr (pv 0) Zg) Zo Zj)<|.inl #[rfl,Yf (λu=>?_) λu=>#[rfl,rfl,λy=>u<|by rw[y];simp]];have u:k ="gate":=V.str.inj<|pD u;show mS (Zl<|wc (JZ T) T.jp (X7 T) hr.m rfl T.jf T.aq.b .nil Z0 (Ybm T)<|Zb (pv 1) Za) #[nm,rfl,λx r p n o=>q x _ r p n (.inr<|.inr<|.inl #[u,rfl]) o]
  rintro z B ⟨rfl,c,a⟩;rw[c];let Y:IC:=λz r=>z=[some (.str k),some<|.str nm]/\r=H/\k≠ "stop"
  refine qh Y ?_ ?_
  ·refine qf (Zu (W0 hr (pv 0) Zg) Zo Zj)<|.inl #[rfl,Yf (λu=>?_) λu=>#[rfl,rfl,λy=>u<|by rw[y];simp]];have u:k ="stop":=V.str.inj<|pD u;show mS (Zl<|wc (IP T) T.jk (X7 T) hr.m rfl T.je T.aq.b .nil Z0 (UJ T)<|Zb (pv 1) Za) #[nm,rfl,λx r p n o=>q x _ r p n (.inr<|.inr<|.inr<|.inl #[u,rfl]) o]
  rintro z H4 ⟨rfl,U,N⟩;rw[U];have J:k ="plain":=by
   unfold qk at l;simp only[nV,uW,tH]at l;rcases l with y|y|y|y|y
   ·show y
   ·show absurd y i
   ·show absurd y e
   ·show absurd y a
   ·show absurd y N
  show mS (Zl<|wc (Po T) T.iS (X7 T) hr.m rfl T.jj T.aq.b .nil Z0 (RF T)<|Zb (pv 1) Za) #[nm,rfl,λx r p n o=>q x _ r p n (.inr<|.inr<|.inr<|.inr #[J,.inr rfl]) o]
section
variable {α β κ:Type} [DecidableEq κ] {f:α->κ} {R R':α->β->V->Prop} {kvs:lS (κ×V)}
def DP(f:α->κ)(R:α->β->V->Prop)(kvs:lS (κ×V))(qs:lS (α×β)):Prop:=Paired (λ(kv:κ×V) (q:α×β)=>kv.1=f q.1/\R q.1 q.2 kv.2) kvs qs
def DP.none(h:DP f R kvs qs)(inj:∀a b,f a=f b->a=b){a:α}(n:a∉qs.map fst):Y7 kvs (f a)=none:=by
 unfold DP at h
 induction h with
 | nil=>rfl
 | cons r t y =>
  rw[oh,nV,not_or]at n;rw[vU (λz=>n.1 (inj _ _<|r.1.symm.trans z).symm)];show y n.2
def DP.get(h:DP f R kvs qs)(inj:∀a b,f a=f b->a=b)(y:(qs.map fst).Nodup){a:α}{b:β}(m:(a,b)∈qs):∃v,Y7 kvs (f a)=some v/\R a b v:=by
 unfold DP at h
 induction h with
 | nil=>cases m
 | @cons kv q _ _ r t x =>
  rw[oh,pZ]at y;rcases nV.mp m with z|z
  ·rw[<-z]at r;show#[_,yV r.1,r.2]
  ·have:a≠q.1:=λe=>y.1 (by rw[<-e];show mZ.mpr #[_,z,rfl])
   rw[vU (λe=>this (inj _ _<|r.1.symm.trans e).symm)];show x y.2 z
def DP.put(h:DP f R kvs qs){a:α}{b:β}(n:Y7 kvs (f a)=Option.none)(r:R a b v):DP f R (Wk kvs (f a) v) (qs++[(a,b)]):=by
 rw[JC v n];show BP h #[rfl,r]
def DP.len(h:DP f R kvs qs):kvs.length=qs.length:=nJ h
def DP.mapR(h:DP f R kvs qs)(m:∀a b v,R a b v->R' a b v):DP f R' kvs qs:=nO h λ_ _ z=>#[z.1,m _ _ _ z.2]
def DP.keys(h:DP f R kvs qs):kvs.map fst=qs.map λq=>f q.1:=by
 unfold DP at h
 induction h with
 | nil=>rfl
 | cons r t z=>rw[oh,oh,z,r.1]
end
def Xf(e:Zh):lS nj:=[.inr e.1,.inr e.2]
def W6(a b:Zh)(h:Xf a=Xf b):a=b:=by
 obtain⟨z,y⟩:=a;obtain⟨z,y⟩:=b;unfold Xf at h;simp only[zr,Sum.inr.injEq,and_true]at h;rw[h.1,h.2]
def Xa(s:lT):nj:=.inr s
def wl(a b:lT)(h:Xa a=Xa b):a=b:=wa h
def qP(ps:lS Zh):lS (lT×lT):=ps.map λp=>(p.2,p.1)
def qA(ps:lS Zh):lS (Zh×lT):=ps.flatMap λp=>(Yr p.1).map λe=>((p.2,e),p.1)
def qJ(z:lS (Zh×Zh)):lS (Zh×Zh):=z.flatMap λj=>[(j.1,j.2),(j.2,j.1)]
def qS(z:lS (lT×lT×lT)):lS (lT×Zh):=z.map λq=>(q.1,(q.2.1,q.2.2))
def qO(z:lS (lT×lT×lT)):lS (Zh×lT):=z.map λq=>((q.2.1,q.2.2),q.1)
def Gx(ps:lS Zh):(qP ps).map fst=ps.map snd:=by unfold qP;rw[oO];rfl
def Cg(ps:lS Zh):(qA ps).map fst=Yu ps:=by
 unfold qA Yu;rw[List.map_flatMap];simp only[oO]
 rfl
def uF(z:lS (Zh×Zh)):(qJ z).map fst=Xp z:=by
 unfold qJ Xp;rw[List.map_flatMap]
 rfl
def HX(z:lS (lT×lT×lT)):(qS z).map fst=z.map fst:=by unfold qS;rw[oO];rfl
def DW(z:lS (lT×lT×lT)):(qO z).map fst=z.map snd:=by unfold qO;rw[oO];rfl
def RP(H:Hp):lT->lT->V->Prop:=λnm k v=>∃x C,v=.ref x/\Wa T k C/\qo H C x nm
def RA(H:Hp):Zh->lT->V->Prop:=λe k v=>∃x C,v=.ref x/\Wa T k C/\qo H C x e.1
def RJ(H:Hp):Zh->Zh->V->Prop:=λ_ e v=>∃t,v=.ref t/\Zr H t e
def RS(H:Hp):lT->Zh->V->Prop:=λ_ e v=>∃t,v=.ref t/\Zr H t e
def RO:Zh->lT->V->Prop:=λ_ s v=>v=.str s
def qo.mono(e:mF H y)(h:qo H C x nm):qo y C x nm:=let⟨u,z⟩:=h;#[u,e.at z]
def RP.mono(e:mF H z)(a b:lT)(v:V)(h:RP U H a b v):RP U z a b v:=let⟨x,C,y,u,s⟩:=h;#[x,C,y,u,s.mono e]
def RJ.mono(e:mF H z)(a b:Zh)(v:V)(h:RJ H a b v):RJ z a b v:=let⟨t,y,x⟩:=h;#[t,y,x.mono e]
def RS.mono(e:mF H z)(a:lT)(b:Zh)(v:V)(h:RS H a b v):RS z a b v:=let⟨t,y,x⟩:=h;#[t,y,x.mono e]
def NH(h:Zr H t e):H t=some (.tup<|(Xf e).map kV):=h
abbrev zw:lT :="abcdefghijklmnopqrstuvwxyz"
abbrev EQ:lT :="0123456789"
def Ya7:∀c,c<128->(!(Builtin.Str.occurrences zw #[(List.toArray [c])] 0 zw.length 1).isEmpty)=rN c:=by left
def Yh2:∀c,c<128->(!(Builtin.Str.occurrences (zw++EQ) #[(List.toArray [c])] 0 (zw++EQ).length 1).isEmpty)=pX c:=by left
def XB:zw.length+EQ.length<=sizeLine:=by rw[sO];decide +kernel
def Pp(h:pX c=true):c<128:=by
 unfold pX rN at h;simp at h;lia
def zR(x:lT):Bool:=(decide (1<=x.length) && decide (x.length<=6)) && (rN (x.cps.toList.headD 0) && x.cps.toList.all pX)
def Xb.b(h:Xb x):zR x=true:=by
 obtain⟨z,y,u,s⟩:=h;unfold zR;rw[nZ z,nZ y,u,s]
 rfl
def Xb.low(h:Xb x):∀c∈x.cps.toList,c<128:=λc z=>Pp<|wE.mp h.2.2.2 c z
def xq(K:lY)(H:Hp)(v:V)(b:Bool):Prop:=(∃x:lT,v=.str x/\(∀c∈x.cps.toList,c<128)/\x.length<=100/\zR x=b)\/(b=false/\∃t,Xl K H v t/\kitOne K t (.type "str")=some false)
def Xb.asked(h:Xb x):xq K H (.str x) true:=.inl #[x,rfl,h.low,by have:=h.2.1;lia,h.b]
inductive Jz(K:lY):Sp
 | mk (v) (b:Bool):vs=[v]->xq K H v b->(∀H',mF H H'->Q (.bl b) H')->Jz K vs H Q E
def wK:T.gn.O P w mg mG 1 (Jz K):=by
 refine T.gn.F.okA ?_;rfl'
 ·obtain⟨v,b,rfl,G,q⟩:=h;intro X D;rcases G with⟨x,rfl,y,z,a⟩|⟨rfl,t,C,k⟩
  ·have B:x.cps.toList.length=x.length:=ub;refine mP (Zu (Y9<|Yo<|rf "str" T.af T.fm vZ<|pv 0) Zo Zj) #[Xl.str x,.inl<|pz rfl T.jU,?_];refine mP (Zu (pN<|qp (W0 hr (pv 0) Zg)<|rJ<|Ye zo (pI T.bw<|pv 0) (Wt (by rfl) T.fW)<|Yq _) Zo Zj)<|.inl #[rfl,Yf (λz=>?_) λz0=>(.inr<|.inl #[x,rfl,sz (by lia),Yf (λz=>?_) λz1=>?_])]
   ·have e:x=("":lT):=V.str.inj<|pD z;have:b=false:=by rw[<-a,e];decide +kernel
    rw[this]at q;show mS (Zl qM)<|q H<|pO _
   ·have z:(6:Int)<(x.length:Int):=pD z;have:b=false:=by
     rw[<-a];unfold zR;rw[ow (show ¬x.length<=6 by lia),Bool.and_false]
     rfl
    rw[this]at q;show mS (Zl qM)<|q H<|pO _
   have h6:¬(6:Int)<(x.length:Int):=λz=>z1<|nZ z
   have w4:x.cps.toList≠[]:=λz=>z0 (nZ (by
    have:x=("":lT):=PyProof.Rows.ext_toList (z.trans<|by left);rw[this]))
   obtain⟨c,n,l⟩:∃c n,x.cps.toList=c ::n:=by
    cases e:x.cps.toList with
    | nil=>show absurd e w4
    | cons c n=>show#[c,n,rfl]
   have Y:1<=x.length:=by rw[<-B,l,pi];lia
   refine mS (Zl<|xt (HK hr (nq (pv 0) Ze)<|Es (by rfl) T.gy)<|xX<|Yc (r:=NB K) (RD rfl) (by rfl) T.jH PyProof.Rows.boot_all<|Zb (pH ["sign"] (ph 1 [] rfl) (Ygc<|pv 0) (oK 0) X5 (yZ (r:=Dk K) (Gn hr) (pv 0) (Zq Wl (Es (by rfl) T.gy)<|Es (by rfl) T.iA)<|by with_unfolding_all rfl)) Za)<|.inr<|.inr #[x,0,c,rfl,rfl,sz (by lia),by rw[l];show Zm (j:=0) rfl,.inr<|.inr<|.inl<|wz rfl rfl ?_];rw[Ya7 c (y c (by rw[l];show oM))];have u:b=(rN c && x.cps.toList.all pX):=by
    rw[<-a];unfold zR;rw[nZ Y,nZ (show x.length<=6 by lia),l]
    rfl
   cases M:rN c with
   | false =>
    refine ?_;rw[u,M]at q;show q H (pO _)
   | true =>
    rw[M,Bool.true_and]at u;refine#[x,rfl,?_,λD L=>?_]
    ·rw[Array.all_eq_true'];show λc d=>nZ<|y c<|zM.mpr d
    refine Yap (λi g p=>g=(x.cps.toList.take i).map (λc=>V.bl<|pX c)/\p D=some (.lst g)/\mF H p) #[rfl,Zc,λJ o e=>by rw[Zd (Zf e L)];show e] ?_ ?_
    ·rintro i d g p hi ⟨rfl,U,N⟩;have I:x.cps.toList[i]? =some d:=by simpa using hi
     have P5:d<128:=y d<|pE I;refine#[oR rfl,.inr<|.inl #[_,_,rfl,rfl,XB,.inr<|.inr<|.inl #[_,_,rfl,rfl,U,?_,?_]]]
     ·rw[mO,oy,sO];lia
     ·rw[Yh2 d P5];refine#[?_,Zc,λJ o e=>?_]
      ·rw[ou,I];simp
      ·rw[Zd (Zf e L)];show N J o e
    ·rintro g p ⟨rfl,U,N⟩;refine#[D,(x.cps.toList.map pX),rfl,?_,?_]
     ·have e:(List.map pX x.cps.toList).map V.bl=List.map (λc=>V.bl<|pX c) (List.take x.cps.size x.cps.toList):=by
       rw[oO,tF<|by simp]
       rfl
      rw[e];show mU U
     ·have e:(List.map pX x.cps.toList).all id=b:=by rw[List.all_map,u];rfl
      rw[e];show q p N
  ·refine mP (Zu (Y9<|Yo<|rf "str" T.af T.fm vZ<|pv 0) Zo Zj) #[C,.inl<|pz rfl k,?_];show mS (Zl qM)<|q H<|pO _
inductive QF:Sp
 | mk (s d kvs):vs=[.str s,.ref d]->Xb s->H d=some (.dK kvs)->Y7 kvs (Xa s)=none->(∀H',mF H H'->Q .non H')->QF  vs H Q E
def Cu:T.aM.O P w mg mG 2 QF:=by
 refine T.aM.F.okW Kc ?_;rfl'
 ·obtain⟨x,d,u,rfl,r,hd,p,q⟩:=h;intro X D;refine mP (Zu (Y9<|Yo<|Zv (wK T) hr<|Zb (pv 0) Za) Zo Zj) #[_,true,rfl,r.asked,λo y=>(?_)];refine mS (Zu (vq hr (pv 0)<|pv 1) Zo Zj)<|.inr<|.inl #[d,_,rfl,X0.k (k:=Xa x)<|y.at hd,Yf (λz=>?_) λ_=>q o y];rw[p]at z;show absurd z (by lk)
def wb(k:lT):lS lT:=if k ="points" then["left","right"]else[""]
def CJ(k z:lT):lS (lT×lT):=if k ="points" then[("stem",z)]else if k ="cross" then[("a","b"),("c","d")]else if k ="plain" then[("a","b")]else[("","a")]
def Ga(k:lT):Bool:=decide<|k∈[("plain":lT),"gate","stop"]
def zj(e:lT):lS (lT×lT)->lT
 | [] =>""
 | (one,two) ::r=>if e=one then two else if e=two then one else zj e r
def wk(k e z:lT):lT:=if z∈wb k then zj e (CJ k z)else ""
def Yih(H:Hp)(p:lU)(l:lS (lT×lT)):Prop:=∃z:lS lU,H p=some (.lst<|z.map V.ref)/\Paired (λa (q:lT×lT)=>H a=some (.tup [.str q.1,.str q.2])) z l
inductive vo(xs:lS V):Sp
 | mk (v):vs=[v]->(∀p H',mF H H'->H p=none->H' p=some (.lst xs)->Q (.ref p) H')->vo xs vs H Q E
inductive xQ(f:lT->lS (lT×lT)):Sp
 | mk (v C6):vs=[v,.str C6]->(∀p H',mF H H'->Yih H' p (f C6)->Q (.ref p) H')->xQ f vs H Q E
inductive AC(b:Bool):Sp
 | mk (v):vs=[v]->Q (.bl b) H->AC b vs H Q E
def MD:T.cD.O P w mg mG 1 (vo<|(["a","b"]:lS lT).map V.str):=by
 refine T.cD.F.okA ?_;rfl'
 ·obtain⟨v,rfl,k⟩:=h;intro X D;show mS (Zl<|Zn<|Zb Zg<|Zb Zg Za) #[mQ,k]
def zH:T.aS.O P w mg mG 1 (vo<|([""]:lS lT).map V.str):=by
 refine T.aS.F.okA ?_;rfl'
 ·obtain⟨v,rfl,k⟩:=h;intro X D;show mS (Zl<|Zn<|Zb Zg Za) #[mQ,k]
def Qq:T.cp.O P w mg mG 1 (xQ λy=>[("a","b")]):=by
 refine T.cp.F.okA ?_;rfl'
 ·obtain⟨v,y,rfl,k⟩:=h;intro X D;show mS (Zl<|Zn<|Zb (Zi<|Zb Zg<|Zb Zg Za) Za) #[mQ,λx n u l r=>#[mQ,λq p z j o=>k q p (u.trans z) #[[x],o,.cons (z.at r) .nil]]]
def Bm:T.aV.O P w mg mG 1 (AC true):=by
 refine T.aV.F.okA ?_;rfl'
 ·obtain⟨v,rfl,k⟩:=h;intro X D;show mS (Zl qM) k
def Lo:T.cE.O P w mg mG 1 (vo<|(["a"]:lS lT).map V.str):=by
 refine T.cE.F.okA ?_;rfl'
 ·obtain⟨v,rfl,k⟩:=h;intro X D;show mS (Zl<|Zn<|Zb Zg Za) #[mQ,k]
def OX:T.cq.O P w mg mG 1 (xQ λy=>[("","a")]):=by
 refine T.cq.F.okA ?_;rfl'
 ·obtain⟨v,y,rfl,k⟩:=h;intro X D;show mS (Zl<|Zn<|Zb (Zi<|Zb Zg<|Zb Zg Za) Za) #[mQ,λx n u l r=>#[mQ,λq p z j o=>k q p (u.trans z) #[[x],o,.cons (z.at r) .nil]]]
def Zll:T.cL.O P w mg mG 1 (vo<|(["stem","left","right"]:lS lT).map V.str):=by
 refine T.cL.F.okA ?_;rfl'
 ·obtain⟨v,rfl,k⟩:=h;intro X D;show mS (Zl<|Zn<|Zb Zg<|Zb Zg<|Zb Zg Za) #[mQ,k]
def Zlt:T.cM.O P w mg mG 1 (vo<|(["left","right"]:lS lT).map V.str):=by
 refine T.cM.F.okA ?_;rfl'
 ·obtain⟨v,rfl,k⟩:=h;intro X D;show mS (Zl<|Zn<|Zb Zg<|Zb Zg Za) #[mQ,k]
def Zkj:T.cG.O P w mg mG 1 (xQ λz=>[("stem",z)]):=by
 refine T.cG.F.okA ?_;rfl'
 ·obtain⟨v,z,rfl,k⟩:=h;intro X D;show mS (Zl<|Zn<|Zb (Zi<|Zb Zg<|Zb (pv 1) Za) Za) #[mQ,λx n u l r=>#[mQ,λq p y j o=>k q p (u.trans y) #[[x],o,.cons (y.at r) .nil]]]
def Zkv:T.cH.O P w mg mG 1 (AC false):=by
 refine T.cH.F.okA ?_;rfl'
 ·obtain⟨v,rfl,k⟩:=h;intro X D;show mS (Zl qM) k
def Vo:T.cV.O P w mg mG 1 (vo<|(["a","b","c","d"]:lS lT).map V.str):=by
 refine T.cV.F.okA ?_;rfl'
 ·obtain⟨v,rfl,k⟩:=h;intro X D;show mS (Zl<|Zn<|Zb Zg<|Zb Zg<|Zb Zg<|Zb Zg Za) #[mQ,k]
def VC:T.cN.O P w mg mG 1 (xQ λx=>[("a","b"),("c","d")]):=by
 refine T.cN.F.okA ?_;rfl'
 ·obtain⟨v,x,rfl,k⟩:=h;intro X D;show mS (Zl<|Zn<|Zb (Zi<|Zb Zg<|Zb Zg Za)<|Zb (Zi<|Zb Zg<|Zb Zg Za) Za) #[mQ,λu i r g q=>#[mQ,λp e y d o=>#[mQ,λn l z c j=>k n l (r.trans<|y.trans z) #[[u,p],j,.cons (z.at<|y.at q)<|.cons (z.at o) .nil]]]]
def VO:T.cO.O P w mg mG 1 (AC false):=by
 refine T.cO.F.okA ?_;rfl'
 ·obtain⟨v,rfl,k⟩:=h;intro X D;show mS (Zl qM) k
def Wa.ends{T:Tx K mg}{k:lT}{C:lU}(h:Wa T k C):∃f fd,Y3 K C "ends" f/\qr K fd ["self"] []/\∀(P:mh)(w:md)(mG:ma)(j:Nat),1<=j->Y6 P w K mg mG oP j f fd ["self"] (vo<|(Yr k).map V.str):=by
 rcases h with⟨rfl,rfl⟩|⟨rfl,rfl⟩|⟨rfl,rfl⟩|⟨rfl,rfl⟩|⟨rfl,rfl|rfl⟩
 ·show#[_,_,T.gh,T.cL.b,λP w mG j z=>(Zll T).mono z]
 ·show#[_,_,T.gL,T.cV.b,λP w mG j z=>(Vo T).mono z]
 ·show#[_,_,T.hW,T.cE.b,λP w mG j z=>(Lo T).mono z]
 ·show#[_,_,T.gZ,T.cE.b,λP w mG j z=>(Lo T).mono z]
 ·show#[_,_,T.gX,T.cD.b,λP w mG j z=>(MD T).mono z]
 ·show#[_,_,T.gD,T.cD.b,λP w mG j z=>(MD T).mono z]
def Wa.lies{T:Tx K mg}{k:lT}{C:lU}(h:Wa T k C):∃f fd,Y3 K C "lies" f/\qr K fd ["self"] []/\∀(P:mh)(w:md)(mG:ma)(j:Nat),1<=j->Y6 P w K mg mG oP j f fd ["self"] (vo<|(wb k).map V.str):=by
 rcases h with⟨rfl,rfl⟩|⟨rfl,rfl⟩|⟨rfl,rfl⟩|⟨rfl,rfl⟩|⟨rfl,rfl|rfl⟩
 ·show#[_,_,T.gi,T.cM.b,λP w mG j z=>(Zlt T).mono z]
 ·show#[_,_,T.gM,T.aS.b,λP w mG j z=>(zH T).mono z]
 ·show#[_,_,T.hZ,T.aS.b,λP w mG j z=>(zH T).mono z]
 ·show#[_,_,T.hU,T.aS.b,λP w mG j z=>(zH T).mono z]
 ·show#[_,_,T.gY,T.aS.b,λP w mG j z=>(zH T).mono z]
 ·show#[_,_,T.gE,T.aS.b,λP w mG j z=>(zH T).mono z]
def Wa.pairs{T:Tx K mg}{k:lT}{C:lU}(h:Wa T k C):∃f fd,Y3 K C "pairs" f/\qr K fd ["self","lie"] []/\∀(P:mh)(w:md)(mG:ma)(j:Nat),1<=j->Y6 P w K mg mG oP j f fd ["self","lie"] (xQ<|CJ k):=by
 rcases h with⟨rfl,rfl⟩|⟨rfl,rfl⟩|⟨rfl,rfl⟩|⟨rfl,rfl⟩|⟨rfl,rfl|rfl⟩
 ·show#[_,_,T.fP,T.cG.b,λP w mG j z=>(Zkj T).mono z]
 ·show#[_,_,T.gj,T.cN.b,λP w mG j z=>(VC T).mono z]
 ·show#[_,_,T.gI,T.cq.b,λP w mG j z=>(OX T).mono z]
 ·show#[_,_,T.gF,T.cq.b,λP w mG j z=>(OX T).mono z]
 ·show#[_,_,T.gA,T.cp.b,λP w mG j z=>(Qq T).mono z]
 ·show#[_,_,T.gc,T.cp.b,λP w mG j z=>(Qq T).mono z]
def Wa.bears{T:Tx K mg}{k:lT}{C:lU}(h:Wa T k C):∃f fd,Y3 K C "bears" f/\qr K fd ["self"] []/\∀(P:mh)(w:md)(mG:ma)(j:Nat),1<=j->Y6 P w K mg mG oP j f fd ["self"] (AC<|Ga k):=by
 rcases h with⟨rfl,rfl⟩|⟨rfl,rfl⟩|⟨rfl,rfl⟩|⟨rfl,rfl⟩|⟨rfl,rfl|rfl⟩
 ·show#[_,_,T.fQ,T.cH.b,λP w mG j z=>(Zkv T).mono z]
 ·show#[_,_,T.gk,T.cO.b,λP w mG j z=>(VO T).mono z]
 ·show#[_,_,T.gJ,T.aV.b,λP w mG j z=>(Bm T).mono z]
 ·show#[_,_,T.gG,T.aV.b,λP w mG j z=>(Bm T).mono z]
 ·show#[_,_,T.gB,T.aV.b,λP w mG j z=>(Bm T).mono z]
 ·show#[_,_,T.ge,T.aV.b,λP w mG j z=>(Bm T).mono z]
def Wa.cls{T:Tx K mg}{k:lT}{C:lU}(h:Wa T k C):pR K C/\mX K C "name"/\Y3 K C "leads" T.aU.f:=by
 rcases h with⟨rfl,rfl⟩|⟨rfl,rfl⟩|⟨rfl,rfl⟩|⟨rfl,rfl⟩|⟨rfl,rfl|rfl⟩
 ·show#[T.dJ,T.eN,T.fR]
 ·show#[T.eO,T.fk,T.gm]
 ·show#[T.fN,T.fO,T.gK]
 ·show#[T.fL,T.fM,T.gH]
 ·show#[T.gz,T.ij,T.gC]
 ·show#[T.eM,T.fi,T.gf]
def Wa.stop{T:Tx K mg}{k:lT}{C x:lU}{nm:lT}{H:Hp}(h:Wa T k C)(o:qo H C x nm):∃t,Xl K H (.ref x) t/\kitOne K t (.ref T.bJ)=some (decide<|k ="gate"\/k ="stop"):=by
 obtain⟨z,o⟩:=o;rcases h with⟨rfl,rfl⟩|⟨rfl,rfl⟩|⟨rfl,rfl⟩|⟨rfl,rfl⟩|⟨rfl,rfl|rfl⟩
 ·show#[_,Xl.ins o T.dJ T.fY T.tG T.tK T.fZ,T.ja]
 ·show#[_,Xl.ins o T.eO T.gU T.tG T.tK T.gV,T.ju]
 ·show#[_,Xl.ins o T.fN T.iu T.tG T.tK T.iw,T.jK]
 ·show#[_,Xl.ins o T.fL T.iq T.tG T.tK T.ir,T.jJ]
 ·show#[_,Xl.ins o T.gz T.io T.tG T.tK T.ip,T.jI]
 ·show#[_,Xl.ins o T.eM T.gS T.tG T.tK T.gT,T.jt]
inductive Kz:Sp
 | mk (k a C nm e l):vs=[.ref a,.str e,.str l]->Wa T k C->qo H C a nm->(∀H',mF H H'->Q (.str<|wk k e l) H')->Kz vs H Q E
def YV:T.aU.O P w mg mG 2 (Kz T):=by
 refine T.aU.F.okW EZ ?_;rfl'
 ·obtain⟨k,a,C,nm,e,l,rfl,g,⟨z,U⟩,q⟩:=h;intro X D;obtain⟨z,y,B,b1,g1⟩:=g.lies;obtain⟨z,y,m2,b2,g2⟩:=g.pairs;have N:=g.cls.1;refine mP (Zu (rK hr (pv 2) AG) Zo Zj)<|rc (Yi (pv 0) N B (g1 _ _ _ 1<|by lk) hr b1 .nil Z0) #[U,rfl,_,rfl,λp H1 n y z=>.inl #[.inl<|mU z,rfl,Wb _,?_]];rw[mY rfl,vM];refine Yf (λu=>?_) λu=>?_
  ·have u:¬l∈wb k:=by simpa using u
   refine mS (Zl Zg) ?_;have:wk k e l ="":=by unfold wk;rw[mV u]
   rw[this]at q;show q H1 n
  ·have u:l∈wb k:=by simpa using u
   refine mP (Xh pG rfl (Yl AG) (tL rfl<|Z3 (oq 3 EZ)<|Z3 (oq 4 EZ) Xz) Zo)<|rc (Z5 (pv 0) N m2 (g2 _ _ _ 1<|by lk) hr b2 .nil Z0<|Zb (pv 2) Za) #[n.at U,rfl,_,l,rfl,λy H2 d e2=>?_];obtain⟨M,L,J⟩:=e2;let c:IF:=λi z j=>(∃I G,z=[some (.ref a),some<|.str e,some<|.str l,I,G])/\mF H2 j/\zj e ((CJ k l).drop i)=wk k e l
   refine#[mU L,Wr (xs:=M.map V.ref) c ?_ ?_ ?_ ?_]
   ·refine#[#[none,none,rfl],pO _,?_];unfold wk;rw[mY u]
    rfl
   ·rintro i z j _ ⟨_,p,_⟩;show mU<|p.at L
   ·rintro i x z j C ⟨⟨I,G,rfl⟩,p,r⟩;rw[nR]at C;obtain⟨y,Y,rfl⟩:=nW.mp C;obtain⟨⟨one,two⟩,hq,ht⟩:=oQ J Y;rw[EE hq]at r;refine#[mW<|p.at ht,rfl,rfl,?_];refine mP (Zu (W0 hr (pv 1)<|pv 3) Zo Zj)<|.inl #[rfl,Yf (λu=>?_) λu=>?_]
    ·have u:e=one:=V.str.inj<|pD u;refine mS (Zl<|pv 4) ?_;unfold zj at r;rw[mY u]at r;rw[<-r]at q;show q _<|n.trans<|d.trans p
    ·have u:¬e=one:=λy=>u (nZ<|by rw[y])
     refine mS (Zu (W0 hr (pv 1)<|pv 4) Zo Zj)<|.inl #[rfl,Yf (λo=>?_) λo=>?_]
     ·have o:e=two:=V.str.inj<|pD o;refine mS (Zl<|pv 3) ?_;unfold zj at r;rw[mV u,mY o]at r;rw[<-r]at q;show q _<|n.trans<|d.trans p
     ·have o:¬e=two:=λy=>o (nZ<|by rw[y])
      unfold zj at r;rw[mV u,mV o]at r;show#[#[_,_,rfl],p,r]
   ·rintro z j ⟨_,p,r⟩;refine mS (Zl Zg) ?_;have y:(CJ k l).drop (M.map V.ref).length=[]:=by rw[mO,nJ J,Ip]
    rw[y]at r;rw[<-r]at q;show q _<|n.trans<|d.trans p
def _root_.L2.mF.upd0(s:mF H z)(n:H d=none):mF H (mM z d o):=λb u e=>by rw[Zd (Zf e n)];show s.at e
def PO(H:Hp)(x:lU)(p:Zh):Prop:=∃C,Wa T p.1 C/\qo H C x p.2
def PO.mono(e:mF H z)(h:PO U H x p):PO U z x p:=let⟨C,y,u⟩:=h;#[C,y,u.mono e]
inductive PZ:Sp
 | mk (l) (xs:lS lU) (ps:lS Zh):vs=[.ref l]->H l=some (.lst<|xs.map V.ref)->Paired (PO T H) xs ps->(ps.map snd).Nodup->(∀p∈ps,Xb p.2)->ps.length<=100->(∀(d:lU)(kvs:lS (nj×V)) (H':Hp),mF H H'->H d=none->H' d=some (.dK kvs)->DP Xa (RP T H) kvs (qP ps)->Q (.ref d) H')->PZ vs H Q E
def Tc:T.dA.O P w mg mG 3 (PZ T):=by
 refine T.dA.F.okW Gw ?_;rfl'
 ·obtain⟨l,xs,j,rfl,N,M,nd,nm,len,q⟩:=h;intro X D;have e:=nJ M;refine mP (nk 1 Gw Ww) λd H1 L J e1=>?_
  let c:IF:=λi z a=>(∃o,z=[some (.ref l),some<|.ref d,o])/\mF H a/\∃y,a d=some (.dK y)/\DP Xa (RP T H) y (qP<|j.take i)
  refine mP (Xh pG rfl (Yl<|pv 0) (oq 2 Gw) Zo) #[mU<|L.at N,Wr (K:=K) (xs:=xs.map V.ref) c #[#[none,rfl],L,[],e1,.nil] ?_ ?_ ?_]
  ·rintro i z a _ ⟨_,u,_⟩;show mU<|u.at N
  ·rintro i v z I G ⟨⟨o,rfl⟩,u,y,hd,r⟩;rw[nR]at G;obtain⟨x,Y,rfl⟩:=nW.mp G;obtain⟨p,g,C,n,dx,U⟩:=oQ M Y;have hm:p∈j:=pE g;have D5:=(pr.mp g).1;have B:Y7 y (Xa p.2)=none:=r.none wl (by
    rw[Gx,wG];show Du nd<|by rw[nR,g];rfl)
   have hkl:y.length<=100:=by
    have:=r.len;unfold qP at this;rw[mO,oy]at this;lia
   refine mP (Z1<|Zv (Cu T) hr<|Zb (Z2 (pv 2) rfl)<|Zb (pv 1) Za) #[u.at U,n.cls.1,n.cls.2.1,rfl,p.2,d,y,rfl,nm p hm,hd,B,λH3 s3=>?_];have v6:=u.trans s3;refine mS (ua (Xy hr) (pv 1) (Z2 (pv 2) rfl) (pv 2) rfl) #[v6.at U,n.cls.1,n.cls.2.1,rfl,qR.k (k:=Xa p.2) (s3.at hd) (Zp<|by lia),#[_,rfl],v6.upd0 J,_,Zc,?_];have:qP (j.take<|i+1)=qP (j.take i)++[(p.2,p.1)]:=by
    unfold qP;rw[ou,g,nw]
    rfl
   rw[this];show r.put B #[x,C,rfl,n,dx,U]
  ·rintro z I ⟨⟨o,rfl⟩,u,y,hd,r⟩;rw[mO,e,pq]at r;show mS (Zl<|pv 1)<|q d y I u J hd r
def _root_.L2.mF.frz(s:mF H y):mF (mM H d u) (mM y d u):=λb o e=>by
 by_cases z:b=d
 ·rw[z,Zc]at e ⊢;show e
 ·rw[Zd z]at e ⊢;show s.at e
inductive Nl:Sp
 | mk (d kvs) (ps:lS Zh):vs=[.ref d]->H d=some (.dK kvs)->DP Xa (RP T H) kvs (qP ps)->(ps.map snd).Nodup->ps.length<=100->(∀(a:lU)(ka:lS (lS nj×V)) (H':Hp),mF H H'->H a=none->H' a=some (.dT ka)->DP Xf (RA T H) ka (qA ps)->Q (.ref a) H')->Nl vs H Q E
def NS(ps:lS Zh):(qA ps).length<=4 * ps.length:=by
 induction ps with
 | nil=>decide
 | cons p ps z =>
  have:=Cj p.1;have e:qA (p ::ps)=(Yr p.1).map (λe=>((p.2,e),p.1))++qA ps:=rfl;rw[e,oj,mO,pi];lia
def LL{ps:lS Zh}{i:Nat}{p:Zh}(h:ps[i]? =some p):qA (ps.take<|i+1)=qA (ps.take i)++(Yr p.1).map λe=>((p.2,e),p.1):=by
 unfold qA;rw[ou,h,yQ];simp
def Ro:T.dB.O P w mg mG 2 (Nl T):=by
 refine T.dB.F.okW X9 ?_;rfl'
 ·obtain⟨d,n,L,rfl,hd,hD,nd,len,q⟩:=h;intro X D;have hkl:n.length=L.length:=by have:=hD.len;unfold qP at this;rw[mO]at this;show this
  refine mP (nk 1 X9 Qw) λa H1 s1 B e1=>?_
  have U:a≠d:=λy=>by rw[y,hd]at B;cases B
  refine mP (Il<|Xh pG rfl (AK<|pv 0) (tL rfl<|Z3 (oq 2 X9)<|Z3 (oq 3 X9) Xz) Zo) #[s1.at hd,λo nf=>Jv (λi z Y=>(∃o2 o3 N,z=[some (.ref d),some<|.ref a,o2,o3,N])/\mF (mM H d<|.frz o<|.dK n) Y/\∃l,Y a=some (.dT l)/\DP Xf (RA T H) l (qA<|L.take i)) #[#[none,none,none,rfl],s1.frz,[],by rw[Zd U];show e1,.nil] ?_ ?_ ?_]
  ·rintro i z Y _ ⟨_,J,_⟩;show J.at Zc
  ·rintro i kv z H2 hi ⟨⟨o2,o3,N,rfl⟩,J,l,ha,hA⟩ tp H3 s3 n3 e3;obtain⟨⟨nm,u⟩,hq,hk,x,C,hv,hC,dx,hO⟩:=oQ hD hi;have I:L[i]? =some (u,nm):=by
    unfold qP at hq;rw[nR]at hq;obtain⟨⟨p,p2⟩,I,e⟩:=nW.mp hq;rw[I];simp only[zl]at e;rw[e.1,e.2]
   have D5:=(pr.mp I).1;have hxd:x≠d:=λy=>by rw[y,hd]at hO;cases hO
   have hOF:mM H d (.frz o<|.dK n) x=some (.ins C dx [("name",.str nm)]):=by rw[Zd hxd];show hO
   obtain⟨p,d1,m1,b1,g1⟩:=hC.ends;have hk:kv.1=Sum.inr nm:=hk;rw[hk,hv]at e3;have hFa:mM H d (.frz o<|.dK n) a=none:=by rw[Zd U];show B
   refine#[mW e3,rfl,rfl,?_];have G:=J.trans s3;refine mS (Xh pG rfl (Yl AG) (oq 4 X9) Zo)<|rc (Yi (pv 3) hC.cls.1 m1 (g1 _ _ _ 1<|by lk) hr b1 .nil Z0) #[G.at hOF,rfl,_,rfl,λp H4 s4 n4 e4=>#[mU e4,Wr (K:=K) (xs:=(Yr u).map V.str) (λj z Y=>(∃N,z=[some (.ref d),some<|.ref a,some<|.str nm,some<|.ref x,N])/\mF (mM H d<|.frz o<|.dK n) Y/\Y p=some (.lst<|(Yr u).map V.str)/\∃l,Y a=some (.dT l)/\DP Xf (RA T H) l (qA (L.take i)++((Yr u).take j).map λe=>((nm,e),u))) #[#[_,rfl],G.trans s4,e4,l,s4.at<|s3.at ha,by rw[List.take_zero,uB,qj];show hA] ?_ ?_ ?_]]
   ·rintro j z Y _ ⟨_,_,y,_⟩;show mU y
   ·rintro j v z H5 hj ⟨⟨N,rfl⟩,s5,M,g,c,r⟩;rw[nR]at hj;obtain⟨e,he,rfl⟩:=nW.mp hj;have hlen5:g.length<=500:=by
     have p:=r.len;have h2:=NS<|L.take i;have h3:=Cj u;rw[oj,mO,oy]at p;rw[oy]at h2;lia
    have z9:Y7 g (Xf (nm,e))=none:=r.none W6 (by
     have p:(Yu<|L.take<|i+1).Nodup:=yF (by rw[wG];show nd.sublist<|List.take_sublist _ _);rw[<-Cg,LL I,nw]at p;rw[nw];have ed:Yr u=(Yr u).take j++(e ::(Yr u).drop (j+1)):=by rw[<-EE he,xf]
     rw[show((u,nm):Zh).1=u from rfl,ed,nw,nw,oh,oh,<-pC,qG]at p;intro m;show p.2.2 _ m _ oM rfl)
    refine mS (ua (Xy hr) (pv 1) (Zi<|Zb (pv 2)<|Zb (pv 4) Za) (pv 3) rfl) #[mQ,λt H6 s6 n6 e6=>#[qR.t (k:=Xf (nm,e)) (s6.at c) e6 (Zp<|by lia),#[_,rfl],(s5.trans s6).upd0 hFa,?_,_,Zc,?_]]
    ·rw[Zd (Ks M c (λy=>nomatch y))];show s6.at M
    ·have:((Yr u).take (j+1)).map (λe=>((nm,e),u))=((Yr u).take j).map (λe=>((nm,e),u))++[((nm,e),u)]:=by
      rw[ou,he,nw]
      rfl
     rw[this,<-pC];show r.put z9 #[x,C,rfl,hC,dx,hO]
   ·rintro z H5 ⟨⟨N,rfl⟩,s5,M,g,c,r⟩;rw[mO,pq]at r;refine#[#[_,_,_,rfl],s5,g,c,?_];rw[LL I];show r
  ·rintro z H2 ⟨⟨o2,o3,N,rfl⟩,J,l,ha,hA⟩;rw[hkl,pq]at hA;refine#[d,o,_,J.at Zc,nf,mS (Zl<|pv 1)<|q a l _ (J.thaw hd) B ?_ hA];rw[Zd U];show ha
inductive KZ:Sp
 | mk (t u v):vs=[.ref t]->H t=some (.tup [u,v])->Q (.bl true) H->KZ  vs H Q E
def NO:T.gq.O P w mg mG 1 KZ:=by
 refine T.gq.F.okA ?_;rfl'
 ·obtain⟨t,u,v,rfl,z,q⟩:=h;intro X D;show mS (Zl<|xt (rf "tuple" T.af T.iy JP<|pv 0)<|xX<|vA hr (pI T.bw<|pv 0) Ze) #[Xl.tup z,.inl<|pz rfl T.jZ,(.inl #[.inr<|mW z,.inl #[rfl,q]])]
inductive No:Sp
 | mk (t d e kvs):vs=[.ref t,.ref d]->Zr H t e->H d=some (.dT kvs)->Q (.bl (Y7 kvs<|Xf e).isSome) H->No  vs H Q E
def yS:T.fz.O P w mg mG 2 No:=by
 refine T.fz.F.okA ?_;rfl'
 ·obtain⟨t,d,e,y,rfl,z,hd,q⟩:=h;intro X D;show mS (Zl<|xt (Zv (NO T) hr<|Zb (pv 0) Za)<|xt (rf "str" T.af T.fm vZ<|nq (pv 0) Ze)<|xt (rf "str" T.af T.fm vZ<|nq (pv 0) Ze)<|xX<|HK hr (pv 0)<|pv 1) #[t,_,_,rfl,z,(.inr<|.inl #[mW z,Zm (j:=0) rfl,Xl.str _,.inl<|pz rfl T.jU,(.inr<|.inl #[mW z,Zm (j:=1) rfl,Xl.str _,.inl<|pz rfl T.jU,(.inr<|.inl #[d,_,rfl,X0.t (k:=Xf e) hd z,q])])])]
inductive LZ:Sp
 | mk (t pa d a b) (e1 e2:Zh) (ka kd):vs=[.ref t,.ref pa,.ref d]->H t=some (.tup [.ref a,.ref b])->Zr H a e1->Zr H b e2->H pa=some (.dT ka)->H d=some (.dT kd)->(Y7 ka<|Xf e1).isSome=true->(Y7 ka<|Xf e2).isSome=true->Y7 kd (Xf e1)=none->Y7 kd (Xf e2)=none->e1.1≠e2.1->Q .non H->LZ  vs H Q E
def YO:T.dS.O P w mg mG 3 LZ:=by
 refine T.dS.F.okW Og ?_;rfl'
 ·obtain⟨t,c,d,a,b,L,J,Y,I,rfl,u,U,N,n,hd,G,C,B,n2,ne,q⟩:=h;intro X D;refine mP (Zu (Y9<|Yo<|Zv (NO T) hr<|Zb (pv 0) Za) Zo Zj) #[t,_,_,rfl,u,?_];let l:IF:=λi z p=>(∃o,z=[some (.ref t),some<|.ref c,some<|.ref d,o])/\p=H
  refine mP (Xh pG rfl (zW<|pv 0) (oq 3 Og) Zo) #[mW u,Lh (K:=K) (xs:=[.ref a,.ref b]) l #[#[none,rfl],rfl] ?_ ?_ ?_]
  ·rintro i z p _ ⟨_,rfl⟩;show mW u
  ·rintro i v z p r ⟨⟨o,rfl⟩,g⟩;rw[g];obtain⟨x,e,rfl,M,h1,h2⟩:∃x e,v=V.ref x/\Zr H x e/\(Y7 Y<|Xf e).isSome=true/\Y7 I (Xf e)=none:=by
    match i,r with
    | 0,r=>cases r;show#[a,L,rfl,U,G,B]
    | 1,r=>cases r;show#[b,J,rfl,N,C,n2]
   refine mP (Zu (Y9<|Yo<|Zv (yS T) hr<|Zb (pv 3)<|Zb (pv 1) Za) Zo Zj) #[x,c,e,Y,rfl,M,n,Yf (λy=>?_) λ_=>?_]
   ·rw[h1]at y;show absurd y (by lk)
   refine mS (Zu (vq hr (pv 3)<|pv 2) Zo Zj)<|.inr<|.inl #[d,_,rfl,X0.t (k:=Xf e) hd M,Yf (λy=>?_) λ_=>#[#[_,rfl],rfl]];rw[h2]at y;show absurd y (by lk)
  ·rintro z p ⟨⟨o,rfl⟩,g⟩;rw[g];refine mS (Zu (W0 hr (nq (nq (pv 0) Ze) Ze)<|nq (nq (pv 0) Ze) Ze) Zo Zj)<|.inr<|.inl #[mW u,Zm (j:=0) rfl,.inr<|.inl #[mW U,Zm (j:=0) rfl,.inr<|.inl #[mW u,Zm (j:=1) rfl,.inr<|.inl #[mW N,Zm (j:=0) rfl,.inl #[rfl,Yf (λy=>?_) λ_=>q]]]]];show absurd (V.str.inj<|pD y) ne
inductive Om:Sp
 | mk (jl pa) (js:lS (Zh×Zh)) (ka:lS (lS nj×V)):vs=[.ref jl,.ref pa]->Yp H jl js->H pa=some (.dT ka)->(∀e∈Xp js,(Y7 ka<|Xf e).isSome=true)->ka.length=(Xp js).length->(Xp js).Nodup->(∀j∈js,j.1.1≠j.2.1)->js.length<=300->(∀(d:lU)(kj:lS (lS nj×V)) (H':Hp),mF H H'->H d=none->H' d=some (.dT kj)->DP Xf (RJ H) kj (qJ js)->Q (.ref d) H')->Om  vs H Q E
def JW{z:lS (Zh×Zh)}{i:Nat}{j:Zh×Zh}(h:z[i]? =some j):qJ (z.take<|i+1)=qJ (z.take i)++[(j.1,j.2)]++[(j.2,j.1)]:=by
 unfold qJ;rw[ou,h,yQ];simp
def La(z:lS (Zh×Zh)):(qJ z).length=2 * z.length:=by
 induction z with
 | nil=>rfl
 | cons j z y =>
  have e:qJ (j ::z)=[(j.1,j.2),(j.2,j.1)]++qJ z:=rfl;rw[e,oj,y];simp only[pi,EJ];lia
def Sc:T.dU.O P w mg mG 4 Om:=by
 refine T.dU.F.okW EM ?_;rfl'
 ·obtain⟨jl,M,p,Y,rfl,hJ,g,hk,L,nd,apart,len,q⟩:=h;intro X D;obtain⟨ts,hl,j8⟩:=hJ;have E1:=nJ j8;refine mP (nk 2 EM Qw) λd H1 s1 J e1=>?_
  let I:IF:=λi z G=>(∃o,z=[some (.ref jl),some<|.ref M,some<|.ref d,o])/\mF H G/\∃x,G d=some (.dT x)/\DP Xf (RJ H) x (qJ<|p.take i)
  refine mP (Xh pG rfl (Yl<|pv 0) (oq 3 EM) Zo) #[mU<|s1.at hl,Wr (K:=K) (xs:=ts.map V.ref) I #[#[none,rfl],s1,[],e1,.nil] ?_ ?_ ?_]
  ·rintro i z G _ ⟨_,u,_⟩;show mU<|u.at hl
  ·rintro i v z C hi ⟨⟨o,rfl⟩,u,x,hd,n⟩;rw[nR]at hi;obtain⟨t,B,rfl⟩:=nW.mp hi;obtain⟨j,U,a,b,e,ha,hb⟩:=oQ j8 B;have hm:j∈p:=pE U;have D5:=(pr.mp U).1;have m1:j.1∈Xp p:=ui.mpr #[j,hm,by simp];have m2:j.2∈Xp p:=ui.mpr #[j,hm,by simp];have g8:x.length<=600:=by
    have l:=n.len;rw[La,oy]at l;lia
   have T9:(Xp (p.take i)++[j.1]++[j.2]).Nodup:=by
    have l:(Xp<|p.take<|i+1).Nodup:=nd.sublist (by
     have:Xp p=Xp (p.take<|i+1)++Xp (p.drop<|i+1):=by rw[<-At,xf]
     rw[this];show OU _ _)
    rw[<-uF,JW U,nw,nw,uF]at l;show l
   have nd1:j.1∉Xp (p.take i):=λy=>(qG.mp (qG.mp T9).1).2.2 _ y _ oM rfl
   have c:j.2∉Xp (p.take i)++[j.1]:=λy=>(qG.mp T9).2.2 _ y _ oM rfl
   have v1:Y7 x (Xf j.1)=none:=n.none W6 (by rw[uF];show nd1);have v2:Y7 x (Xf j.2)=none:=n.none W6 (by rw[uF];show λy=>c<|AI _ y);refine mP (Z1<|Zv (YO T) hr<|Zb (pv 3)<|Zb (pv 1)<|Zb (pv 2) Za) #[t,M,d,a,b,j.1,j.2,Y,x,rfl,u.at e,ha.mono u,hb.mono u,u.at g,hd,hk _ m1,hk _ m2,v1,v2,apart j hm,?_];have M4:DP Xf (RJ H) (Wk x (Xf j.1)<|.ref b) (qJ (p.take i)++[(j.1,j.2)]):=n.put v1 #[b,rfl,hb];have hl1:=Cy x (Xf j.1)<|.ref b;have v3:Y7 (Wk x (Xf j.1)<|.ref b) (Xf j.2)=none:=M4.none W6 (by rw[nw,uF];show c);refine mP (ua (Xy hr) (pv 2) (nq (pv 3) Ze) (nq (pv 3) Ze) rfl)<|.inr<|.inl #[mW<|u.at e,Zm (j:=1) rfl,.inr<|.inl #[mW<|u.at e,Zm (j:=0) rfl,qR.t (k:=Xf j.1) hd (NH<|ha.mono u) (Zp<|by lia),?_]];have N:mF H (mM C d<|.dT<|Wk x (Xf j.1)<|.ref b):=u.upd0 J;refine mS (ua (Xy hr) (pv 2) (nq (pv 3) Ze) (nq (pv 3) Ze) rfl)<|.inr<|.inl #[mW<|N.at e,Zm (j:=0) rfl,.inr<|.inl #[mW<|N.at e,Zm (j:=1) rfl,qR.t (k:=Xf j.2) Zc (NH<|hb.mono N) (Zp<|by lia),#[_,rfl],N.upd0 J,_,Zc,?_]];rw[JW U];show M4.put v3 #[a,rfl,ha]
  ·rintro z C ⟨⟨o,rfl⟩,u,x,hd,n⟩;rw[mO,E1,pq]at n;have j:x.length=Y.length:=by
    have l:=n.len;rw[L,l,<-uF,mO]
   refine mP (Zu (Ye wr (Yc (r:=Ho) QB (by rfl) T.bw Er<|Zb (pv 2) Za) (Yc (r:=Ho) QB (by rfl) T.bw Er<|Zb (pv 1) Za)<|Yq _) Zo Zj) #[d,x,rfl,hd,M,Y,rfl,u.at g,Yf (λy=>?_) λ_=>?_]
   ·have:(x.length:Int)<(Y.length:Int):=pD y;show absurd this (by lia)
   show mS (Zl<|pv 2)<|q d x C u J hd n
inductive MJ:Sp
 | mk (t pa l x C e k nm ka) (us:lS lU) (es):vs=[.ref t,.ref pa,.ref l]->Zr H t e->H pa=some (.dT ka)->Y7 ka (Xf e)=some (.ref x)->Wa T k C->qo H C x nm->Ga k=true->H l=some (.lst<|us.map V.ref)->Paired (Zr H) us es->e∉es->Q .non H->MJ vs H Q E
def Hv(h:oS a=oS b):a=b:=by
 obtain⟨z,y⟩:=a;obtain⟨z,y⟩:=b;unfold oS at h;simp only[Tr.tup.injEq,zr,Tr.str.injEq,and_true]at h;rw[h.1,h.2]
def Zma:T.dW.O P w mg mG 3 (MJ T):=by
 refine T.dW.F.okA ?_;rfl'
 ·obtain⟨t,i,l,x,C,e,k,nm,g,d,r,rfl,u,y,p,o,⟨G,c⟩,a,Y,U,N,q⟩:=h;intro X D;obtain⟨x,G,M,L,J⟩:=o.bears;refine mP (Zu (Y9<|Yo<|Zv (yS T) hr<|Zb (pv 0)<|Zb (pv 1) Za) Zo Zj) #[t,i,e,g,rfl,u,y,Yf (λz=>?_) λ_=>?_]
  ·rw[p]at z;show absurd z (by simp)
  refine mP (Zu (Y9<|Yo AG) Zo Zj)<|rc (Yi (tS (Xy hr) (pv 1) (pv 0) λ_ _=>rfl) o.cls.1 M (J _ _ _ 2<|by lk) hr L .nil Z0) #[by rw[<-p];show X0.t (k:=Xf e) y u,c,rfl,_,rfl,Yf (λz=>?_) λ_=>?_]
  ·rw[a]at z;show absurd z (by lk)
  refine mS (Zu (vq hr (pv 0)<|pv 2) Zo Zj)<|.inr<|.inr<|.inr #[l,1,oS e,r.map oS,d,rfl,mU Y,by lk,vL (n:=0) (mW u)<|.cons (.str _)<|.cons (.str _) .nil,BY U,Yf (λz=>?_) λ_=>q];have z:oS e∈r.map oS:=pD z;obtain⟨x,j,I⟩:=mZ.mp z;rw[Hv I]at j;show absurd j N
def Zr.offD(h:Zr H t q)(y:H c=some (.dK xs)):Zr (mM H c o) t q:=by
 unfold Zr at h ⊢;show(Zd λz=>by rw[z,y]at h;cases h).trans h
inductive OC:Sp
 | mk (sl pa) (ts:lS lU) (sg:lS (lT×lT×lT)) (ka):vs=[.ref sl,.ref pa]->H sl=some (.lst<|ts.map V.ref)->Paired (AF H) ts sg->H pa=some (.dT ka)->(∀q∈sg,Xb q.1)->(sg.map fst).Nodup->(sg.map snd).Nodup->sg.length<=100->(∀q∈sg,∃x C k,Y7 ka (Xf (q.2.1,q.2.2))=some (.ref x)/\Wa T k C/\qo H C x q.2.1/\Ga k=true)->(∀(d:lU)(ks:lS (nj×V)) (H':Hp),mF H H'->H d=none->H' d=some (.dK ks)->DP Xa (RS H') ks (qS sg)->Q (.ref d) H')->OC vs H Q E
def Ybe(h:DP Xa (RS H) z qs):∃us:lS lU,z.map (λkv=>kv.2)=us.map V.ref/\Paired (Zr H) us (qs.map snd):=by
 unfold DP at h
 induction h with
 | nil=>show#[[],rfl,.nil]
 | cons r _ y =>
  obtain⟨us,x,u⟩:=y;obtain⟨_,t,s,q⟩:=r;show#[t ::us,by rw[oh,oh,x,s],.cons q u]
def Sh:T.fA.O P w mg mG 4 (OC T):=by
 refine T.fA.F.okW AQ ?_;rfl'
 ·obtain⟨sl,pa,ts,o,ka,rfl,hl,j8,G,F1,nd,one,len,hk,q⟩:=h;intro X D;have E1:=nJ j8;refine mP (nk 2 AQ Ww) λd H1 s1 n1 e1=>?_
  let B:IF:=λi z L=>(∃o3 o4 o5,z=[some (.ref sl),some<|.ref pa,some<|.ref d,o3,o4,o5])/\mF H L/\∃p,L d=some (.dK p)/\DP Xa (RS L) p (qS<|o.take i)
  refine mP (Xh pG rfl (Yl<|pv 0) (oq 3 AQ) Zo) #[mU<|s1.at hl,Wr (K:=K) (xs:=ts.map V.ref) B #[#[none,none,none,rfl],s1,[],e1,.nil] ?_ ?_ ?_]
  ·rintro i z L _ ⟨_,g,_⟩;show mU<|g.at hl
  ·rintro i v z H2 hi ⟨⟨o3,o4,o5,rfl⟩,g,p,hd,a⟩;rw[nR]at hi;obtain⟨t,hti,rfl⟩:=nW.mp hi;obtain⟨⟨nm,e,Y⟩,N,J⟩:=oQ j8 hti;have J:H t=some (.tup [.str nm,.str e,.str Y]):=J;have hm:((nm,e,Y):lT×lT×lT)∈o:=pE N;have D5:=(pr.mp N).1;obtain⟨x,C,k,hv,hC,hO,hb⟩:=hk _ hm;have g8:p.length<=100:=by
    have h1:=a.len;unfold qS at h1;rw[mO,oy]at h1;lia
   have hn:Y7 p (Xa nm)=none:=a.none wl (by
    rw[HX,wG];show Du nd<|by rw[nR,N];rfl)
   have he:((e,Y):Zh)∉(qS<|o.take i).map snd:=by
    have:(qS<|o.take i).map snd=(o.map snd).take i:=by
     unfold qS;rw[oO,wG]
     rfl
    rw[this];show Du one (by rw[nR,N];rfl)
   refine mP (nk 4 AQ<|nq (pv 3) Ze)<|.inr<|.inl #[mW<|g.at J,Zm (j:=0) rfl,?_];refine mP (nk 5 AQ<|X6 (r:=rY K) sI (pv 3) (We Ze) Wu)<|.inl #[mW<|g.at J,(show ¬(HT.sIx 3 0 (some 1)=0/\HT.sIx 3 3 none=3) by lk),λI H3 M r e3=>?_];have v6:=g.trans M;have U4:Zr H3 I (e,Y):=e3;refine mP (Z1<|Zv (Cu T) hr<|Zb (pv 4)<|Zb (pv 2) Za) #[nm,d,p,rfl,F1 _ hm,M.at hd,hn,λH4 U=>?_];have y9:=v6.trans U;have T2:DP Xa (RS H4) p (qS<|o.take i):=a.mapR λ_ _ _ y=>RS.mono (M.trans U) _ _ _ y
   obtain⟨us,j7,hup⟩:=Ybe T2;refine mP (Z1<|Zv (Zma T) hr<|Zb (pv 5)<|Zb (pv 1)<|Zb (Rg rfl (by rfl) T.fT<|pv 2) Za) #[d,p,rfl,.inl<|U.at<|M.at hd,λl H5 n n5 e5=>#[I,pa,l,x,C,(e,Y),k,e,ka,us,_,rfl,(U4.mono U).mono n,(y9.trans n).at G,hv,hC,hO.mono<|y9.trans n,hb,by rw[<-j7];show e5,nO hup λ_ _ r=>r.mono n,he,?_]];have K1:=y9.trans n;have c:H5 d=some (.dK p):=n.at<|U.at<|M.at hd;refine mS (ua (Xy hr) (pv 2) (pv 4) (pv 5) rfl) #[qR.k (k:=Xa nm) c (Zp<|by lia),#[_,_,_,rfl],K1.upd0 n1,_,Zc,?_];have:qS (o.take<|i+1)=qS (o.take i)++[(nm,(e,Y))]:=by
    unfold qS;rw[ou,N,nw]
    rfl
   rw[this];have B3:DP Xa (RS<|mM H5 d<|.dK<|Wk p (Xa nm)<|.ref I) p (qS<|o.take i):=T2.mapR λ_ _ _ ⟨u,z1,z2⟩=>#[u,z1,(z2.mono n).offD c]
   show B3.put hn #[I,rfl,((U4.mono U).mono n).offD c]
  ·rintro z H2 ⟨⟨o3,o4,o5,rfl⟩,g,p,hd,a⟩;rw[mO,E1,pq]at a;show mS (Zl<|pv 2)<|q d p H2 g n1 hd a
structure Z4(T:Tx K mg)(H:Hp)(x:Addr)(ps:List Zh)(js:List (Zh×Zh))(sg:List (Str×Str×Str)):Prop where
 ex:∃(dx po jo so si:Addr)(kp ks:List (nj×V)) (kj ko:List (List nj×V)),H x=some (.ins T.aW dx [("part_of",.ref po),("joined",.ref jo),("post_of",.ref so),("signal_on",.ref si)])/\
  H po=some (.dK kp)/\DP Xa (RP T H) kp (qP ps)/\H jo=some (.dT kj)/\DP Xf (RJ H) kj (qJ js)/\H so=some (.dK ks)/\DP Xa (RS H) ks (qS sg)/\H si=some (.dT ko)/\DP Xf RO ko (qO sg)
def Z4.mono(e:mF H z)(h:Z4 U H x ps y u):Z4 U z x ps y u:=by
 obtain⟨s,r,q,p,o,n,l,j,i,g,d,c,a,Y,Q,N,M,L⟩:=h.ex;show#[s,r,q,p,o,n,l,j,i,e.at g,e.at d,c.mapR<|RP.mono e,e.at a,Y.mapR<|RJ.mono e,e.at Q,N.mapR<|RS.mono e,e.at M,L]
def pW(H:Hp)(x:lU):Hp:=λb=>if b=x then none else H b
def Hr :pW H x x=none:=mY rfl
def vH(h:H b=some o)(n:b≠x):pW H x b=some o:=(mV n).trans h
def se :mF (pW H x) (mM H x o):=λb u e=>by
 unfold pW at e
 by_cases z:b=x
 ·rw[mY z]at e;cases e
 ·rw[mV z]at e;rw[Zd z];show e
def Bl(s:mF G H)(n:G x=none):mF G (pW H x):=λb u e=>vH (s.at e)<|Zf e n
structure Xe(ps:List Zh)(js:List (Zh×Zh))(sg:List (Str×Str×Str)):Prop where
 net:Net ps js []
 len:ps.length<=40
 name:∀p∈ps,Xb p.2
 sigs:yf ps sg
def zm.v(h:zm ps z y):Xe ps z y:=#[h.net,by have:=h.len;lia,λp x=>(h.name p x).nm.ok,h.sigsV]
def Zt8(ps:lS Zh):(Yu ps).length<=4 * ps.length:=by rw[<-Cg,mO];show NS ps
def _root_.YM.Net.flat(h:Net ps z []):(Xp z).Perm (Yu ps):=by
 have:=h.perm;rw[qj]at this;show this
def _root_.YM.Net.jlen(h:Net ps z [])(l:ps.length<=40):z.length<=300:=by
 have y:=h.flat.length_eq;have x:=Zt8 ps;rw[<-uF,mO,La]at y;lia
def VG(z:p∈ps)(he:e∈Yr p.1):((p.2,e),p.1)∈qA ps:=ui.mpr #[p,z,mZ.mpr #[e,he,rfl]]
inductive GV:Sp
 | mk (G x dx pl jl sl) (xs:lS lU) (ps js sg):vs=[.ref x,.ref pl,.ref jl,.ref sl]->G x=none->mF G H->H x=some (.ins T.aW dx [])->G pl=some (.lst<|xs.map V.ref)->Paired (PO T G) xs ps->Yp G jl js->uq G sl sg->Xe ps js sg->(∀H',mF G H'->Z4 T H' x ps js sg->Q .non H')->GV vs H Q E
def Rj:T.bQ.O P w mg mG 5 (GV T):=by
 refine T.bQ.F.okW Iq ?_;rfl'
 ·obtain⟨G,x,dx,pl,jl,sl,I,ps,js,J,rfl,hGx,s0,hx,u6,hxs,x9,⟨ts,K4,j8⟩,j,q⟩:=h;intro X D;have hxl:=nJ hxs;have E1:=nJ j8;have ylen:=j.len;have slen:=j.sigs.len;refine mP (nk 4 Iq<|W5 (Ye zf (pv 3) rV<|Yq _) (Zn Za)<|pv 3) #[rfl,?_];refine mP (Zu (pN<|qp (Ye zo (pI T.bw<|pv 1) (Wt (by rfl) T.gQ)<|Yq _)<|rJ<|Ye zo (pI T.bw<|pv 4) (Wt (by rfl) T.fX)<|Yq _) Zo Zj)<|.inl #[.inl<|mU<|s0.at u6,Yf (λz=>?_) λ_=>(.inl #[.inl<|mU<|s0.at K4,Yf (λz=>?_) λ_=>?_])]
  ·have z:=pD z;rw[mO]at z;show absurd z (by lia)
  ·have z:=pD z;rw[mO]at z;show absurd z (by lia)
  refine mP (Wo (pv 0) (Zv (Tc T) hr<|Zb (pv 1) Za) rfl) #[pl,I,ps,rfl,s0.at u6,nO hxs λ_ _ r=>r.mono s0,j.net.nd,j.name,by lia,λpo kp H1 s1 m1 e1 dp=>#[s1.at hx,T.ak,T.bM,by simp,?_]];have hpx:po≠x:=λz=>by rw[z,hx]at m1;cases m1
  have g1:mF G (pW H1 x):=Bl (s0.trans s1) hGx;have dp1:DP Xa (RP T<|pW H1 x) kp (qP ps):=dp.mapR λa b v ⟨y,C,B,Y,dy,z3⟩=>#[y,C,B,Y,dy,vH (s1.at z3) λz=>by rw[z,hx]at z3;cases z3]
  have ep1:pW H1 x po=some (.dK kp):=vH e1 hpx;refine mP (nk 5 Iq<|Zv (Ro T) hr<|Zb (Z2 (pv 0) rfl) Za) #[Zc,T.ak,T.bM,rfl,po,kp,ps,rfl,se.at ep1,dp1.mapR<|RP.mono se,j.net.nd,by lia,λpa ka H2 s2 l e2 da=>?_];have hx2:=s2.at Zc;have ep2:mF G H2:=(g1.trans se).trans s2;have kaq:∀p∈ps,∀e∈Yr p.1,∃v,Y7 ka (Xf (p.2,e))=some v/\RA T _ (p.2,e) p.1 v:=λp hp e he=>da.get W6 (by rw[Cg];show yF j.net.nd)<|VG hp he
  refine mP (Wo (pv 0) (Zv (Sc T) hr<|Zb (pv 2)<|Zb (pv 5) Za) rfl) #[jl,pa,js,ka,rfl,x9.mono ep2,e2,λe he=>?_,?_,?_,j.net.apart,j.net.jlen ylen,λjo kj H3 s3 m3 e3 dj=>#[s3.at hx2,T.ak,T.cJ,(by change 1<1000;decide),?_]]
  ·have:=j.net.flat.mem_iff.mp he;obtain⟨p,hp,l⟩:=ui.mp this;obtain⟨e',L,rfl⟩:=mZ.mp l;obtain⟨v,hv,_⟩:=kaq p hp e' L;rw[hv];rfl
  ·rw[j.net.flat.length_eq,<-Cg,mO];show da.len
  ·show j.net.flat.nodup_iff.mpr<|yF j.net.nd
  have hjx:jo≠x:=λz=>by rw[z,hx2]at m3;cases m3
  have v6:mF (pW H1 x) (pW H3 x):=Bl ((se.trans s2).trans s3) Hr;have ej3:pW H3 x jo=some (.dT kj):=vH e3 hjx;have hpax:pa≠x:=λz=>by rw[z,hx2]at e2;cases e2
  have epa:pW H3 x pa=some (.dT ka):=vH (s3.at e2) hpax;have dj3:DP Xf (RJ<|pW H3 x) kj (qJ js):=dj.mapR λa b v ⟨u,B,Y⟩=>#[u,B,vH (s3.at Y) λz=>by rw[z]at Y;show nomatch hx2.symm.trans Y]
  have g3:mF G (pW H3 x):=g1.trans v6;refine mP (Wo (pv 0) (Zv (Sh T) hr<|Zb (pv 4)<|Zb (pv 5) Za) rfl) #[sl,pa,ts,J,ka,rfl,se.at<|g3.at K4,nO j8 λ_ _ r=>(g3.trans se).at r,se.at epa,j.sigs.name,j.sigs.nd,j.sigs.one,by lia,λg hg=>?_,λU ks H4 s4 m4 e4 ds=>#[s4.at Zc,T.ak,T.bi,(by change 2<1000;decide),?_]]
  ·obtain⟨p,hp,h1,h2,h3⟩:=j.sigs.at_ g hg;obtain⟨v,hv,y,C,rfl,hC,dy,l⟩:=kaq p hp g.2.2 h3;refine#[y,C,p.1,by rw[<-h1];show hv,hC,#[dy,?_],nZ h2];have L:y≠x:=λz=>by rw[z,Zc]at l;cases l
   rw[Zd L,<-h1];show s3.at<|s2.at l
  have hsx:U≠x:=λz=>by rw[z,Zc]at m4;cases m4
  have hx4:=s4.at<|Zc (H:=H3) (a:=x);have s34:mF (pW H3 x) (pW H4 x):=Bl (se.trans s4) Hr;have es4:pW H4 x U=some (.dK ks):=vH e4 hsx;have ds4:DP Xa (RS<|pW H4 x) ks (qS J):=ds.mapR λa b v ⟨u,B,Y⟩=>#[u,B,vH Y λz=>by rw[z]at Y;show nomatch hx4.symm.trans Y]
  refine mS (Wo (pv 0) (Y5 (r:=IW) (Vr rfl hr.units) (by rfl) T.eW xP<|Zb (FG<|pH ["name","end"] (ph 2 [] rfl) (AK<|Z2 (pv 0) rfl) (AU (K:=K) (n:=2) rfl rfl<|Z3 (oK 0)<|Z3 (oK 1) Xz) X5 (Zi<|Zb (pv 1)<|Zb (pv 0) Za)) Za) rfl) #[Zc,T.ak,T.bi,rfl,se.at es4,λo nf D hD=>EU (λi ys H'=>mF (mM (mM H4 x<|.ins T.aW dx [("part_of",.ref po),("joined",.ref jo),("post_of",.ref U)]) U<|.frz o<|.dK ks) H'/\H' D=some (.lst ys)/\∃d:lS lU,ys=d.map V.ref/\Paired (λt (q:lS nj×V)=>∃a,H' t=some (.tup [.ref a,q.2])/\H' a=some (.tup<|q.1.map kV)) d ((qO<|J.take i).map λq=>(Xf q.1,V.str q.2))) #[oU hD,Zc,[],rfl,.nil] ?_ ?_ ?_]
  ·rintro i ys H' _ ⟨z,_⟩;show z.at Zc
  ·rintro i kv ys H5 hi ⟨s5,N,d,rfl,M⟩ tp H6 l n6 e6;obtain⟨⟨nm,e⟩,hq,hk,t,hv,ht⟩:=oQ ds4 hi;have hk:kv.1=Sum.inr nm:=hk;rw[hk,hv]at e6;have hg:J[i]? =some (nm,e.1,e.2):=by
    unfold qS at hq;rw[nR]at hq;obtain⟨⟨g1,g2,g3⟩,hg,e'⟩:=nW.mp hq;rw[hg];simp only[zl]at e';rw[<-e'.1,<-e'.2]
   have D5:=(pr.mp hg).1;have hto:t≠U:=λz=>by rw[z]at ht;show nomatch es4.symm.trans ht
   have htF:mM (mM H4 x<|.ins T.aW dx [("part_of",.ref po),("joined",.ref jo),("post_of",.ref U)]) U (.frz o<|.dK ks) t=some (.tup<|(Xf e).map kV):=by
    rw[Zd hto];show se.at ht
   have htl':d.length<=100:=by
    have:=nJ M;unfold qO at this;rw[mO,mO,oy]at this;lia
   refine#[mW e6,rfl,rfl,(oR rfl).trans (oR rfl),mQ,λt' H7 L n7 e7=>#[L.at<|l.at N,by rw[mO];show Zp (by lia),?_,Zc,d++[t'],by rw[nw];rfl,?_]]
   ·intro c u z;rw[Zd (Zf z hD)];show L.at<|l.at<|s5.at z
   ·have hD7:=L.at<|l.at N;have off:∀{c:lU}{I:lS V}{u:HO},H7 c=some (.tup I)->mM H7 D u c=some (.tup I):=λ{c I u} z=>(Zd λy=>by rw[y,hD7]at z;cases z).trans z
    have:(qO<|J.take<|i+1).map (λq=>(Xf q.1,V.str q.2))=(qO<|J.take i).map (λq=>(Xf q.1,V.str q.2))++[(Xf e,V.str nm)]:=by
     unfold qO;rw[ou,hg,nw,nw]
     rfl
    rw[this];show BP (nO M λ_ _ ⟨a,B,Y⟩=>#[a,off<|L.at<|l.at B,off<|L.at<|l.at Y]) #[t,off e7,off<|L.at<|l.at<|s5.at htF]
  ·rintro ys H5 ⟨s5,N,d,rfl,M⟩;have hks:ks.length=J.length:=by
    have:=ds4.len;unfold qS at this;rw[mO]at this;show this
   rw[hks,pq]at M;have L:=s5.at Zc;have off:∀{c:lU}{I:lS V}{u:HO},H5 c=some (.tup I)->mM H5 U u c=some (.tup I):=λ{c I u} z=>(Zd λy=>by rw[y,L]at z;cases z).trans z
   have sT:mF (mM H4 x<|.ins T.aW dx [("part_of",.ref po),("joined",.ref jo),("post_of",.ref U)]) (mM H5 U<|.dK ks):=s5.thaw<|se.at es4;refine#[U,o,_,L,nf,D,d,_,rfl,?_,nO M λ_ _ ⟨a,B,Y⟩=>#[a,off B,off Y],?_,λsi H8 s8 n8 e8=>#[s8.at<|sT.at Zc,T.ak,T.bT,(by change 3<1000;decide),?_]]
   ·rw[Zd λy=>by rw[y,L]at N;cases N];show N
   ·rw[oO];have e1:(qO J).map (fst ∘ λq=>(Xf q.1,V.str q.2))=((qO J).map fst).map Xf:=by rw[oO];rfl
    rw[e1,DW];show j.sigs.one.map Xf λa b ne z=>ne<|W6 a b z
   have hix:si≠x:=λz=>by rw[z,sT.at Zc]at n8;cases n8
   have s48:mF (pW H4 x) (pW H8 x):=Bl ((se.trans sT).trans s8) Hr;have ei8:pW H8 x si=some (.dT<|(qO J).map λq=>(Xf q.1,V.str q.2)):=vH e8 hix;have f4:mF (pW H4 x) (mM H8 x<|.ins T.aW dx [("part_of",.ref po),("joined",.ref jo),("post_of",.ref U),("signal_on",.ref si)]):=s48.trans se;have f3:=s34.trans f4;have f1:=v6.trans f3;refine q _ (g1.trans f1) #[dx,po,jo,U,si,kp,ks,kj,_,Zc,f1.at ep1,dp1.mapR<|RP.mono f1,f3.at ej3,dj3.mapR<|RJ.mono f3,f4.at es4,ds4.mapR<|RS.mono f4,se.at ei8,?_];have all:∀l:lS (Zh×lT),DP Xf RO (l.map λq=>(Xf q.1,V.str q.2)) l:=λl=>by
    induction l with
    | nil=>show .nil
    | cons p l ih=>show .cons #[rfl,rfl] ih
   show all _
def MG:lS V->Hp->VK->Prop:=λn H Q=>∃(r q p:lU)(o:lS lU)(z:lS Zh)(y:lS (Zh×Zh)) (u:lS (lT×lT×lT)),n=[.ref r,.ref q,.ref p]/\H r=some (.lst<|o.map V.ref)/\Paired (PO T H) o z/\Yp H q y/\uq H p u/\Xe z y u/\∀x s,mF H s->H x=none->Z4 T s x z y u->Q (.ref x) s
def Rh:∀vs H Q,MG T vs H Q->
  ∀x z,H x=none->H z=none->z≠x->GV T (.ref x ::(vs++[])) (mM (mM H z<|.own x) x<|.ins T.aW z []) (λv r=>v=.non/\Q (.ref x) r) E0:=by
 rintro vs H Q ⟨p,n,l,j,i,h,g,rfl,d,c,a,Y,U,q⟩ x z y u M;refine#[H,x,z,p,n,l,j,i,h,g,rfl,y,λb o e=>?_,Zc,d,c,a,Y,U,λN s t=>#[rfl,q x N s y t]];rw[Zd (Zf e y),Zd<|Zf e u];show e
inductive Fy:Sp
 | mk (x nm k ps js sg):vs=[.ref x,.str nm]->Z4 T H x ps js sg->Xe ps js sg->((k,nm):Zh)∈ps->(∀(y C:lU)(H':Hp),mF H H'->Wa T k C->qo H' C y nm->Q (.ref y) H')->Fy vs H Q E
def DX:T.br.O P w mg mG 2 (Fy T):=by
 refine T.br.F.okA ?_;rfl'
 ·obtain⟨x,nm,k,j,U,N,rfl,i,r,p,q⟩:=h;intro X D;obtain⟨x,g,U,N,M,L,J,I,G,o,n,e,_⟩:=i.ex;have d:((nm,k):lT×lT)∈qP j:=mZ.mpr #[(k,nm),p,rfl];obtain⟨v,l,y,C,rfl,c,a⟩:=e.get wl (by rw[Gx];show r.net.nd) d;refine mP (Zu (pN<|qp (Y9<|Yo<|Zv (wK T) hr<|Zb (pv 1) Za)<|rJ<|rK hr (pv 1)<|Z2 (pv 0) rfl) Zo Zj) #[_,true,rfl,(r.name _ p).asked,λY u=>(#[u.at o,T.ak,T.bM,rfl,.inr<|.inl #[g,_,rfl,X0.k (k:=Xa nm)<|u.at n,Yf (λz=>?_) λ_=>?_]])]
  ·rw[l]at z;show absurd z (by simp)
  show mS (Zl<|tS (Xy hr) (Z2 (pv 0) rfl) (pv 1) λ_ _=>rfl) #[u.at o,T.ak,T.bM,rfl,by rw[<-l];show X0.k (k:=Xa nm)<|u.at n,q y C Y u c<|a.mono u]
inductive OA:Sp
 | mk (x t e ps js sg):vs=[.ref x,.ref t]->Z4 T H x ps js sg->Xe ps js sg->Zr H t e->((e∈Yu ps/\∀t' e',((e,e'):Zh×Zh)∈qJ js->Zr H t' e'->Q (.ref t') H)\/(e∉Yu ps/\∀t' H',mF H H'->H t'=none->Zr H' t' ("","")->Q (.ref t') H'))->OA vs H Q E
def EN:T.bg.O P w mg mG 3 (OA T):=by
 refine T.bg.F.okA ?_;rfl'
 ·obtain⟨x,t,e,z,g,U,rfl,a,y,r,q⟩:=h;intro X D;obtain⟨z,x,d,U,N,M,L,p,J,o,I,G,n,c,_⟩:=a.ex;have Y:((qJ g).map fst).Nodup:=by rw[uF];show y.net.flat.nodup_iff.mpr<|yF y.net.nd
  rcases q with⟨l,q⟩|⟨l,q⟩
  ·have:e∈(qJ g).map fst:=by rw[uF];show y.net.flat.mem_iff.mpr l
   obtain⟨⟨x,j⟩,z,rfl⟩:=mZ.mp this;obtain⟨v,u,i,rfl,U⟩:=c.get W6 Y z;refine mS (Zl<|W5 (Yo<|Zv (yS T) hr<|Zb (pv 1)<|Zb (Z2 (pv 0) rfl) Za) (tS (Xy hr) (Z2 (pv 0) rfl) (pv 1) λ_ _=>rfl)<|Zi<|Zb Zg<|Zb Zg Za) #[o,T.ak,T.cJ,rfl,t,d,_,p,rfl,r,n,?_];rw[u];show#[o,T.ak,T.cJ,rfl,by rw[<-u];show X0.t (k:=Xf x) n r,q i j z U]
  ·have u:Y7 p (Xf e)=none:=c.none W6 (by rw[uF];show λz=>l<|y.net.flat.mem_iff.mp z);refine mS (Zl<|W5 (Yo<|Zv (yS T) hr<|Zb (pv 1)<|Zb (Z2 (pv 0) rfl) Za) (tS (Xy hr) (Z2 (pv 0) rfl) (pv 1) λ_ _=>rfl)<|Zi<|Zb Zg<|Zb Zg Za) #[o,T.ak,T.cJ,rfl,t,d,_,p,rfl,r,n,?_];rw[u];show#[mQ,λi z x U j=>q i z x U j]
def Yjk(z:lS (lT×lT×lT))(e:Zh):Bool:=decide<|e∈z.map snd
inductive LF:Sp
 | mk (x t e ps js) (sg:lS (lT×lT×lT)):vs=[.ref x,.ref t]->Z4 T H x ps js sg->Xe ps js sg->Zr H t e->(∀nm:lT,((nm,e)∈qS sg/\Xb nm/\e∈sg.map snd)\/(nm =""/\e∉sg.map snd)->Q (.str nm) H)->LF vs H Q E
def Yx:T.ar.O P w mg mG 3 (LF T):=by
 refine T.ar.F.okA ?_;rfl'
 ·obtain⟨x,t,e,z,y,i,rfl,Y,g,p,q⟩:=h;intro X D;obtain⟨z,y,x,l,d,N,M,L,u,o,_,_,_,_,_,_,n,c⟩:=Y.ex;have U:((qO i).map fst).Nodup:=by rw[DW];show g.sigs.one
  by_cases r:e∈i.map snd
  ·obtain⟨⟨nm,z,y⟩,l,rfl⟩:=mZ.mp r;obtain⟨v,j,rfl⟩:=c.get W6 U (a:=(z,y)) (b:=nm)<|mZ.mpr #[_,l,rfl];refine mS (Zl<|W5 (Yo<|Zv (yS T) hr<|Zb (pv 1)<|Zb (Z2 (pv 0) rfl) Za) (tS (Xy hr) (Z2 (pv 0) rfl) (pv 1) λ_ _=>rfl) Zg) #[o,T.ak,T.bT,rfl,t,d,_,u,rfl,p,n,?_];have x:Y7 u (Xf (z,y))=some (.str nm):=j;rw[show((nm,z,y):lT×lT×lT).snd=(z,y)from rfl,x];show#[o,T.ak,T.bT,rfl,by rw[<-x];show X0.t (k:=Xf (z,y)) n p,q nm<|.inl #[mZ.mpr #[_,l,rfl],g.sigs.name _ l,r]]
  ·have j:Y7 u (Xf e)=none:=c.none W6 (by rw[DW];show r);refine mS (Zl<|W5 (Yo<|Zv (yS T) hr<|Zb (pv 1)<|Zb (Z2 (pv 0) rfl) Za) (tS (Xy hr) (Z2 (pv 0) rfl) (pv 1) λ_ _=>rfl) Zg) #[o,T.ak,T.bT,rfl,t,d,_,u,rfl,p,n,?_];rw[j];show(q _<|.inr #[rfl,r])
abbrev S4:=lT×lT×lT×lT
def pF(H:Hp)(t:lU)(q:S4):Prop:=H t=some (.tup [.str q.1,.str q.2.1,.str q.2.2.1,.str q.2.2.2])
def pF.mono(e:mF H z)(h:pF H t q):pF z t q:=e.at h
inductive Ml:Sp
 | mk (t) (q:S4):vs=[.ref t]->pF H t q->(∀t' H',mF H H'->H t'=none->Zr H' t' (q.1,q.2.2.1)->Q (.ref t') H')->Ml  vs H Q E
def Cq:T.eF.O P w mg mG 1 Ml:=by
 refine T.eF.F.okA ?_;rfl'
 ·obtain⟨t,y,rfl,z,q⟩:=h;intro X D;show mS (Zl<|Zi<|Zb (nq (pv 0) Ze)<|Zb (nq (pv 0) Ze) Za)<|.inr<|.inl #[mW z,Zm (j:=0) rfl,.inr<|.inl #[mW z,Zm (j:=2) rfl,mQ,q]]
def vf(z:lS (lT×lT×lT))(q:S4):Bool:=decide (q.2.2.1 ="") || decide (((q.1,q.2.2.1):Zh)∈z.map snd)
inductive OW:Sp
 | mk (x t q ps js sg):vs=[.ref x,.ref t]->Z4 T H x ps js sg->Xe ps js sg->pF H t q->(∀H',mF H H'->Q (.bl<|vf sg q) H')->OW vs H Q E
def xS(h:Xb s):s≠ "":=λz=>by
 have:=h.1;rw[z]at this;show absurd this (by lk)
def Gf:T.eG.O P w mg mG 4 (OW T):=by
 refine T.eG.F.okA ?_;rfl'
 ·obtain⟨x,t,u,g,d,p,rfl,n,c,l,q⟩:=h;intro X D;obtain⟨y,_,_,_,_,_,_,_,_,a,_⟩:=n.ex;refine mS (Zl<|YJ (vA hr (nq (pv 1) Ze) Zg)<|xX<|Vy hr (Z5 (pv 0) T.ak T.aK (Yx T) hr.m T.ar.b .nil Z0<|Zb (Zv (Cq T) hr<|Zb (pv 1) Za) Za) Zg)<|.inr<|.inl #[mW l,Zm (j:=2) rfl,.inl #[rfl,Yf (λz=>?_) λz=>?_]]
  ·have z:u.2.2.1 ="":=V.str.inj<|pD z;have e:vf p u=true:=by unfold vf;rw[nZ z];rfl
   rw[e]at q;show q H<|pO _
  ·have z:¬u.2.2.1 ="":=λy=>z (nZ<|by rw[y])
   refine#[a,rfl,t,u,rfl,l,λY U i M N=>#[x,Y,_,g,d,p,rfl,n.mono i,c,N,λnm r=>.inl #[rfl,?_]]];have e:vf p u=!decide (V.str nm=V.str ""):=by
    unfold vf;rw[ow z];rcases r with⟨_,r,o⟩|⟨r,o⟩
    ·rw[nZ o,ow λy=>xS r<|V.str.inj y];rfl
    ·rw[ow o,r];rfl
   rw[<-e];show q U i
inductive NE:Sp
 | mk (x) (ps:lS Zh) (js sg):vs=[.ref x]->Z4 T H x ps js sg->Xe ps js sg->(∀ss:lS lT,ss.Perm (ps.map snd)->PyProof.Rows.sortedS ss=true->pK H (.lst<|ss.map V.str) Q)->NE vs H Q E
def Nn:T.bV.O P w mg mG 1 (NE T):=by
 refine T.bV.F.okA ?_;rfl'
 ·obtain⟨x,z,i,g,rfl,y,u,q⟩:=h;intro X D;obtain⟨x,p,i,g,e,o,d,c,a,n,l,j,_⟩:=y.ex;refine mS (Zl<|Yc (r:=BD) (Gh rfl) (by rfl) T.dh yn<|Zb (Z2 (pv 0) rfl) Za) #[n,T.ak,T.bM,rfl,p,o,z.map snd,rfl,.inl l,?_,by rw[mO];have:=u.len;lia,q];have:=oN (List.map kV) j.keys;rw[oO,oO]at this;refine Eq.trans this ?_;rw[<-Gx,oO]
  rfl
def Wa.gate{T:Tx K mg}{k:lT}{C x:lU}{nm:lT}{H:Hp}(h:Wa T k C)(o:qo H C x nm):∃t,Xl K H (.ref x) t/\kitOne K t (.ref T.bK)=some (decide<|k ="gate"):=by
 obtain⟨z,o⟩:=o;rcases h with⟨rfl,rfl⟩|⟨rfl,rfl⟩|⟨rfl,rfl⟩|⟨rfl,rfl⟩|⟨rfl,rfl|rfl⟩
 ·show#[_,Xl.ins o T.dJ T.fY T.tG T.tK T.fZ,T.jb]
 ·show#[_,Xl.ins o T.eO T.gU T.tG T.tK T.gV,T.jw]
 ·show#[_,Xl.ins o T.fN T.iu T.tG T.tK T.iw,T.jN]
 ·show#[_,Xl.ins o T.fL T.iq T.tG T.tK T.ir,T.jM]
 ·show#[_,Xl.ins o T.gz T.io T.tG T.tK T.ip,T.jL]
 ·show#[_,Xl.ins o T.eM T.gS T.tG T.tK T.gT,T.jv]
def Wa.pts{T:Tx K mg}{k:lT}{C x:lU}{nm:lT}{H:Hp}(h:Wa T k C)(o:qo H C x nm):∃t,Xl K H (.ref x) t/\kitOne K t (.ref T.aI)=some (decide<|k ="points"):=by
 obtain⟨z,o⟩:=o;rcases h with⟨rfl,rfl⟩|⟨rfl,rfl⟩|⟨rfl,rfl⟩|⟨rfl,rfl⟩|⟨rfl,rfl|rfl⟩
 ·show#[_,Xl.ins o T.dJ T.fY T.tG T.tK T.fZ,T.jc]
 ·show#[_,Xl.ins o T.eO T.gU T.tG T.tK T.gV,T.jy]
 ·show#[_,Xl.ins o T.fN T.iu T.tG T.tK T.iw,T.jQ]
 ·show#[_,Xl.ins o T.fL T.iq T.tG T.tK T.ir,T.jP]
 ·show#[_,Xl.ins o T.gz T.io T.tG T.tK T.ip,T.jO]
 ·show#[_,Xl.ins o T.eM T.gS T.tG T.tK T.gT,T.jx]
def wx(ps:lS Zh)(kd:lT)(ss:lS lT):lS lT:=ss.filter λn=>decide<|((kd,n):Zh)∈ps
def ZC{ps:lS Zh}(h:(ps.map snd).Nodup){a b:Zh}(x:a∈ps)(u:b∈ps)(e:a.2=b.2):a=b:=by
 induction ps with
 | nil=>cases x
 | cons p r s =>
  rw[oh,pZ]at h;rcases nV.mp x with rfl|y
  ·rcases nV.mp u with rfl|z
   ·rfl
   ·show absurd (mZ.mpr #[b,z,e.symm]) h.1
  ·rcases nV.mp u with rfl|z
   ·show absurd (mZ.mpr #[a,y,e]) h.1
   ·show s h.2 y z
def XJ{ps:lS Zh}{kd n:lT}{ss:lS lT}{j:Nat}(h:ss[j]? =some n):wx ps kd (ss.take<|j+1)=wx ps kd (ss.take j)++if((kd,n):Zh)∈ps then[n]else[]:=by
 unfold wx;rw[ou,h,wn,show(some n).toList=[n]from rfl,rS]
 by_cases z:((kd,n):Zh)∈ps
 ·rw[mY (nZ z),mY z,AH]
 ·rw[mV (by simpa using z),mV z,AH]
def Fd(ps:lS Zh)(kd:lT)(ss:lS lT):(wx ps kd ss).length<=ss.length:=xx _ _
def Jh{T:Tx K mg}{M x l D:lU}{kd:lT}{ss:lS lT}{ps:lS Zh}{d:lS (Zh×Zh)}{c:lS (lT×lT×lT)}{r:Hp}{Q:VK}{z:St}{E:XK}
  (hk:∀{k:lT}{C y:lU}{nm:lT}{H:Hp},Wa T k C->qo H C y nm->∃t,Xl K H (.ref y) t/\kitOne K t (.ref M)=some (decide<|k=kd))
  (L:Z4 T r x ps d c) (a:Xe ps d c) (J:ss.Perm (ps.map snd)) (hl:r l=some (.lst<|ss.map V.str)) (I:r D=none)
  (q:∀s,mF r s->s D=some (.lst<|(wx ps kd ss).map V.str)->Q (.ref D) s) {fr:St->St} (A4:fr z=[none,some<|.ref x]) :
  rW (tV K l) fr (qX 0) (tB<|yN (yW K)<|tR (HW T.aW "named" (Fy T) [] E (ro 1) (tR (ro 0) vQ))<|tR (tC<|.ref M) vQ) (ro 0) Q z r D:=by
 obtain⟨u,o,n,j,g,e,Y,U,N,h1,_⟩:=L.ex;have hn:ss.length<=40:=by rw[J.length_eq,mO];show a.len
 refine Yy (xs:=ss.map V.str) (λi h s=>h=(wx ps kd<|ss.take i).map V.str/\s D=some (.lst h)/\mF r s) #[rfl,Zc,oU I] ?_ ?_ ?_
 ·rintro i h s _ ⟨_,_,p⟩;show mU<|p.at hl
 ·rintro j v h s G ⟨rfl,A0,p⟩;rw[nR]at G;obtain⟨n,B,rfl⟩:=nW.mp G;obtain⟨⟨k,A⟩,Y,rfl⟩:=mZ.mp<|J.mem_iff.mp<|pE B;unfold qu;rw[A4];refine#[oR rfl,p.at h1,rfl,x,A,k,ps,d,c,rfl,L.mono p,a,Y,λy C u U hC hO=>?_];obtain⟨t,ht,g⟩:=hk hC hO;have hd:decide (k=kd)=decide (((kd,A):Zh)∈ps):=by
   refine Ii.mpr #[λe=>e ▸ Y,λe=>?_];show oN fst<|ZC a.net.nd Y e rfl
  rw[hd]at g;refine#[ht,.inr #[_,rfl,g],?_];have A6:=U.at A0;rw[XJ B];refine Yf (λN=>?_) λN=>?_
  ·rw[mY (pD N)];refine#[A6,?_,?_,Zc,λb o e=>?_]
   ·rw[mO];have:=Fd ps kd<|ss.take j;rw[oy]at this;show Zp (by lia)
   ·rw[nw];rfl
   ·rw[Zd (Zf e I)];show U.at<|p.at e
  ·rw[mV (λu=>N<|nZ u),qj];show#[rfl,A6,p.trans U]
 ·rintro h o ⟨rfl,u,n⟩;rw[mO,pq]at u;show q o n u
def MU(h:PyProof.Rows.sortedS l=true)(f:lT->Bool):PyProof.Rows.sortedS (l.filter f)=true:=by
 refine PyProof.Rows.sortedS_of_pairwise _<|List.Pairwise.filter f ?_;cases l with
 | nil=>show .nil
 | cons x r=>show EC h
inductive HV(kd:lT):Sp
 | mk (x ps js sg):vs=[.ref x]->Z4 T H x ps js sg->Xe ps js sg->(∀gs:lS lT,(gs.Nodup/\PyProof.Rows.sortedS gs=true)->(∀n,n∈gs↔((kd,n):Zh)∈ps)->gs.length<=40->pK H (.lst<|gs.map V.str) Q)->HV kd vs H Q E
def Pq(h:ss.Perm (ps.map snd))(n:lT):n∈wx ps kd ss↔((kd,n):Zh)∈ps:=by
 unfold wx;rw[tY];show#[λz=>pD z.2,λz=>#[h.mem_iff.mpr<|mZ.mpr #[_,z,rfl],nZ z]]
def Qv:T.fE.O P w mg mG 3 (HV T "gate"):=by
 refine T.fE.F.okA ?_;rfl'
 ·obtain⟨x,o,i,g,rfl,u,z,q⟩:=h;intro X D;obtain⟨p,n,l,j,a,Y,U,N,M,e,_⟩:=u.ex;refine mS (Zl<|pH ["name","tracks"] (ph 1 [0] rfl) (Yl<|Yi (pv 0) T.ak T.dL (Nn T) hr.m T.bV.b .nil Z0) (oK 0) (uH<|Yo<|Yc (r:=yW K) Cf (by rfl) T.af rR<|Zb (Z5 (pv 1) T.ak T.cY (DX T) hr.m T.br.b .nil Z0<|Zb (pv 0) Za)<|Zb (X4 (v:=.ref T.bK) (by rfl) T.jf rfl) Za) (pv 0)) #[e,rfl,x,o,i,g,rfl,u,z,λd y c l N p M n=>#[mU n,λD j=>Jh Wa.gate (u.mono p) z y n j (λa Y U=>q _ ?_ (Pq y) ?_ D a (p.trans Y) (p.free j) U) rfl]]
  ·show#[(y.nodup_iff.mpr z.net.nd).filter _,MU c _]
  ·have:=Fd o "gate" d;rw[y.length_eq,mO]at this;show oo this z.len
def NX:T.eZ.O P w mg mG 3 (HV T "points"):=by
 refine T.eZ.F.okA ?_;rfl'
 ·obtain⟨x,o,i,g,rfl,u,z,q⟩:=h;intro X D;obtain⟨p,n,l,j,a,Y,U,N,M,e,_⟩:=u.ex;refine mS (Zl<|pH ["name","tracks"] (ph 1 [0] rfl) (Yl<|Yi (pv 0) T.ak T.dL (Nn T) hr.m T.bV.b .nil Z0) (oK 0) (uH<|Yo<|Yc (r:=yW K) Cf (by rfl) T.af rR<|Zb (Z5 (pv 1) T.ak T.cY (DX T) hr.m T.br.b .nil Z0<|Zb (pv 0) Za)<|Zb (X4 (v:=.ref T.aI) (by rfl) T.ix rfl) Za) (pv 0)) #[e,rfl,x,o,i,g,rfl,u,z,λd y c l N p M n=>#[mU n,λD j=>Jh Wa.pts (u.mono p) z y n j (λa Y U=>q _ ?_ (Pq y) ?_ D a (p.trans Y) (p.free j) U) rfl]]
  ·show#[(y.nodup_iff.mpr z.net.nd).filter _,MU c _]
  ·have:=Fd o "points" d;rw[y.length_eq,mO]at this;show oo this z.len
def Ra{z y x:Type}{F:z->y->Prop}{G:z->x->Prop}{g:y->x}{l:lS z}{m:lS y}(h:Paired F l m)(k:∀a b,F a b->G a (g b)):Paired G l (m.map g):=by
 induction h with
 | nil=>show .nil
 | cons r t u=>show .cons (k _ _ r) u
def OL{z y:Type}{f:z->y}(u:∀a b,f a=f b->a=b){l:lS z}(h:l.Nodup):(l.map f).Nodup:=List.pairwise_map.mpr<|h.imp λx e=>x<|u _ _ e
def Dx(l:lS (lT×lT)):lS (nj×V):=l.map λp=>(Xa p.1,V.str p.2)
inductive IE:Sp
 | mk (x ps js sg):vs=[.ref x]->Z4 T H x ps js sg->Xe ps js sg->(∀gs:lS lT,(gs.Nodup/\PyProof.Rows.sortedS gs=true)->(∀n,n∈gs↔(("points",n):Zh)∈ps)->gs.length<=40->pK H (.dK<|Dx<|gs.map λn=>(n,"left")) Q)->IE vs H Q E
def WU:T.dC.O P w mg mG 4 (IE T):=by
 refine T.dC.F.okA ?_;rfl'
 ·obtain⟨x,C,B,sg,rfl,tr,yv,q⟩:=h;intro X D;refine mS (Zl<|Y5 (r:=BZ) (Ee rfl) (by rfl) T.eW xP<|Zb (pH ["points"] (ph 1 [] rfl) (Yl<|Zv (NX T) hr<|Zb (pv 0) Za) (oK 0) X5 (Zi<|Zb (pv 0)<|Zb Zg Za)) Za) #[x,C,B,sg,rfl,tr,yv,λY N hm hn l z M y L=>#[mU L,λD J=>Yy (xs:=Y.map V.str) (λi g c=>(∃u:lS lU,g=u.map V.ref/\Paired (Zr c) u ((Y.take i).map λn=>(n,"left")))/\c D=some (.lst g)/\mF z c) #[#[[],rfl,.nil],Zc,oU J] ?_ ?_ ?_]]
  ·rintro i g c _ ⟨_,_,U⟩;show mU<|U.at L
  ·rintro j v g c d ⟨⟨u,rfl,a⟩,I,U⟩;rw[nR]at d;obtain⟨n,hy,rfl⟩:=nW.mp d;have hl:=nJ a;rw[mO,oy]at hl;unfold qu;refine#[oR rfl,mQ,λt G l z e2=>#[l.at I,?_,#[u++[t],?_,?_],Zc,λb o e=>?_]]
   ·rw[mO];show Zp (by lia)
   ·rw[nw];rfl
   ·rw[ou,hy,nw];have off:∀{b:lU}{p:Zh},Zr G b p->Zr (mM G D<|.lst<|u.map V.ref++[V.ref t]) b p:=λ{b p} z=>by
     unfold Zr at z ⊢;rw[Zd λy=>by rw[y,l.at I]at z;cases z];show z
    show pj (nO a λ_ _ r=>off<|r.mono l)<|.cons (off e2) .nil
   ·rw[Zd (Zf e J)];show l.at<|U.at e
  ·rintro g e ⟨⟨u,rfl,a⟩,y,z⟩;rw[mO,pq]at a;refine#[D,u,Dx<|Y.map λn=>(n,"left"),rfl,y,?_,?_,λd p o l j=>q Y N hm hn d p (M.trans<|z.trans o) (M.free<|z.free l) j]
   ·unfold Dx;show Ra a λ_ _ r=>r
   ·unfold Dx;rw[oO,oO];show OL wl N.1
inductive Hi(kd:lT):Sp
 | mk (x g ps js sg):vs=[.ref x,.str g]->Z4 T H x ps js sg->Xe ps js sg->((kd,g):Zh)∈ps->(∀H',mF H H'->Q .non H')->Hi kd vs H Q E
def Mc:T.aN.O P w mg mG 4 (Hi T "gate"):=by
 refine T.aN.F.okW MR ?_;rfl'
 ·obtain⟨x,g,z,y,u,rfl,r,p,o,q⟩:=h;intro X D;refine mS (Zu (rK hr (pv 1)<|Zv (Qv T) hr<|Zb (pv 0) Za) Zo Zj) #[x,z,y,u,rfl,r,p,λd c n a l j i Y e=>.inl #[.inl<|mU e,rfl,Wb _,?_]];rw[mY rfl,vM,nZ<|(n g).mpr o];show(q j i)
inductive Nk:Sp
 | mk (n:Nat):vs=[.int (n:Int)]->1<=n->n<=4->Q .non H->Nk  vs H Q E
def KG:T.aE.O P w mg mG 1 Nk:=by
 refine T.aE.F.okW ND ?_;rfl'
 ·obtain⟨n,rfl,y,x,q⟩:=h;intro X D;refine mS (Zu (pN<|qp (Y9<|Yo<|rf "int" T.af T.fV wT<|pv 0)<|qp (Yo<|rf "bool" T.af T.fU Bf<|pv 0)<|rJ<|Y9<|zq uK uK Ze (pv 0)<|Wt (by rfl) T.bN) Zo Zj) #[Xl.int _,.inl<|pz rfl T.ke,#[Xl.int _,.inl<|pz rfl T.kf,?_]];dsimp only[oB];rw[mV oW];refine Yf (λ_=>?_) λz=>absurd (nZ (show(1:Int)<=n by lia)) z;refine Yf (λz=>?_) λ_=>q;have z:(!decide ((n:Int)<=4))=true:=z;rw[nZ (show(n:Int)<=4 by lia)]at z;cases z
def Ce(v:V)(S:lT->Prop):Prop:=tz v=true/\∀z:lS lT,(∀n∈z,S n)->uM v (z.map V.str)=false
def Ybx{S:lT->Prop}(h:¬S n):Ce (.str n) S:=#[rfl,λx y=>by rw[vM];show ow λz=>h<|y n z]
def PY(v:V):Prop:=(∃i:Int,v=.int i/\¬(1<=i/\i<=4))\/(∃b,v=.bl b)\/v=.non\/∃s,v=.str s
inductive Fv:Sp
 | mk (v d kvs):vs=[v,.ref d]->H d=some (.dK kvs)->(xq K H v false\/∃nm:lT,v=.str nm/\Xb nm/\(Y7 kvs<|Xa nm).isSome=true)->(∀H',mF H H'->E (.ref T.aw) none H')->Fv vs H Q E
def Zkm:Y6 P w K mg mG (nX P w) 2 T.aM.f T.aM.fd ["name","known"] (Fv T):=by
 refine T.aM.F.okX Kc ?_;rfl'
 ·obtain⟨v,d,x,rfl,hd,u,q⟩:=h;intro X D;rcases u with r|⟨nm,rfl,p,o⟩
  ·show mP (Zu (Y9<|Yo<|Zv (wK T) hr<|Zb (pv 0) Za) Zo Zj) #[_,false,rfl,r,λy z=>((mS (Xr T.dR ri rfl<|Zb Zg Za) #[mQ,q y z]))]
  ·refine mP (Zu (Y9<|Yo<|Zv (wK T) hr<|Zb (pv 0) Za) Zo Zj) #[_,true,rfl,p.asked,λy z=>(?_)];refine mS (Zu (vq hr (pv 0)<|pv 1) Zo Zj)<|.inr<|.inl #[d,_,rfl,X0.k (k:=Xa nm)<|z.at hd,?_];rw[o];show(mS (Xr T.dR ri rfl<|Zb Zg Za) #[mQ,q y z])
def Zlp(h:2<=k:=by lk):Y6 P w K mg mG (nX P w) k T.aM.f T.aM.fd ["name","known"] (Fv T):=(Zkm T).mono h
inductive Go(kd:lT)(c:lU):Sp
 | mk (x v ps js sg):vs=[.ref x,v]->Z4 T H x ps js sg->Xe ps js sg->Ce v (λn=>((kd,n):Zh)∈ps)->(∀H',mF H H'->E (.ref c) none H')->Go kd c vs H Q E
def Zku:Y6 P w K mg mG (nX P w) 4 T.aN.f T.aN.fd ["tracks","gate"] (Go T "gate" T.bz):=by
 refine T.aN.F.okX MR ?_;rfl'
 ·obtain⟨x,v,u,r,p,rfl,o,j,y,q⟩:=h;intro X D;refine mS (Zu (rK hr (pv 1)<|Zv (Qv T) hr<|Zb (pv 0) Za) Zo Zj) #[x,u,r,p,rfl,o,j,λi n g c l e d a z=>.inl #[.inl<|mU z,y.1,Wb _,?_]];rw[mY rfl,y.2 i λn z=>(g n).mp z];show(mS (Xr T.ic ri rfl<|Zb Zg Za) #[mQ,q e d])
def UI(h:4<=k:=by lk):Y6 P w K mg mG (nX P w) k T.aN.f T.aN.fd ["tracks","gate"] (Go T "gate" T.bz):=(Zku T).mono h
inductive ER:Sp
 | mk (v):vs=[v]->PY v->E (.ref T.bv) none H->ER vs H Q E
def Zha:Y6 P w K mg mG (nX P w) 1 T.aE.f T.aE.fd ["long"] (ER T):=by
 refine T.aE.F.okX ND ?_;rfl'
 ·obtain⟨v,rfl,x,q⟩:=h;intro X D;rcases x with⟨i,rfl,u⟩|⟨b,rfl⟩|rfl|⟨t,rfl⟩
  ·refine mS (Zu (pN<|qp (Y9<|Yo<|rf "int" T.af T.fV wT<|pv 0)<|qp (Yo<|rf "bool" T.af T.fU Bf<|pv 0)<|rJ<|Y9<|zq uK uK Ze (pv 0)<|Wt (by rfl) T.bN) Zo Zj) #[Xl.int _,.inl<|pz rfl T.ke,#[Xl.int _,.inl<|pz rfl T.kf,(Yf (λy=>?_) λy=>?_)]];rotate_left
   ·show((mS (Xr T.di ri rfl<|Zb Zg Za) #[mQ,q]))
   have y:1<=i:=pD y;dsimp only[tC,vI,oI];rw[show decide (i<=4)=false from ow λz=>u #[y,z]];show(mS (Xr T.di ri rfl<|Zb Zg Za) #[mQ,q])
  ·show mS (Zu (pN<|qp (Y9<|Yo<|rf "int" T.af T.fV wT<|pv 0)<|qp (Yo<|rf "bool" T.af T.fU Bf<|pv 0)<|rJ<|Y9<|zq uK uK Ze (pv 0)<|Wt (by rfl) T.bN) Zo Zj) #[Xl.bl _,.inl<|pz rfl T.kh,#[Xl.bl _,.inl<|pz rfl T.ki,(mS (Xr T.di ri rfl<|Zb Zg Za) #[mQ,q])]]
  ·show mS (Zu (pN<|qp (Y9<|Yo<|rf "int" T.af T.fV wT<|pv 0)<|qp (Yo<|rf "bool" T.af T.fU Bf<|pv 0)<|rJ<|Y9<|zq uK uK Ze (pv 0)<|Wt (by rfl) T.bN) Zo Zj) #[Xl.non,.inl<|pz rfl T.kl,(mS (Xr T.di ri rfl<|Zb Zg Za) #[mQ,q])]
  ·show mS (Zu (pN<|qp (Y9<|Yo<|rf "int" T.af T.fV wT<|pv 0)<|qp (Yo<|rf "bool" T.af T.fU Bf<|pv 0)<|rJ<|Y9<|zq uK uK Ze (pv 0)<|Wt (by rfl) T.bN) Zo Zj) #[Xl.str _,.inl<|pz rfl T.kn,(mS (Xr T.di ri rfl<|Zb Zg Za) #[mQ,q])]
def Rc(h:1<=k:=by lk):Y6 P w K mg mG (nX P w) k T.aE.f T.aE.fd ["long"] (ER T):=(Zha T).mono h
def Fx(H:Hp)(t:lU)(part:lT)(q:lT×lT×lT):Prop:=H t=some (.tup [.str part,.str q.1,.str q.2.1,.str q.2.2])
def Bd(z:lS Bool)(len j:Nat):Prop:=j<z.length/\z.getD j true=false/\true∈z.drop (j+len)
abbrev Zs:=lT×(lT×lT×lT)
def Zz{z:Type}(f:z->V)(y:lS (lT×z)):lS (nj×V):=y.map λq=>(Sum.inr q.1,f q.2)
theorem vp{z:Type}{f:z->V}:∀{x:lS (lT×z)}{q:lT×z},(x.map fst).Nodup->q∈x->Y7 (Zz f x) (Sum.inr q.1)=some (f q.2)
 | [],_,_,h=>by simp at h
 | r ::x,q,u,h=>by
  rw[show Zz f (r ::x)=(Sum.inr r.1,f r.2) ::Zz f x from rfl];rw[oh,pZ]at u;rcases nV.mp h with e|e
  ·rw[e];show yV rfl
  ·rw[vU λy=>u.1 (by rw[wa y];show mZ.mpr #[q,e,rfl])];show vp u.2 e
theorem X1{z:Type}{f:z->V}:∀{u:lS (lT×z)}{x:lT},x∉u.map fst->Y7 (Zz f u) (Sum.inr x)=none
 | [],_,_=>rfl
 | r ::u,x,h=>by
  rw[show Zz f (r ::u)=(Sum.inr r.1,f r.2) ::Zz f u from rfl];rw[oh,nV,not_or]at h;rw[vU λy=>h.1 (wa y).symm];show X1 h.2
def Pz{z:Type}{f:z->V}{y:lS (lT×z)}{v:z}(h:x∉y.map fst):Wk (Zz f y) (Sum.inr x) (f v)=Zz f (y++[(x,v)]):=by
 rw[JC _ (X1 h)];simp[Zz]
def rA(H:Hp)(ts:lS lU)(ss:lS Zs):Prop:=Paired (λt (q:Zs)=>Fx H t q.1 q.2) ts ss
def Yj(H:Hp)(l:lU)(ss:lS Zs):Prop:=∃z,H l=some (.lst<|z.map V.ref)/\rA H z ss
def rA.mono(e:mF H z)(h:rA H ts ss):rA z ts ss:=nO h λ_ _ r=>e.at r
def Yj.mono(e:mF H z)(h:Yj H l ss):Yj z l ss:=let⟨y,x,u⟩:=h;#[y,e.at x,u.mono e]
def rA.off(h:rA H ts ss)(y:∀xs,H c≠some (.tup xs)):rA (mM H c o) ts ss :=
 nO h λt q r=>by
  unfold Fx at r ⊢;rw[Zd λz=>y _<|z ▸ r];show r
def Yj.off(h:Yj H l ss)(z:l≠c)(y:∀xs,H c≠some (.tup xs)):Yj (mM H c o) l ss:=by
 obtain⟨x,u,s⟩:=h;show#[x,by rw[Zd z];show u,s.off y]
def wA(q:Zs):Tr:=.tup [.str q.1,.str q.2.1,.str q.2.2.1,.str q.2.2.2]
def rA.im(h:rA H ts ss):Paired (Im K H 1) (ss.map wA) (ts.map V.ref):=by
 induction h with
 | nil=>show .nil
 | cons r _ z=>show .cons (vL (mW r)<|.cons (.str _)<|.cons (.str _)<|.cons (.str _)<|.cons (.str _) .nil) z
def Yj.im(h:Yj H l ss):Im K H 2 (.lst<|ss.map wA) (.ref l):=let⟨_,z,y⟩:=h;vK (mU z) y.im
def Yv(H:Hp)(d:lU)(z:lS (lT×lU))(val:lT->lS Zs):Prop:=H d=some (.dK<|Zz V.ref z)/\∀e∈z,Yj H e.2<|val e.1
def Yv.mono{val:lT->lS Zs}(e:mF H z)(h:Yv H d y val):Yv z d y val:=#[e.at h.1,λx u=>(h.2 x u).mono e]
def JM(e:mF H r)(h:X0 H a y o):X0 r a y o:=by
 rcases h with⟨z,k,x,u,s⟩|⟨z,k,b,x,u,s,q⟩
 ·show .inl #[z,k,e.rd x,u,s]
 ·show .inr #[z,k,b,e.rd x,u,e.at s,q]
def Sk(u:PI X y l a)(r:PI X y l b):PI X y l (λz H R=>a z H R\/b z H R):=λx s z H R I h=>h.elim (u x s z H R I)<|r x s z H R I
def xb(H:Hp)(l:lU)(ss:lS Zs):Prop:=∃z:lS lU,(H l=some (.lst<|z.map V.ref)\/H l=some (.tup<|z.map V.ref))/\rA H z ss
def xb.mono(e:mF H z)(h:xb H l ss):xb z l ss:=let⟨y,x,u⟩:=h;#[y,x.imp e.at e.at,u.mono e]
def Yj.seq(h:Yj H l ss):xb H l ss:=let⟨z,y,x⟩:=h;#[z,.inl y,x]
def JN{fr:St->St}(n:rA s ts ss)(Y:ss.length<=100)(l:s D=none)(q:∀r,mF s r->r D=some (.lst<|(ss.map fst).map V.str)->Q (.ref D) r)(h:fr z=[none])
  (C:∀Pv:Nat->lS V->Hp->Prop,Pv 0 [] (mM s D<|.lst [])->(∀i u H,Pv i u H->mF s H)->(∀i x u H,(ts.map V.ref)[i]? =some x->Pv i u H->qu fr (qX 0) zQ (qK (yt K) (ro 0)<|tC<|.int 0) z D x u H (Pv<|i+1))->(∀u H,Pv (ts.map V.ref).length u H->Q (.ref D) H)->rW J fr (qX 0) zQ (qK (yt K) (ro 0)<|tC<|.int 0) Q z s D):rW J fr (qX 0) zQ (qK (yt K) (ro 0)<|tC<|.int 0) Q z s D:=by
 refine C (λi u r=>u=((ss.map fst).map V.str).take i/\r D=some (.lst u)/\mF s r) #[rfl,Zc,oU l] (λ_ _ _ p=>p.2.2) ?_ ?_
 ·rintro k v u r p ⟨rfl,g,j⟩;rw[nR]at p;obtain⟨t,d,rfl⟩:=nW.mp p;obtain⟨y,c,a⟩:=oQ n d;unfold qu;rw[h];refine#[oR rfl,.inr<|.inl #[mW<|j.at a,rfl,g,?_,?_,Zc,λb o e=>?_]]
  ·rw[oy,mO,mO];show Zp (by lia)
  ·rw[ou,nR,nR,c];rfl
  ·rw[Zd (Zf e l)];show j.at e
 ·rintro u y ⟨rfl,p,o⟩;refine q y o ?_;rw[p,mO,nJ n,tF (by rw[mO,mO];show nH _)]
inductive IB:Sp
 | mk (l) (ss:lS Zs):vs=[.ref l]->xb H l ss->ss.length<=100->(∀p H',mF H H'->H p=none->H' p=some (.lst<|(ss.map fst).map V.str)->Q (.ref p) H')->IB  vs H Q E
def Pf:T.fG.O P w mg mG 1 IB:=by
 refine T.fG.F.okA ?_;rfl'
 ·obtain⟨l,z,rfl,y,j,q⟩:=h;intro X D;obtain⟨z,y,g⟩:=y;refine mS (Zl<|pH ["step"] (ph 1 [] rfl) (Sk (Yl<|pv 0)<|zW<|pv 0) (oK 0) X5 (Wx (K:=K) rfl (pv 0) Ze))<|y.imp (λe=>#[mU e,λD z=>JN g j z (λx u r=>q D x u z r) rfl λPv o n=>Yy Pv o λi l H _ p=>mU<|(n i l H p).at e]) λe=>#[mW e,λD z=>JN g j z (λx u r=>q D x u z r) rfl λPv o n=>Ea Pv o λi l H _ p=>mW<|(n i l H p).at e]
def EH(z:lS lT)(val:lT->lS Zs)(x r:lT):Prop:=(∃t∈z,x∈(val t).map fst/\r=t)\/((∀t∈z,x∉(val t).map fst)/\r ="")
inductive LO:Sp
 | mk (d x) (es:lS (lT×lU)) (val:lT->lS Zs):vs=[.ref d,.str x]->Yv H d es val->(es.map fst).Nodup->es.length<=100->(∀t,(val t).length<=100)->(∀r H',mF H H'->EH (es.map fst) val x r->Q (.str r) H')->LO  vs H Q E
def Mr:T.gW.O P w mg mG 2 LO:=by
 refine T.gW.F.okW HJ ?_;rfl'
 ·obtain⟨d,x,u,val,rfl,⟨hd,M⟩,y,r,B,q⟩:=h;intro X D;refine mP (Il<|Xh pG rfl (AK<|pv 0) (tL rfl<|Z3 (oq 2 HJ)<|Z3 (oq 3 HJ) Xz) Zo) #[hd,λo L=>Jv (λi z J=>(∃c a,z=[some (.ref d),some<|.str x,c,a])/\mF (mM H d<|.frz o<|.dK<|Zz V.ref u) J/\∀t∈(u.map fst).take i,x∉(val t).map fst) #[#[none,none,rfl],pO _,by simp] ?_ ?_ ?_]
  ·rintro i z J _ ⟨_,y,_⟩;show y.at Zc
  ·rintro i kv z H2 I ⟨⟨c,a,rfl⟩,l,g⟩ tp H3 G n3 e3;rw[show Zz V.ref u=u.map λq=>(Sum.inr q.1,V.ref q.2)from rfl,nR]at I;obtain⟨e,he,rfl⟩:=nW.mp I;have r:e∈u:=pE he;have Y:(u.map fst)[i]? =some e.1:=by rw[nR,he];rfl
   have U:e.2≠d:=λy=>by
    obtain⟨j,C,_⟩:=M e r;rw[y,hd]at C;cases C
   have N:Yj H3 e.2 (val e.1):=((M e r).off (o:=.frz o<|.dK<|Zz V.ref u) U λj y=>by rw[hd]at y;cases y).mono (l.trans G);refine#[mW e3,rfl,rfl,?_];refine mS (Zu (vq hr (pv 1)<|Zv (Pf T) hr<|Zb (pv 3) Za) Zo Zj) #[e.2,val e.1,rfl,N.seq,B e.1,λpf H4 s4 n4 j=>.inl #[.inl<|mU j,rfl,Wb _,?_]];have p:=l.trans<|G.trans s4;rw[mV oW,vM];refine Yf (λn=>?_) λn=>?_
   ·have n:x∈(val e.1).map fst:=pD n;show mS (Zl<|pv 2) #[d,o,_,p.at Zc,L,q e.1 _ (yK hd p)<|.inl #[e.1,mZ.mpr #[e,r,rfl],n,rfl]]
   ·have n:x∉(val e.1).map fst:=λy=>n<|nZ y
    refine#[#[_,_,rfl],p,λt j=>?_];rw[ou,Y,oA]at j;rcases j with y|y
    ·show g t y
    ·simp at y;rw[y];show n
  ·rintro z H2 ⟨⟨c,a,rfl⟩,l,g⟩;rw[show(Zz V.ref u).length=(u.map fst).length by rw[mO];show mO ..,pq]at g;show#[d,o,_,l.at Zc,L,mS (Zl Zg)<|q "" _ (yK hd l)<|.inr #[g,rfl]]
def Yv.read{val:lT->lS Zs}(h:Yv H d y val)(p:(y.map fst).Nodup)(u:mF (mM H d<|.frz o<|.dK<|Zz V.ref y) s)(he:e∈y):Yj s e.2 (val e.1)/\X0 s d (.str e.1) (some<|.ref e.2):=by
 obtain⟨hd,r⟩:=h;have x:e.2≠d:=λz=>by
  obtain⟨n,q,_⟩:=r e he;rw[z,hd]at q;cases q
 refine#[((r e he).off (o:=.frz o<|.dK<|Zz V.ref y) x λn z=>by rw[hd]at z;cases z).mono u,?_];rw[<-vp p he];show .inl #[_,Sum.inr e.1,.inr #[o,u.at Zc],rfl,rfl]
def ZY{z:lS (lT×lU)}{i:Nat}{kv:nj×V}(y:(Zz V.ref z)[i]? =some kv):∃e∈z,z[i]? =some e/\(z.map fst)[i]? =some e.1/\kv=(Sum.inr e.1,V.ref e.2):=by
 rw[show Zz V.ref z=z.map λq=>(Sum.inr q.1,V.ref q.2)from rfl,nR]at y;obtain⟨e,he,rfl⟩:=nW.mp y;show#[e,pE he,he,by rw[nR,he];rfl,rfl]
def QV{z:Type}{f:z->V}(y:lS (lT×z)):(Zz f y).length=(y.map fst).length:=by rw[mO];show mO ..
def ZO:T.aR.O P w mg mG 1 (wq T.aZ "part"):=by
 refine T.aR.F.okA ?_;rfl'
 ·obtain⟨e,t,v,rfl,he,q⟩:=h;intro X D;show mS (DS (pv 0) (pv 1) rfl) #[e,T.aZ,T.ay,t,rfl,he,T.dP.cls,T.dP.sa,T.dP.na,q]
def W8(h:1<=k:=by lk):T.aR.O P w mg mG k (wq T.aZ "part"):=(ZO T).mono h
def As(z:lT->Prop)(xs:lS lT)(i:Nat):Prop:=∀j y,j<i->xs[j]? =some y->y∉xs.take j/\¬z y
def Qj(z:lT->Prop)(xs:lS lT)(x:lT):Prop:=∃i,xs[i]? =some x/\(x∈xs.take i\/z x)/\As z xs i
def vE(z:lS lT)(val:lT->lS Zs)(x:lT):Prop:=∃t∈z,x∈(val t).map fst
inductive LD(C:lU):Sp
 | mk (d p) (es:lS (lT×lU)) (val:lT->lS Zs) (ss:lS Zs):vs=[.ref d,.ref p]->Yv H d es val->(es.map fst).Nodup->es.length<=100->(∀t,(val t).length<=100)->(∀t∈es.map fst,t≠ "")->xb H p ss->ss.length<=100->(∀H',mF H H'->As (vE (es.map fst) val) (ss.map fst) ss.length->Q .non H')->(∀dx H' x,mF H H'->H dx=none->Qj (vE (es.map fst) val) (ss.map fst) x->H' dx=some (.xd [("part",.str x)])->E (.ref C) (some dx) H')->LD C vs H Q E
def KM{u:lS lT}{val:lT->lS Zs}{x r:lT}(q:∀t∈u,t≠ "")(h:EH u val x r):(r≠ "")↔vE u val x:=by
 rcases h with⟨t,y,s,rfl⟩|⟨p,rfl⟩
 ·show#[λ_=>#[r,y,s],λ_=>q r y]
 ·show#[λz=>absurd rfl z,λ⟨t,y,s⟩=>absurd s<|p t y]
def ZF:Y6 P w K mg mG (nX P w) 3 T.bO.f T.bO.fd ["paths","steps"] (LD T.aZ):=by
 refine T.bO.F.okX Hx ?_;rfl'
 ·obtain⟨d,p,C,val,n,rfl,R1,hfd,T8,O4,w4,hp,K4,q,qE⟩:=h;intro X D;refine mP (nk 2 Hx<|Zn Za) #[mQ,λa x s1 n1 e1=>?_];refine mP (Xh PassesOwn.leaving rfl (Yl<|Zv (Pf T) hr<|Zb (pv 1) Za) (oq 3 Hx) Zo) #[p,n,rfl,hp.mono s1,K4,λpf r x n2 u=>#[mU u,Wr (xs:=(n.map fst).map V.str) (λi z c=>(∃o3,z=[some (.ref d),some<|.ref p,some<|.ref a,o3])/\mF H c/\c pf=some (.lst<|(n.map fst).map V.str)/\c a=some (.lst<|((n.map fst).take i).map V.str)/\As (vE (C.map fst) val) (n.map fst) i)
   #[#[none,rfl],s1.trans x,u,x.at e1,λj y h=>absurd h<|Cz _] ?_ ?_ ?_]]
  ·rintro i z c _ ⟨_,_,e,_⟩;show mU e
  ·rintro i v z U hi ⟨⟨o3,rfl⟩,Y,e3,l,N⟩;rw[nR]at hi;obtain⟨y,B,rfl⟩:=nW.mp hi;have D5:i<(n.map fst).length:=(pr.mp B).1;rw[mO]at D5;have npa:pf≠a:=λx=>by
    rw[x]at n2;rw[e1]at n2;cases n2
   let I17:IC:=λe c=>e=[some (.ref d),some<|.ref p,some<|.ref a,some<|.str y]/\mF U c/\y∉(n.map fst).take i/\¬vE (C.map fst) val y
   refine qh I17 ?_ ?_
   ·refine qf (Zu (pN<|qp (vq hr (pv 3)<|pv 2)<|rJ<|qU hr (Zv (Mr T) hr<|Zb (pv 0)<|Zb (pv 3) Za) Zg) Zo Zj)<|.inl #[.inl<|mU l,rfl,Wb _,?_];rw[mV oW,vM];have M:∀g,mF U g->(y∈(n.map fst).take i\/vE (C.map fst) val y)->∀L,g L=none->E (.ref T.aZ) (some L) (mM g L<|.xd [("part",.str y)]):=λg u o L hn=>qE L _ y ((Y.trans u).trans (oU hn)) ((Y.trans u).free hn) #[i,B,o,N] Zc
    refine Yf (λJ=>?_) λJ=>?_
    ·show mS (ye T.dP T.cF (W8 T) T.aR.b hr rfl T.ib<|Zb (pv 3) Za)<|pz rfl<|M U (pO _)<|.inl<|pD J
    ·have J:y∉(n.map fst).take i:=λx=>J<|nZ x
     refine#[d,y,C,val,rfl,R1.mono Y,hfd,T8,O4,λr g u hh=>.inl #[rfl,Yf (λo=>?_) λo=>?_]]
     ·have o:r≠ "":=λx=>by rw[x]at o;simp at o
      show mS (ye T.dP T.cF (W8 T) T.aR.b hr rfl T.ib<|Zb (pv 3) Za)<|pz rfl<|M g u<|.inr<|(KM w4 hh).mp o
     ·refine#[rfl,u,J,λx=>o ?_];have:=(KM w4 hh).mpr x;simp[this]
   rintro e g ⟨rfl,u,I,G⟩;refine mS (Z1<|rB (pv 2)<|pv 3) #[.inl #[rfl,_,mU<|u.at l],u.at l,?_,#[_,rfl],λb o x=>?_,?_,?_,?_]
   ·rw[mO,oy];show Zp (by lia)
   ·rw[Zd (Zf x n1)];show u.at<|Y.at x
   ·rw[Zd npa];show u.at e3
   ·rw[Zc,ou,B,nw]
    rfl
   ·intro j x o r;rcases yk j i with h|h
    ·show N j x h r
    ·have:j=i:=by lia
     subst this;rw[B]at r;cases r;show#[I,G]
  ·rintro z U ⟨_,Y,_,_,N⟩;rw[mO,mO]at N;show WSs.nil<|q U Y N
def qt(y:lS lT)(val:lT->lS Zs)(z:lT)(ss:lS Zs):lT->lS Zs:=open Classical in λt=>if t=z then(if z∈y then val z else[])++ss else val t
def Fj(z:lS lT)(y:lT):lS lT:=open Classical in if y∈z then z else z++[y]
def uR(y:lS (lT×lU))(z:lT)(l:lU):lS (lT×lU):=open Classical in if z∈y.map fst then y.map (λq=>if q.1=z then(z,l)else q)else y++[(z,l)]
def VQ(u:lS (lT×lU))(x:lT)(l:lU):(uR u x l).map fst=Fj (u.map fst) x:=by
 unfold uR Fj
 by_cases z:x∈u.map fst
 ·rw[mY z,mY z,oO];refine zy λq _=>?_
  by_cases y:q.1=x
  ·simp[y]
  ·simp[y]
 ·rw[mV z,mV z,nw]
  rfl
def Zy1(u:lS (lT×lU))(y:lT)(l:lU):Wk (Zz V.ref u) (Sum.inr y) (.ref l)=Zz V.ref (uR u y l):=by
 unfold uR
 by_cases z:y∈u.map fst
 ·rw[mY z];have x:((Zz V.ref u).any λkv=>decide<|kv.1=Sum.inr y)=true:=by
   obtain⟨q,s,rfl⟩:=mZ.mp z;show List.any_eq_true.mpr #[(Sum.inr q.1,V.ref q.2),mZ.mpr #[q,s,rfl],by simp]
  unfold Wk;rw[mY x];unfold Zz;rw[oO,oO];refine zy λq _=>?_
  by_cases h:q.1=y
  ·simp[h]
  ·have:¬(Sum.inr q.1:nj)=Sum.inr y:=λz=>h<|wa z
   simp[h,this]
 ·rw[mV z];show Pz z
def Np(h:e∈uR u x l):e=(x,l)\/(e∈u/\e.1≠x):=by
 unfold uR at h
 by_cases z:x∈u.map fst
 ·rw[mY z]at h;obtain⟨q,s,rfl⟩:=mZ.mp h
  by_cases y:q.1=x
  ·show .inl<|mY y
  ·rw[mV y];show .inr #[s,y]
 ·rw[mV z]at h;rcases oA.mp h with y|y
  ·show .inr #[y,λw=>z<|w ▸ mZ.mpr #[e,y,rfl]]
  ·show .inl<|pQ.mp y
def Ycb(h:(u.map fst).Nodup)(p:(u.map snd).Nodup)(s:l∉u.map snd):((uR u o l).map snd).Nodup:=by
 unfold uR
 by_cases z:o∈u.map fst
 ·rw[mY z];clear z
  induction u with
  | nil=>show tX
  | cons q u i =>
   rw[oh,pZ]at h p;rw[oh,nV,not_or]at s;rw[oh,oh,pZ];refine#[λg=>?_,i h.2 p.2 s.2];obtain⟨e,he,x⟩:=mZ.mp g;obtain⟨r,j,rfl⟩:=mZ.mp he
   by_cases y:q.1=o
   ·rw[mY y]at x;have n:r.1≠o:=λw=>h.1 (by rw[y,<-w];show mZ.mpr #[r,j,rfl])
    rw[mV n]at x;show s.2<|mZ.mpr #[r,j,x]
   ·rw[mV y]at x
    by_cases n:r.1=o
    ·rw[mY n]at x;show s.1 x
    ·rw[mV n]at x;show p.1<|mZ.mpr #[r,j,x]
 ·rw[mV z,nw,qG];show#[p,by simp,λa x b r=>by rw[List.map_singleton,pQ]at r;rw[r];intro y;rw[y]at x;show s x]
def Yv.put{val:lT->lS Zs}(h:Yv H d u val)(e:mF H r)(n:Yj r l ((if x∈u.map fst then val x else[])++ss)) :
  Yv (mM r d<|.dK<|Wk (Zz V.ref u) (Sum.inr x)<|.ref l) d (uR u x l) (qt (u.map fst) val x ss):=by
 have s:=e.at h.1;have off:∀{c:lU}{p:lS Zs},Yj r c p->Yj (mM r d<|.dK<|Wk (Zz V.ref u) (Sum.inr x)<|.ref l) c p:=λ{c p} z=>z.off (λy=>by obtain⟨_,o,_⟩:=z;rw[y,s]at o;cases o) λa y=>by rw[s]at y;cases y
 refine#[by rw[Zc,Zy1],λq j=>?_];rcases Np j with rfl|⟨i,g⟩
 ·have:qt (u.map fst) val x ss x=(if x∈u.map fst then val x else[])++ss:=by unfold qt;rw[mY rfl]
  change Yj _ l (qt (u.map fst) val x ss x);rw[this];show off n
 ·have:qt (u.map fst) val x ss q.1=val q.1:=by unfold qt;rw[mV g]
  rw[this];show off<|(h.2 q i).mono e
structure MM(H Hf:Hp)(D:Addr)(names:List Str)(val:Str->List Zs)(i:Nat)(ys:List V)(H':Hp):Prop where
 same:mF Hf H'
 at':H' D=some (.lst ys)
 all:∃(tps:List Addr)(i9:List (Str×Addr)),ys=tps.map V.ref/\i9.map fst=names.take i/\(i9.map snd).Nodup/\(∀e∈i9,H e.2=none/\e.2≠D/\Yj H' e.2 (val e.1))/\Paired (λt (q:nj×V)=>H' t=some (.tup [kV q.1,q.2])) tps (Zz V.ref i9)
inductive Mz(C:lU):Sp
 | mk (d p tr) (es:lS (lT×lU)) (val:lT->lS Zs) (ss:lS Zs):vs=[.ref d,.str tr,.ref p]->Yv H d es val->(es.map fst).Nodup->es.length<=100->(∀t,(val t).length<=100)->(∀t∈es.map fst,t≠ "")->xb H p ss->ss.length<=100->(∀d' H' i9,As (vE (es.map fst) val) (ss.map fst) ss.length->mF H H'->H d'=none->Yv H' d' i9 (qt (es.map fst) val tr ss)->i9.map fst=Fj (es.map fst) tr->(i9.map snd).Nodup->(∀e∈i9,H e.2=none)->Q (.ref d') H')->(∀dx H' x,mF H H'->H dx=none->Qj (vE (es.map fst) val) (ss.map fst) x->H' dx=some (.xd [("part",.str x)])->E (.ref C) (some dx) H')->Mz C vs H Q E
def Nz:Y6 P w K mg mG (nX P w) 4 T.cx.f T.cx.fd ["paths","train","steps"] (Mz T.aZ):=by
 refine T.cx.F.okX OO ?_;rfl'
 ·obtain⟨d,p,Y,C,val,ss,rfl,R1,hfd,T8,O4,w4,hp,K4,q,qE⟩:=h;intro X D;refine mP (Z1<|Xv (ZF T) hr.m rfl T.bO.m T.bO.F.kp T.bO.b .nil W3<|Zb (pv 0)<|Zb (pv 2) Za) #[d,p,C,val,ss,rfl,R1,hfd,T8,O4,w4,hp,K4,λH1 s1 hg=>?_,qE];have U:=R1.mono s1;refine mP (nk 3 OO<|Y5 (r:=BZ) (Ee rfl) (by rfl) T.eW xP<|Zb (FG<|pH ["name","path"] (ph 2 [] rfl) (AK<|pv 0) (AU (K:=K) (n:=2) rfl rfl<|Z3 (oK 0)<|Z3 (oK 1) Xz) X5 (Zi<|Zb (pv 0)<|Zb (Y5 (r:=Av K) CK (by rfl) T.fT zt<|Zb (pv 1) Za) Za)) Za) #[U.1,λo nf D hD=>EU (MM H1 (mM H1 d<|.frz o<|.dK<|Zz V.ref C) D (C.map fst) val) ?_ ?_ ?_ ?_]
  ·refine#[oU hD,Zc,[],[],rfl,rfl,tX,by simp,.nil]
  ·rintro i ys H' _ b;show b.same.at Zc
  ·rintro i kv ys H2 hi b tp H3 N n3 B;obtain⟨e,I,he,hfi,rfl⟩:=ZY hi;obtain⟨hpe,_⟩:=U.read hfd (b.same.trans N) I;obtain⟨ts,j8,A5⟩:=id hpe;obtain⟨tps,j,rfl,B5,hsd,u8,hpr⟩:=b.all;have M4:H1 D=none:=by
    by_cases z:D=d
    ·rw[z,Zc]at hD;cases hD
    ·rw[Zd z]at hD;show hD
   have D5:i<C.length:=(pr.mp he).1;have hel':j.length=i:=by
    have:=oN List.length B5;rw[mO,oy,mO]at this;lia
   have E1:tps.length=i:=by
    have:=nJ hpr;rw[show(Zz V.ref j).length=j.length from mO ..]at this;lia
   have a:∀{c:lU}{H':Hp},mF (mM H1 d<|.frz o<|.dK<|Zz V.ref C) H'->H' c=none->H1 c=none:=λ{c H'} sm z=>by
    have:=sm.free z
    by_cases y:c=d
    ·rw[y,Zc]at this;cases this
    ·rw[Zd y]at this;show this
   refine#[mW B,rfl,rfl,(oR rfl).trans (oR rfl),.inl<|mU j8,λl H4 x n4 e4=>#[mQ,λt H5 g n5 e5=>#[g.at<|x.at<|N.at b.at',?_,?_,Zc,tps++[t],j++[(e.1,l)],?_,?_,?_,?_,?_]]]
   ·rw[mO];show Zp (by lia)
   ·intro c u z;rw[Zd (Zf z hD)];show g.at<|x.at<|N.at<|b.same.at z
   ·rw[nw];rfl
   ·rw[nw,B5,ou,hfi];rfl
   ·rw[nw,qG];refine#[hsd,by simp,?_];rintro c hc c' J rfl;simp at J;obtain⟨M,G,hb⟩:=mZ.mp hc;obtain⟨_,h1,_⟩:=(u8 M G).2.2;rw[hb,J,N.free n4]at h1;cases h1
   ·have L:=N.trans<|x.trans g;have offD:∀{c:lU}{xs:lS Zs}{o':HO},c≠D->Yj H5 c xs->Yj (mM H5 D o') c xs:=λ{c xs o'} nc z=>z.off nc λws y=>by rw[L.at b.at']at y;cases y
    intro M G;rcases oA.mp G with z|z
    ·obtain⟨h0,J,h1⟩:=u8 M z;show#[h0,J,offD J<|h1.mono L]
    ·simp at z;subst z;have J:l≠D:=λy=>by
      have:=N.at b.at';rw[<-y,n4]at this;cases this
     show#[a b.same<|N.free n4,J,offD J #[ts,g.at e4,A5.mono<|x.trans g]]
   ·have L:=N.trans<|x.trans g;have J:∀{c:lU}{xs:lS V},H5 c=some (.tup xs)->c≠D:=λ{c xs} z y=>by
     rw[y,L.at b.at']at z;cases z
    rw[show Zz V.ref (j++[(e.1,l)])=Zz V.ref j++[(Sum.inr e.1,V.ref l)]from nw ..];refine pj (nO hpr λt q z=>?_)<|.cons ?_ .nil
    ·have z5:=L.at z;rw[Zd (J z5)];show z5
    ·rw[Zd (J e5)];show e5
  ·rintro ys H2 b;have hDd:D≠d:=λz=>by rw[z,Zc]at hD;cases hD
   obtain⟨tps,j,rfl,B5,hsd,u8,hpr⟩:=b.all;rw[QV,pq]at B5;have st:mF H1 (mM H2 d<|.dK<|Zz V.ref C):=yK U.1 b.same;have hfz:=b.same.at (show(mM H1 d<|.frz o<|.dK<|Zz V.ref C) d=some (.frz o<|.dK<|Zz V.ref C)from Zc);have L:(j.map fst).Nodup:=B5 ▸ hfd;have hel':j.length=C.length:=by
    have:=oN List.length B5;rw[mO,mO]at this;show this
   refine#[d,o,_,hfz,nf,D,tps,Zz V.ref j,rfl,by rw[Zd hDd];show b.at',nO hpr λt q z=>?_,?_,λd' H3 N n3 B=>?_]
   ·rw[Zd λy=>by rw[y,hfz]at z;cases z];show z
   ·have:(Zz V.ref j).map fst=(j.map fst).map Sum.inr:=by
     unfold Zz;rw[oO,oO]
     rfl
    rw[this];show Eh _ (λa b h z=>h<|wa z) L
   have v6:=st.trans N;have J:Yv H3 d' j val:=by
    refine#[B,λq hq=>?_];obtain⟨_,_,h1⟩:=u8 q hq;refine(h1.off (λy=>?_) λxs y=>?_).mono N
    ·obtain⟨_,h2,_⟩:=h1;rw[y,hfz]at h2;cases h2
    ·rw[hfz]at y;cases y
   obtain⟨us,j7,huv⟩:=hp.mono<|s1.trans v6;have F2:us.length=ss.length:=nJ huv;have hdn:H d'=none:=s1.free<|st.free n3;have fin:∀(l:lU)(H6:Hp),mF H3 H6->H3 l=none->Yj H6 l ((if Y∈j.map fst then val Y else[])++ss)->WSs (pb (nX P w) P w K mg mG ["paths","train","steps","told"] "longer" (Zk Bo) T.cx.f d6 A mD s H E) [((Y4 Bo).getD 3 (.Pass #[0,0,0,0]))] {nx:=λ_ H'=>Q .non H',rt:=Q} [some (.ref d),some<|.str Y,some<|.ref p,some<|.ref d'] (mM H6 d'<|.dK<|Wk (Zz V.ref j) (Sum.inr Y)<|.ref l):=by
    intro l H6 I n6 hl;have S2:=J.put I hl;rw[B5]at S2;refine mS (Zl<|pv 3)<|q d' _ (uR j Y l) hg ?_ hdn S2 ?_ ?_ ?_
    ·intro c u z;rw[Zd (Zf z hdn)];show I.at<|v6.at<|s1.at z
    ·rw[VQ,B5]
    ·refine Ycb L hsd λz=>?_
     obtain⟨M,G,rfl⟩:=mZ.mp z;obtain⟨_,h2,_⟩:=J.2 M G;rw[n6]at h2;cases h2
    ·intro M G;rcases Np G with rfl|⟨a,_⟩
     ·show s1.free<|v6.free n6
     ·show s1.free (u8 M a).1
   have sml:(Zz V.ref j).length<=1000:=by rw[show(Zz V.ref j).length=j.length from mO ..];lia
   by_cases T0:Y∈j.map fst
   ·obtain⟨M,G,hqe⟩:=mZ.mp T0;obtain⟨vs,K3,a⟩:=J.2 M G;rw[hqe]at a;have hvn:vs.length=(val Y).length:=nJ a;have hgt:X0 H3 d' (.str Y) (some<|.ref M.2):=by
     rw[<-hqe,<-vp L G];show X0.k (k:=Sum.inr M.1) B
    refine mP (ua (Xy hr) (pv 3) (pv 1) (Zq Wl (Bc (Xy hr) (pv 3) (pv 1) (Zn Za) #[rfl,rfl,rfl,rfl])<|Y5 (r:=Av K) CK (by rfl) T.fT zt<|Zb (pv 2) Za) rfl) #[d',rfl,.inl #[_,.inl B],mQ,λl0 H4 x n4 e4=>#[_,JM x hgt,j7.imp (λe=>mU<|x.at e) λe=>mW<|x.at e,λl1 H5 g n5 e5=>.inr<|.inr #[g.at<|x.at K3,e5,?_,λl2 H6 I n6 e6=>#[qR.k (k:=Sum.inr Y) (I.at<|g.at<|x.at B)<|Zp sml,fin l2 H6 (x.trans<|g.trans I) (x.free<|g.free n6) ?_]]]]
    ·rw[mO,mO];show sz (by have:=O4 Y;lia)
    ·rw[mY T0];refine#[vs++us,by rw[e6,nw],?_];show pj (a.mono<|x.trans<|g.trans I)<|huv.mono<|x.trans<|g.trans I
   ·have hgt:X0 H3 d' (.str Y) none:=by
     rw[<-X1 (f:=V.ref) T0];show X0.k (k:=Sum.inr Y) B
    refine mP (ua (Xy hr) (pv 3) (pv 1) (Zq Wl (Bc (Xy hr) (pv 3) (pv 1) (Zn Za) #[rfl,rfl,rfl,rfl])<|Y5 (r:=Av K) CK (by rfl) T.fT zt<|Zb (pv 2) Za) rfl) #[d',rfl,.inl #[_,.inl B],mQ,λl0 H4 x n4 e4=>#[_,JM x hgt,j7.imp (λe=>mU<|x.at e) λe=>mW<|x.at e,λl1 H5 g n5 e5=>.inr<|.inr #[g.at e4,e5,?_,λl2 H6 I n6 e6=>#[qR.k (k:=Sum.inr Y) (I.at<|g.at<|x.at B)<|Zp sml,fin l2 H6 (x.trans<|g.trans I) (x.free<|g.free n6) ?_]]]]
    ·rw[mO];show sz (by simp;lia)
    ·rw[mV T0];show#[us,by rw[e6];simp,huv.mono<|x.trans<|g.trans I]
structure Gd where
 lies:List (Str×Str)
 stiff:List (Str×Bool)
 val:Str->List Zs
 told:List (Str×Bool)
structure xB(H:Hp)(dl ds dp dt:Addr)(es:List (Str×Addr))(g:Gd):Prop where
 lies:H dl=some (.dK<|Zz V.str g.lies)
 stiff:H ds=some (.dK<|Zz V.bl g.stiff)
 paths:Yv H dp es g.val
 told:H dt=some (.dK<|Zz V.bl g.told)
def xB.mono(e:mF H z)(h:xB H dl ds y x u g):xB z dl ds y x u g:=#[e.at h.lies,e.at h.stiff,h.paths.mono e,e.at h.told]
def Fg{z:Type}{f:z->V}(s:lS (lT×z))(x:lT):Y7 (Zz f s) (Sum.inr x)=(s.lookup x).map f:=by
 induction s with
 | nil=>rfl
 | cons r s q =>
  rw[show Zz f (r ::s)=(Sum.inr r.1,f r.2) ::Zz f s from rfl]
  by_cases y:r.1=x
  ·subst y;rw[yV rfl,rO,Ae]
   rfl
  ·rw[vU λu=>y<|wa u,q,rO];have:(x ==r.1)=false:=by rw[su];show λu=>y u.symm
   rw[this]
def OH(H:Hp)(x dl ds z y:lU):Prop:=∃u,H x=some (.ins T.cP u [("lie_of",.ref dl),("stiff_ones",.ref ds),("path_of",.ref z),("told",.ref y)])
inductive En(K:lY):Sp
 | mk (x C dx u1 u2 u3 u4):vs=[.ref x,u1,u2,u3,u4]->H x=some (.ins C dx [])->pR K C->mX K C "lie_of"->mX K C "stiff_ones"->mX K C "path_of"->mX K C "told"->Q .non (mM H x<|.ins C dx [("lie_of",u1),("stiff_ones",u2),("path_of",u3),("told",u4)])->En K vs H Q E
def Zgs:T.bR.O P w mg mG 1 (En K):=by
 refine T.bR.F.okA ?_;rfl'
 ·obtain⟨x,C,p,o,n,l,j,rfl,z,c,y,u,r,q,k⟩:=h;intro X D;refine mP (Wo (pv 0) (pv 1) rfl) #[z,c,y,by simp,?_];refine mP (Wo (pv 0) (pv 2) rfl) #[Zc,c,u,by change 1<1000;decide,?_];refine mP (Wo (pv 0) (pv 3) rfl) #[Zc,c,r,by change 2<1000;decide,?_];refine mS (Wo (pv 0) (pv 4) rfl) #[Zc,c,q,by change 3<1000;decide,?_];rw[Hq,Hq,Hq];show k
def KQ:lS V->Hp->VK->Prop:=λr H Q=>∃dl y u s,r=[.ref dl,.ref y,.ref u,.ref s]/\∀x z,mF H z->H x=none->OH T z x dl y u s->Q (.ref x) z
def RX:∀vs H Q,KQ T vs H Q->
  ∀x z,H x=none->H z=none->z≠x->En K (.ref x ::(vs++[])) (mM (mM H z<|.own x) x<|.ins T.cP z []) (λv s=>v=.non/\Q (.ref x) s) E0:=by
 rintro vs H Q ⟨dl,p,o,n,rfl,h⟩ x z y r l;refine#[x,T.cP,z,_,_,_,_,rfl,Zc,T.dM,T.dN,T.cZ,T.dE,T.eP,rfl,h x _ (λb o e=>?_) y #[z,Zc]];have u:b≠x:=Zf e y;have q:b≠z:=Zf e r;rw[Zd u,Zd u,Zd q];show e
def Ak(H:Hp)(v:V)(a:lX (lT×lT)):Prop:=match a with|none=>v=.non|some z=>∃p,v=.ref p/\H p=some (.tup [.str z.1,.str z.2])
def uz(P:mh)(w:md)(K:lY)(mg:lT->lX lV)(mG:ma)(k:Nat)(H:Hp)(f x:lU)(a:lX (lT×lT)):Prop :=
 ∀z,mF H z->vV z f/\∀Q:VK,(∀v y,mF z y->Ak y v a->Q v y)->Iv P w K mg mG k f z [.ref x] Q
def uz.up(h:uz P w K mg mG k H f x a)(l:k<=j):uz P w K mg mG j H f x a:=λz y=>#[(h z y).1,λQ q A u s r p=>(h z y).2 Q q A u s r (p.mono l)]
def Yv.soft{val:lT->lS Zs}(z:∀b o,H b=some o->Ca o->y b=some o)(h:Yv H d x val):Yv y d x val :=
 #[z _ _ h.1 trivial,λe he=>let⟨u,s,q⟩:=h.2 e he;#[u,z _ _ s trivial,nO q λ_ _ r=>z _ _ r trivial]]
def xB.soft(z:∀b o,H b=some o->Ca o->y b=some o)(h:xB H dl ds x u s g):xB y dl ds x u s g :=
 #[z _ _ h.lies trivial,z _ _ h.stiff trivial,h.paths.soft z,z _ _ h.told trivial]
structure sK(T:Tx K mg)(H:Hp)(gr:Addr)(es:List (Str×Addr))(g:Gd)(dl ds dp dt:Addr):Prop where
 at_:OH T H gr dl ds dp dt
 four:xB H dl ds dp dt es g
 vl:∀t,(g.val t).length<=100
 st:∀q∈g.stiff,q.2=true
 fd:(es.map fst).Nodup
 el:es.length<=100
 ne:∀e∈es,e.1≠ ""
def sK.mono(e:mF H z)(h:sK U H y x g dl ds u s):sK U z y x g dl ds u s:=#[h.at_.imp λ_ q=>e.at q,h.four.mono e,h.vl,h.st,h.fd,h.el,h.ne]
def sK.soft(z:∀b o,H b=some o->Ca o->y b=some o)(h:sK U H x u g dl ds s r):sK U y x u g dl ds s r:=#[h.at_.imp λ_ q=>z _ _ q trivial,h.four.soft z,h.vl,h.st,h.fd,h.el,h.ne]
open Classical in
def tZ(z:lS lT)(g:Gd)(x:lT):lX (lT×lT):=if ∃t∈z,x∈(g.val t).map fst then some (("held":lT),x)else none
def Wm(g:Gd)(x:lT):lX (lT×lT):=if(g.told.lookup x).getD false=true then some (("taken":lT),x)else none
def xW(H:Hp)(f:lU)(x:lT):Prop:=∃c,Clo H T.cj f (("rule_held":lT)++".<locals>."++"<lambda>") (AR<|oZ Xw) (Ar<|oZ Xw) (vB<|oZ Xw) [("part",c)]/\CellAt H c (.str x)
def xN(H:Hp)(f:lU)(x:lT):Prop:=∃c,Clo H T.bA f (("rule_taken":lT)++".<locals>."++"<lambda>") (AR<|oZ Xm) (Ar<|oZ Xm) (vB<|oZ Xm) [("part",c)]/\CellAt H c (.str x)
def xW.mono(e:mF H z)(h:xW U H f x):xW U z f x:=let⟨c,y,u⟩:=h;#[c,y.mono e,u.mono e]
def xN.mono(e:mF H z)(h:xN U H f x):xN U z f x:=let⟨c,y,u⟩:=h;#[c,y.mono e,u.mono e]
inductive CC(R:Hp->lU->lT->Prop):Sp
 | mk (x):vs=[.str x]->qD T H->(∀f H',mF H H'->H f=none->R H' f x->Q (.ref f) H')->CC R vs H Q E
def Fi:T.dF.O P w mg mG 1 (CC T<|xW T):=by
 refine T.dF.F.okM T.eR Zp9 (λz H Q E h=>?_) λy A u s H z Q E r h=>?_
 ·obtain⟨x,rfl,_⟩:=h
  rfl
 ·obtain⟨x,rfl,y,q⟩:=h;show ux.last #[rfl,y.rule_held,_,rfl,λu s r p o n=>q u s r p #[_,o,(n 0 "part" (.str x) _ rfl rfl rfl rfl).2]]
def EX:T.dm.O P w mg mG 1 (CC T<|xN T):=by
 refine T.dm.F.okM T.ej Um (λz H Q E h=>?_) λy A u s H z Q E r h=>?_
 ·obtain⟨x,rfl,_⟩:=h
  rfl
 ·obtain⟨x,rfl,y,q⟩:=h;show ux.last #[rfl,y.rule_taken,_,rfl,λu s r p o n=>q u s r p #[_,o,(n 0 "part" (.str x) _ rfl rfl rfl rfl).2]]
def Jd{u:lS lT}{g:Gd}{x r:lT}(q:∀t∈u,t≠ "")(p:EH u g.val x r):(r≠ "")↔∃t∈u,x∈(g.val t).map fst:=by
 rcases p with⟨t,y,s,rfl⟩|⟨o,rfl⟩
 ·show#[λ_=>#[_,y,s],λ_=>q _ y]
 ·show#[λz=>absurd rfl z,λ⟨t,y,s⟩=>absurd s<|o t y]
def Gg{H:Hp}{f Y dl ds U D:lU}{x:lT}{j:lS (lT×lU)}{g:Gd}(R:xW T H f x)(G:sK T H Y j g dl ds U D):uz P w K mg mG 4 H f Y (tZ (j.map fst) g x):=by
 intro C N;obtain⟨c,M,B⟩:=R.mono N;have L:tM C (vB<|oZ Xw) [("part",c)] ["part"] [.str x]:=#[.cons #[rfl,c,rfl,B] .nil,by simp,by simp,by simp]
 refine#[M.fn,λQ q=>?_];refine Cp (g :="ground") M L (λ_ _ _ _=>rfl) rfl (by lk) (by left) (by left) rfl rfl rfl λd6 A mD s J=>?_
 have u:=(G.mono N).soft λb o e n=>L.soft e n
 obtain⟨z,hg⟩:=u.at_;refine rc (W5 (qU J (Zv (Mr T) J<|Zb (Z2 (pv 0) rfl)<|Zb (pv 1) Za) Zg) (Zi<|Zb Zg<|Zb (pv 1) Za) rV) #[hg,T.dM,T.dE,rfl,U,x,j,g.val,rfl,u.four.paths,u.fd,u.el,u.vl,λr z I l=>.inl #[rfl,Yf (λy=>?_) λy=>?_]]
 ·have y:r≠ "":=by simpa using y
  have i:=(Jd (λt h=>by obtain⟨e,he,rfl⟩:=mZ.mp h;show G.ne e he) l).mp y;refine#[mQ,λp H3 z n3 Q=>#[I.trans z,λd E a=>q _ d a ?_]];unfold tZ;rw[mY i];show#[p,rfl,E.at Q]
 ·have y:¬r≠ "":=by simpa using y
  have i:=λz=>y<|(Jd (λt h=>by obtain⟨e,he,rfl⟩:=mZ.mp h;show G.ne e he) l).mpr z
  refine#[I,λd E a=>q _ d a ?_];unfold tZ;rw[mV i];show rfl
def FV(R:xN T H f x)(G:sK T H h J g dl ds I d):uz P w K mg mG 4 H f h (Wm g x):=by
 intro a l;obtain⟨c,j,Y⟩:=R.mono l;have L:tM a (vB<|oZ Xm) [("part",c)] ["part"] [.str x]:=#[.cons #[rfl,c,rfl,Y] .nil,by simp,by simp,by simp]
 refine#[j.fn,λQ q=>?_];refine Cp (g :="ground") j L (λ_ _ _ _=>rfl) rfl (by lk) (by left) (by left) rfl rfl rfl λE A D s U=>?_
 have z:=(G.mono l).soft λb o e n=>L.soft e n
 obtain⟨p,N⟩:=z.at_;refine rc (W5 (Yo<|Bc (Xy U) (Z2 (pv 0) rfl) (pv 1) qM #[rfl,rfl,rfl,rfl]) (Zi<|Zb Zg<|Zb (pv 1) Za) rV) #[N,T.dM,T.eP,rfl,d,rfl,.inl #[_,.inl z.four.told],_,X0.k (k:=Sum.inr x) z.four.told,?_];rw[Fg];have e:(Option.map V.bl<|g.told.lookup x).getD (V.bl false)=V.bl ((g.told.lookup x).getD false):=by cases g.told.lookup x<;>rfl
 rw[e];refine(Yf (λy=>?_) λy=>?_)
 ·refine#[mQ,λp C Q B M=>#[Q,λu i r=>q _ u r ?_]];unfold Wm;rw[mY y];show#[p,rfl,i.at M]
 ·refine#[pO _,λu i r=>q _ u r ?_];unfold Wm;rw[mV y];show rfl
def uE:lS (lX<|lT×lT)->lX (lT×lT)
 | []=>none
 | some z ::_=>some z
 | none ::r=>uE r
theorem GW:∀{l:lS (lX<|lT×lT)},(∀a∈l,a=none)->uE l=none
 | [],_=>rfl
 | a ::r,h=>by
  have:a=none:=h a<|oM ..;subst this;show GW (l:=r) λb z=>h b<|pe _ z
theorem Ot:∀{l:lS (lX<|lT×lT)}{i:Nat}{z:lT×lT},l[i]? =some (some z)->(∀a∈l.take i,a=none)->uE l=some z
 | [],_,_,h,_=>by simp at h
 | a ::r,0,z,h,_=>by
  have:a=some z:=by simpa using h
  subst this
  rfl
 | a ::r,i+1,z,h,n=>by
  have:a=none:=n a (by simp);subst this;show Ot (l:=r) (i:=i) (by simpa using h) λb y=>n b (by rw[KF];show pe _ y)
inductive Ms(P:mh)(w:md)(K:lY)(mg:lT->lX lV)(mG:ma):Sp
 | mk (l gr) (fs:lS lU) (ans):vs=[.ref l,.ref gr]->SqL K H l (fs.map V.ref)->Paired (λf a=>uz P w K mg mG 5 H f gr a) fs ans->(∀v H',mF H H'->Ak H' v (uE ans)->Q v H')->Ms P w K mg mG vs H Q E
def Fo:T.gx.O P w mg mG 6 (Ms P w K mg mG):=by
 refine T.gx.F.okW FL ?_;rfl'
 ·obtain⟨l,G,fs,ans,rfl,d,c,q⟩:=h;intro X D;have C:fs.length=ans.length:=nJ c;let r:IF:=λi z Y=>(∃o n,z=[some (.ref l),some<|.ref G,o,n])/\mF H Y/\∀a∈ans.take i,a=none
  refine mP (Xh pG rfl (Yl<|pv 0) (oq 2 FL) Zo) #[d,Wr (xs:=fs.map V.ref) r #[#[none,none,rfl],pO _,by simp] ?_ ?_ ?_]
  ·rintro i z Y _ ⟨_,y,_⟩;show y.seq d
  ·rintro i v z U N ⟨⟨o,n,rfl⟩,x,u⟩;rw[nR]at N;obtain⟨f,B,rfl⟩:=nW.mp N;obtain⟨a,M,an⟩:=oQ c B;obtain⟨L,run⟩:=an U x;refine mP (nk 3 FL<|MQ (k:=5) hr (pv 2)<|Zb (pv 1) Za) #[f,rfl,L,L,run _ λv H2 J j=>?_];refine mS (Zu (Ye NW (pv 3) rV<|Yq _) Zo Zj) #[rfl,Yf (λg=>?_) λg=>?_]
   ·refine mS (Zl<|pv 3)<|q v H2 (x.trans J) ?_;cases a with
    | none=>cases(show v=.non from j);simp at g
    | some y=>rw[Ot M u];show j
   ·refine#[#[_,_,rfl],x.trans J,λb I=>?_];rw[ou,M,oA]at I;rcases I with y|y
    ·show u b y
    ·simp at y;rw[y];cases a with
     | none=>rfl
     | some y=>obtain⟨p,e,_⟩:=j;subst e;simp at g
  ·rintro z U ⟨⟨o,n,rfl⟩,x,u⟩;rw[mO,C,pq]at u;show mS (Zl rV) (q _ _ x<|by rw[GW u];rfl)
def sR:lS lT:=["","a","b","c","d","stem","left","right"]
def uO(ns:lS lT)(q:S4):Prop:=q.1∈ns/\q.2.1∈sR/\q.2.2.1∈sR/\q.2.2.2∈sR
def Uc:∀k∈qk,∀z∈Yr k,∀y∈wb k,z∈sR/\wk k z y∈sR/\y∈sR:=by left
def PK(k:lT):(wb k).length<=2:=by unfold wb;split<;>decide
inductive pc(ns:List Str)(H:Hp):List Addr->List S4->Prop
 | mk (h:Paired (pF H) us qs) (o:∀q∈qs,uO ns q):pc ns H us qs
def pc.mono(e:mF H z)(h:pc ns H us qs):pc ns z us qs:=let⟨h,o⟩:=h;#[nO h λ_ _ r=>r.mono e,o]
def pc.nil:pc ns H [] []:=#[.nil,(λ_ z=>nomatch z)]
def pc.len(h:pc ns H us qs):us.length=qs.length:=let⟨h,_⟩:=h;nJ h
def pc.snoc(h:pc ns H us qs)(r:pF H u q)(o:uO ns q):pc ns H (us++[u]) (qs++[q]):=by
 obtain⟨h,k⟩:=h;refine#[pj h<|.cons r .nil,λp y=>?_];rcases oA.mp y with z|z
 ·show k p z
 ·rw[pQ.mp z];show o
def pc.get(h:pc ns H us qs){i:Nat}{u:lU}(e:us[i]? =some u):∃q,qs[i]? =some q/\pF H u q/\uO ns q:=by
 obtain⟨h,k⟩:=h;obtain⟨q,z,r⟩:=oQ h e;show#[q,z,r,k q<|pE z]
def pc.off{xs:lS V}(h:pc ns H us qs)(y:H c=some (.lst xs)):pc ns (mM H c o) us qs:=by
 obtain⟨h,k⟩:=h;show#[nO h λt q (r:H t=_)=>show mM H c o t=_ from(Zd λz=>by rw[z,y]at r;cases r).trans r,k]
def CU(ns:lS lT)(H:Hp)(l:lU)(n:Nat):Prop:=∃z y,H l=some (.lst<|z.map V.ref)/\pc ns H z y/\y.length<=n
def CU.none{n:Nat}(h:H l=some (.lst [])):CU ns H l n:=#[[],[],h,.nil,pJ _]
inductive Ke:Sp
 | mk (x t) (e:Zh) (ps js sg):vs=[.ref x,.ref t]->Z4 T H x ps js sg->Xe ps js sg->Zr H t e->(∀l H',mF H H'->H l=none->CU (ps.map snd) H' l 2->Q (.ref l) H')->Ke vs H Q E
def Zx0{ps:lS Zh}{e:Zh}(h:e∈Yu ps):∃k,((k,e.1):Zh)∈ps/\e.2∈Yr k:=by
 obtain⟨p,z,y⟩:=ui.mp h;obtain⟨x,u,rfl⟩:=mZ.mp y;show#[p.1,z,u]
def yg{z:Hp}{u:lU}{e:Zh}(h:Zr z u e):Im K z 1 (oS e) (.ref u):=vL (n:=0) (mW h)<|.cons (.str _)<|.cons (.str _) .nil
def Zn4:T.ez.O P w mg mG 4 (Ke T):=by
 refine T.ez.F.okW W4 ?_;rfl'
 ·obtain⟨x,t,⟨nm,Y⟩,U,js,sg,rfl,tr,yv,ht,q⟩:=h;intro X D;obtain⟨y,_,_,_,_,_,_,_,_,h1,_⟩:=tr.ex;have imN:∀e:Hp,Im K e 1 (oS ("","")) (.ref T.dQ):=λe=>vL (n:=0) (T.iR e)<|.cons (.str _)<|.cons (.str _) .nil
  by_cases hm:((nm,Y):Zh)∈Yu U
  ·obtain⟨k,hk,S9⟩:=Zx0 hm;have Q5:=yv.net.kind _ hk;refine mP (Zu (W0 hr (Z5 (pv 0) T.ak T.cS (EN T) hr.m T.bg.b .nil Z0<|Zb (pv 1) Za)<|X4 (v:=.ref T.dQ) (by rfl) T.ii rfl) Zo Zj) #[h1,rfl,x,t,(nm,Y),U,js,sg,rfl,tr,yv,ht,.inl #[hm,λt' u g p=>.inr<|.inl #[1,oS u,oS ("",""),by lk,.inl #[_,_,rfl,rfl],yg p,imN _,Yf (λz=>?_) λ_=>?_]]]
   ·show mS (Zl<|Zn Za) #[mQ,λl H2 N n2 e2=>q l H2 N n2<|.none e2]
   refine mP (nk 2 W4<|nq (pv 1) Ze)<|.inr<|.inl #[mW ht,Zm (j:=0) rfl,?_];refine mP (nk 3 W4<|nq (pv 1) Ze)<|.inr<|.inl #[mW ht,Zm (j:=1) rfl,?_];refine mP (nk 4 W4<|Z5 (pv 0) T.ak T.cY (DX T) hr.m T.br.b .nil Z0<|Zb (pv 2) Za) #[h1,rfl,x,nm,k,U,js,sg,rfl,tr,yv,hk,λy C H1 s1 hC hO=>?_];obtain⟨dy,hy⟩:=id hO;obtain⟨u,p,m1,b1,g1⟩:=hC.lies;refine mP (Ap 5 ["lie","name","entry","part"] W4 (ph 1 [2,3,4] rfl) (Yl AG) (oK 0) X5 (Zi<|Zb (pv 1)<|Zb (pv 2)<|Zb (Z5 (pv 3) hC.cls.1 hC.cls.2.2 (YV T) hr.m T.aU.b .nil Z0<|Zb (pv 2)<|Zb (pv 0) Za)<|Zb (pv 0) Za))<|rc (Yi (pv 4) hC.cls.1 m1 (g1 _ _ _ 3<|by lk) hr b1 .nil Z0) #[hy,rfl,_,rfl,λp H2 N n2 e2=>#[mU e2,λD hD=>Yy (K:=K) (xs:=(wb k).map V.str) (λi c e=>(∃us qs,c=us.map V.ref/\pc (U.map snd) e us qs/\qs.length=i)/\e D=some (.lst c)/\mF H2 e) #[#[[],[],rfl,.nil,rfl],Zc,oU hD] ?_ ?_ ?_]]
   ·rintro i c e _ ⟨_,_,sm⟩;show mU<|sm.at e2
   ·rintro i v c e J ⟨⟨us,qs,rfl,j7,hl⟩,a,sm⟩;rw[nR]at J;obtain⟨p,u,rfl⟩:=nW.mp J;have D5:=(pr.mp u).1;have h2:=PK k;have F2:=j7.len;have g:=sm.at<|N.at hy;have lo:=Uc k Q5 Y S9 p<|pE u;refine#[oR rfl,g,rfl,k,y,C,nm,Y,p,rfl,hC,#[dy,g],λM L=>#[mQ,λG I d n4 B=>#[d.at<|L.at a,by rw[mO];show Zp (by lia),#[us++[G],qs++[(nm,Y,wk k Y p,p)],by rw[nw];rfl,?_,by rw[oj,hl];rfl],Zc,?_]]]
    ·show(((j7.mono L).mono d).snoc (q:=(nm,Y,wk k Y p,p)) B #[mZ.mpr #[_,hk,rfl],lo.1,lo.2.1,lo.2.2]).off (d.at<|L.at a)
    ·intro b o z;rw[Zd (Zf z hD)];show d.at<|L.at<|sm.at z
   ·rintro c M ⟨⟨us,qs,rfl,j7,hl⟩,hD3,L⟩;have hO3:qo M C y nm:=(hO.mono N).mono L;have h2:=PK k;have F2:=j7.len;rw[mO]at hl;refine mS (Zl<|Yc (r:=FH K) (Jf hr.units) (by rfl) T.dh yn<|Zb (pH ["step","part"] (ph 1 [4] rfl) (Yl<|pv 5) (oK 0) (uH<|pN<|qp (Ye (r:=uj K) (wC hr) (Wx (K:=K) rfl (pv 0) Ze) Zg<|Yq _)<|rJ<|Yo<|Yc (r:=yW K) Cf (by rfl) T.af rR<|Zb (pv 1)<|Zb (X4 (v:=.ref T.bJ) (by rfl) T.je rfl) Za) (pv 0)) Za) #[mU hD3,λG A6=>Yy (K:=K) (xs:=us.map V.ref) (λi c e=>(∃vs ws,c=vs.map V.ref/\pc (U.map snd) M vs ws/\ws.length<=i)/\e G=some (.lst c)/\mF M e) #[#[[],[],rfl,.nil,nH _],Zc,oU A6] ?_ ?_ ?_]
    ·rintro i c e _ ⟨_,_,sm⟩;show mU<|sm.at hD3
    ·rintro i v c I J ⟨⟨vs,ws,rfl,K3,B⟩,T2,d⟩;rw[nR]at J;obtain⟨a,hti,rfl⟩:=nW.mp J;obtain⟨q4,P4,ht4,ok4⟩:=j7.get hti;have D5:=(pr.mp hti).1;obtain⟨ty,hty,hkit⟩:=hC.stop<|hO3.mono d;have O4:=K3.len;have yes:I G=some (.lst<|vs.map V.ref)/\(vs.map V.ref).length<sizeLine/\(∃p u,vs.map V.ref++[.ref a]=p.map V.ref/\pc (U.map snd) M p u/\u.length<=i+1)/\mM I G (.lst<|vs.map V.ref++[.ref a]) G=some (.lst<|vs.map V.ref++[.ref a])/\mF M (mM I G<|.lst<|vs.map V.ref++[.ref a]) :=
      #[T2,by rw[mO];show Zp (by lia),#[vs++[a],ws++[q4],by rw[nw];rfl,K3.snoc ht4 ok4,by rw[oj];show CW B],Zc,λb o z=>by rw[Zd (Zf z A6)];show d.at z]
     have no:(∃p u,vs.map V.ref=p.map V.ref/\pc (U.map snd) M p u/\u.length<=i+1)/\I G=some (.lst<|vs.map V.ref)/\mF M I:=#[#[vs,ws,rfl,K3,by lia],T2,d]
     refine#[oR rfl,.inr<|.inl #[mW<|d.at ht4,Zm (j:=2) rfl,.inl #[rfl,Yf (λ_=>yes) λ_=>#[hty,.inr #[_,rfl,hkit],?_]]]]
     by_cases g:k ="gate"\/k ="stop"
     ·rw[nZ g];show yes
     ·rw[ow g];show no
    ·rintro c I ⟨⟨vs,ws,rfl,K3,B⟩,T2,d⟩;rw[mO]at B;have p:=K3.mono d;refine#[G,vs,rfl,mU T2,λa ha=>?_,λg hp l H5 s5 n5 e5=>q l H5 (s1.trans<|N.trans<|L.trans<|d.trans s5) (s1.free<|N.free<|L.free<|d.free n5) ?_]
     ·obtain⟨i,J⟩:=AX ha;obtain⟨q4,_,a,_⟩:=p.get J;show#[q4.1,[q4.2.1,q4.2.2.1,q4.2.2.2],a]
     ·obtain⟨hv,ok⟩:=p.mono s5;obtain⟨u,a,p2⟩:=GK hp hv;show#[g,u,e5,#[p2,λq hq=>ok q<|a.mem_iff.mp hq],by rw[a.length_eq];lia]
  ·refine mP (Zu (W0 hr (Z5 (pv 0) T.ak T.cS (EN T) hr.m T.bg.b .nil Z0<|Zb (pv 1) Za)<|X4 (v:=.ref T.dQ) (by rfl) T.ii rfl) Zo Zj) #[h1,rfl,x,t,(nm,Y),U,js,sg,rfl,tr,yv,ht,.inr #[hm,λt' H1 s1 u y=>.inr<|.inl #[1,oS ("",""),oS ("",""),by lk,.inl #[_,_,rfl,rfl],yg y,imN _,Yf (λ_=>?_) λz=>absurd (nZ rfl) z]]];show mS (Zl<|Zn Za) #[mQ,λl H2 N n2 e2=>q l H2 (s1.trans N) (s1.free n2)<|.none e2]
inductive JS:Sp
 | mk (x ps js sg):vs=[.ref x]->Z4 T H x ps js sg->Xe ps js sg->(∀l ts sg' H',mF H H'->H l=none->H' l=some (.lst<|ts.map V.ref)->Paired (AF H') ts sg'->sg'.Perm sg->Q (.ref l) H')->JS vs H Q E
def PL:T.bt.O P w mg mG 1 (JS T):=by
 refine T.bt.F.okA ?_;rfl'
 ·obtain⟨x,u,l,C,rfl,tr,yv,q⟩:=h;intro X D;obtain⟨x,u,l,p,g,e,N,a,ko,h1,_,_,_,_,h6,h7,_⟩:=tr.ex;have hks:N.length=C.length:=by rw[h7.len];show mO ..
  have K4:=yv.sigs.len;refine mS (Zl<|Yc (r:=FH K) (Jf hr.units) (by rfl) T.dh yn<|Zb (FG<|pH ["name","end"] (ph 2 [] rfl) (AK<|Z2 (pv 0) rfl) (AU (K:=K) (n:=2) rfl rfl<|Z3 (oK 0)<|Z3 (oK 1) Xz) X5 (Zi<|Zb (pv 0)<|Zb (Wx (K:=K) rfl (pv 1) Ze)<|Zb (Wx (K:=K) rfl (pv 1) Ze) Za)) Za) #[h1,T.ak,T.bi,rfl,h6,λo nf D B=>EU (λi L H'=>mF (mM H p<|.frz o<|.dK N) H'/\H' D=some (.lst L)/\∃d:lS lU,L=d.map V.ref/\Paired (AF H') d (C.take i)) #[oU B,Zc,[],rfl,.nil] ?_ ?_ ?_]
  ·rintro i L H' _ ⟨z,_⟩;show z.at Zc
  ·rintro i kv L J hi ⟨M,A6,d,rfl,I⟩ tp H3 Y n3 e3;obtain⟨⟨nm,e⟩,g,a,t,hv,ht⟩:=oQ h7 hi;have a:kv.1=Sum.inr nm:=a;rw[a,hv]at e3;have G:C[i]? =some (nm,e.1,e.2):=by
    unfold qS at g;rw[nR]at g;obtain⟨⟨g1,g2,g3⟩,G,e'⟩:=nW.mp g;rw[G];simp only[zl]at e';rw[<-e'.1,<-e'.2]
   have hto:t≠p:=λz=>by rw[z]at ht;show nomatch h6.symm.trans ht
   have htF:mM H p (.frz o<|.dK N) t=some (.tup [.str e.1,.str e.2]):=by
    rw[Zd hto];show ht
   have E1:d.length<=40:=by
    rw[nJ I,oy];lia
   have x:=mW (K:=K)<|Y.at<|M.at htF;refine#[mW e3,rfl,rfl,(oR rfl).trans (oR rfl),.inr<|.inl #[x,Zm (j:=0) rfl,.inr<|.inl #[x,Zm (j:=1) rfl,mQ,λt' H4 l n4 e4=>#[l.at<|Y.at A6,by rw[mO];show Zp (by lia),?_,Zc,d++[t'],by rw[nw];rfl,?_]]]]
   ·intro c u z;rw[Zd (Zf z B)];show l.at<|Y.at<|M.at z
   ·have T2:=l.at<|Y.at A6;have off:∀{c:lU}{U:lS V}{u:HO},H4 c=some (.tup U)->mM H4 D u c=some (.tup U):=λ{c U u} z=>(Zd λy=>by rw[y,T2]at z;cases z).trans z
    rw[ou,G];show pj (nO I λ_ _ z=>off<|l.at<|Y.at z)<|.cons (off e4) .nil
  ·rintro L J ⟨M,A6,d,rfl,I⟩;rw[hks,pq]at I;have e:mF H (mM J p<|.dK N):=yK h6 M;have x:D≠p:=λz=>by rw[z,Zc]at B;cases B
   have off:∀{c:lU}{U:lS V},J c=some (.tup U)->mM J p (.dK N) c=some (.tup U):=λ{c U} z=>(Zd λy=>by rw[y,M.at Zc]at z;cases z).trans z
   have R3:Paired (AF<|mM J p<|.dK N) d C:=nO I λ_ _ z=>off z
   refine#[p,o,_,M.at Zc,nf,D,d,rfl,mU (by rw[Zd x];show A6),λa ha=>?_,λG9 hp l H3 Y n3 e3=>?_]
   ·obtain⟨i,hi⟩:=AX ha;obtain⟨g,_,G⟩:=oQ R3 hi;show#[g.1,[g.2.1,g.2.2],G]
   ·obtain⟨u,g,a⟩:=GK hp R3;show q l G9 u H3 (e.trans Y) (e.free n3) e3 (nO a λ_ _ z=>Y.at z) g
inductive Jt:Sp
 | mk (x) (g:lT×Zh) (ps js) (sg:lS (lT×lT×lT)):vs=[.ref x,.str g.1]->Z4 T H x ps js sg->Xe ps js sg->(g:lT×lT×lT)∈sg->(∀(t:lU)(H':Hp),mF H H'->Zr H' t g.2->Q (.ref t) H')->Jt vs H Q E
def Ej:T.au.O P w mg mG 2 (Jt T):=by
 refine T.au.F.okW Nh ?_;rfl'
 ·obtain⟨x,⟨nm,e⟩,U,N,n,rfl,l,u,r,q⟩:=h;intro X D;obtain⟨x,U,N,j,M,L,i,J,I,p,_,_,_,_,o,g,_⟩:=l.ex;have d:((nm,e):lT×Zh)∈qS n:=mZ.mpr #[(nm,e),r,rfl];obtain⟨v,c,t,rfl,a⟩:=g.get wl (by rw[HX];show u.sigs.nd) d;have y:Y7 i (Xa nm)=some (.ref t):=c;refine mP (Zu (pN<|qp (Y9<|Yo<|Zv (wK T) hr<|Zb (pv 1) Za)<|rJ<|rK hr (pv 1)<|Z2 (pv 0) rfl) Zo Zj) #[_,true,rfl,(u.sigs.name _ r).asked,λY z=>#[z.at p,T.ak,T.bi,rfl,.inr<|.inl #[j,_,rfl,X0.k (k:=Xa nm)<|z.at o,?_]]];rw[y];show mS (Zl<|tS (Xy hr) (Z2 (pv 0) rfl) (pv 1) λ_ _=>rfl) #[z.at p,T.ak,T.bi,rfl,zp.mk (v:=.ref t) (by rw[<-y];show X0.k (k:=Xa nm)<|z.at o)<|q t Y z<|a.mono z]
def qc(ns:lS lT)(H:Hp)(t:lU)(sig:lT)(qs:lS S4):Prop:=∃z,H t=some (.tup<|.str sig ::z.map V.ref)/\pc ns H z qs
def qc.mono(e:mF H z)(h:qc ns H t sig qs):qc ns z t sig qs:=let⟨y,x,u⟩:=h;#[y,e.at x,u.mono e]
def qc.off{xs:lS V}(h:qc ns H t sig qs)(x:H c=some (.lst xs)):qc ns (mM H c o) t sig qs:=by
 obtain⟨u,y,s⟩:=h;show#[u,(Zd λz=>by rw[z,x]at y;cases y).trans y,s.off x]
inductive Mi:Sp
 | mk (x t) (g:lT×Zh) (qs ps js) (sg:lS (lT×lT×lT)):vs=[.ref x,.ref t]->Z4 T H x ps js sg->Xe ps js sg->(g:lT×lT×lT)∈sg->qc (ps.map snd) H t g.1 qs->qs.length<=100->(∀l H',mF H H'->H l=none->CU (ps.map snd) H' l 2->(12<=qs.length->H' l=some (.lst []))->Q (.ref l) H')->Mi vs H Q E
def Tf{H:Hp}{ps:lS Zh}{q:lS (Zh×Zh)}{e:Zh}{Q:lU->Hp->Prop}{r:lU->Prop}(p:∀t',Q t' H->r t')(h:∀t' x y,mF H y->Zr y t' x->Q t' y):(e∈Yu ps/\∀t' x,((e,x):Zh×Zh)∈qJ q->Zr H t' x->r t')\/(e∉Yu ps/\∀t' y,mF H y->H t'=none->Zr y t' ("","")->Q t' y):=by
 by_cases z:e∈Yu ps
 ·show .inl #[z,λt' x _ u=>p t'<|h t' x H (pO _) u]
 ·show .inr #[z,λt' y s _ u=>h t' _ y s u]
def Zzk(n:Nat):vY (n+1) (-1)=some n:=by
 unfold vY;rw[mV (by lk)];simp
 constructor<;>lia
def GU{z:Type}(xs:lS z)(x:z):oJ (xs++[x]) (-1)=some x:=by
 unfold oJ;rw[oj,DD,Zzk];simp
def LV:T.fH.O P w mg mG 5 (Mi T):=by
 refine T.fH.F.okW DI ?_;rfl'
 ·obtain⟨x,t,⟨sig,e⟩,qs,ps,js,sg,rfl,tr,yv,hg,⟨d,ht,j7⟩,l,q⟩:=h;intro X D;have F2:=j7.len;obtain⟨l,_,_,_,_,_,_,_,_,h1,_⟩:=tr.ex;have P0:((V.str sig ::d.map V.ref).length:Int)=((qs.length+1:Nat):Int):=by rw[pi,mO,F2]
  refine mP (Zu (Ye zo (pI T.bw<|pv 1) (Wt (by rfl) T.gR)<|Yq _) Zo Zj)<|.inl #[.inr<|mW ht,Yf (λy=>?_) λy=>?_]
  ·show mS (Zl<|Zn Za) #[mQ,λl H1 I n1 e1=>q l H1 I n1 (.none e1) λ_=>e1]
  have y:qs.length<12:=by
   rcases yk qs.length 12 with p|p
   ·show p
   ·show absurd (nZ<|by rw[P0];lia) y
  refine mP (nk 2 DI<|Z5 (pv 0) T.ak T.cz (Ej T) hr.m T.au.b .nil Z0<|Zb (nq (pv 1) Ze) Za) #[h1,rfl,.inr<|.inl #[mW ht,Zm (j:=0) rfl,x,(sig,e),ps,js,sg,rfl,tr,yv,hg,λtp H1 I hp=>?_]];have N3:=I.at ht;let I19:IC:=λz c=>∃tl e',z=[some (.ref x),some<|.ref t,some<|.ref tp,some<|.ref tl,none]/\mF H1 c/\Zr c tl e'
  refine qh I19 ?_ ?_
  ·refine qf (nk 3 DI<|W5 (W0 hr (pI T.bw<|pv 1) Ze) (pv 2)<|Zv (Cq T) hr<|Zb (nq (pv 1)<|xg wV Ze) Za)<|.inl #[.inr<|mW N3,.inl #[rfl,Yf (λp=>?_) λp=>?_]]
   ·show#[tp,e,rfl,pO _,hp]
   ·have p:0<d.length:=by
     rcases Nat.eq_zero_or_pos d.length with v|v
     ·show absurd (nZ<|by rw[P0,<-F2,v];rfl) p
     ·show v
    obtain⟨C,a,rfl⟩:∃C a,d=C++[a]:=#[d.dropLast,d.getLast<|List.ne_nil_of_length_pos p,(HQ _).symm]
    obtain⟨qq,_,G,_⟩:=(j7.mono I).get (i:=C.length) (u:=a) (by simp);have la:oJ (V.str sig ::(C++[a]).map V.ref) (-1)=some (.ref a):=by
     rw[nw,<-List.cons_append];show GU _ _
    show .inr<|.inl #[mW N3,la,a,qq,rfl,G,λl H3 B n3 e3=>#[l,_,rfl,B,e3]]
  rintro z H2 ⟨tl,e',rfl,s2,hl⟩;have ht2:=s2.at N3;have hus2:=(j7.mono I).mono s2;refine mP (nk 4 DI<|Zq Wl (Zn<|Zb (nq (pv 2) Ze) Za)<|pH ["step"] (ph 1 [] rfl) (zW<|X6 (r:=rY K) sI (pv 1) (We Ze) Wu) (oK 0) X5 (Wx (K:=K) rfl (pv 0) Ze))<|.inr<|.inl #[mW<|s2.at hp,Zm (j:=0) rfl,mQ,λla H3 B n3 e3=>.inl #[mW<|B.at ht2,?_,λt4 H4 s4 l N=>#[mW N,λD hD=>?_]]]
  ·rintro⟨p,_⟩;have:HT.sIx (V.str sig ::d.map V.ref).length 0 (some 1)=1:=by
    unfold HT.sIx;simp
   rw[this]at p;cases p
  have N:H4 t4=some (.tup<|d.map V.ref):=by
   have N:H4 t4=some (.tup<|qF (V.str sig ::d.map V.ref) (some ((1:Nat):Int)) none):=N;rw[zd]at N;show N
  refine Ea (K:=K) (xs:=d.map V.ref) (λi n c=>n=((qs.take i).map fst).map V.str/\c D=some (.lst n)/\mF H4 c) #[rfl,Zc,oU hD] ?_ ?_ ?_
  ·rintro i n c _ ⟨_,_,sm⟩;show mW<|sm.at N
  ·rintro i v n H5 hi ⟨rfl,M,s5⟩;rw[nR]at hi;obtain⟨a,Y,rfl⟩:=nW.mp hi;obtain⟨qq,l,G,_⟩:=hus2.get Y;have r5:=G.mono<|B.trans<|s4.trans s5;refine#[oR rfl,.inr<|.inl #[mW r5,Zm (j:=0) rfl,M,by rw[mO,mO,oy];show Zp (by lia),?_,Zc,λb o p=>?_]]
   ·rw[ou,l,nw,nw];rfl
   ·rw[Zd (Zf p hD)];show s5.at p
  rintro n H5 ⟨rfl,M,s5⟩;refine .inr<|.inr #[(s4.trans s5).at e3,M,by rw[mO,mO,oy];show sz (by change 1+_<=_;lia),λl H6 s6 n6 e6=>?_];have s26:=B.trans<|s4.trans<|s5.trans s6;have g:=I.trans<|s2.trans s26;refine mS (Zl<|pH ["step","passed"] (ph 1 [4] rfl) (Yl<|Zv (Zn4 T) hr<|Zb (pv 0)<|Zb (Z5 (pv 0) T.ak T.cS (EN T) hr.m T.bg.b .nil Z0<|Zb (pv 3) Za) Za) (oK 0) (uH<|Ye (r:=FS K) (Lc hr) (Wx (K:=K) rfl (pv 0) Ze) (pv 1)<|by with_unfolding_all rfl) (pv 0)) #[g.at h1,rfl,x,tl,e',ps,js,sg,rfl,tr.mono g,yv,hl.mono s26,Tf (λ_ y=>y) λt7 e7 H7 s7 p7=>#[x,t7,e7,ps,js,sg,rfl,tr.mono<|g.trans s7,yv,p7,λl8 l s8 n8 ⟨vs,C,h8,K3,J5⟩=>#[mU h8,λD2 A6=>Yy (K:=K) (xs:=vs.map V.ref) (λi n c=>(∃L bs,n=L.map V.ref/\pc (ps.map snd) l L bs/\bs.length<=i)/\c D2=some (.lst n)/\mF l c) #[#[[],[],rfl,.nil,nH _],Zc,oU A6] ?_ ?_ ?_]]]
  ·rintro i n c _ ⟨_,_,sm⟩;show mU<|sm.at h8
  ·rintro i v n H9 hi ⟨⟨L,bs,rfl,has,hb⟩,U,J⟩;rw[nR]at hi;obtain⟨a,Y,rfl⟩:=nW.mp hi;obtain⟨qq,_,G,ok⟩:=K3.get Y;have l:=has.len;have O4:=K3.len;have D5:=(pr.mp Y).1;refine#[oR rfl,.inr<|.inl #[mW<|G.mono J,Zm (j:=0) rfl,.inl #[.inl<|mU<|(s7.trans<|s8.trans J).at e6,rfl,Wb _,Yf (λ_=>?_) λ_=>?_]]]
   ·show#[U,by rw[mO];show Zp (by lia),#[L++[a],bs++[qq],by rw[nw];rfl,has.snoc G ok,by rw[oj];show CW hb],Zc,λb o p=>by rw[Zd (Zf p A6)];show J.at p]
   ·show#[#[L,bs,rfl,has,by lia],U,J]
  ·rintro n H9 ⟨⟨L,bs,rfl,has,hb⟩,U,J⟩;rw[mO]at hb;have O4:=K3.len;show q D2 H9 (g.trans<|s7.trans<|s8.trans J) (g.free<|s7.free<|s8.free A6) #[L,bs,U,has.mono J,by lia] λp=>absurd p (by lia)
def wt(ss:lS S4):Nat:=3 ^ (14-ss.length)
theorem JD:∀bs:lS (lS S4),bs.length<=(bs.map wt).sum
 | []=>nH _
 | b ::bs=>by
  have:=JD bs;have:1<=wt b:=Nat.one_le_pow _ _ (by lk);change bs.length+1<=wt b+(bs.map wt).sum;lia
def qI(ns:lS lT)(H:Hp)(l:lU)(sig:lT)(y:lS (lS S4)):Prop:=∃z:lS lU,H l=some (.lst<|z.map V.ref)/\Paired (λt x=>qc ns H t sig x) z y
def qI.mono(e:mF H z)(h:qI ns H l sig y):qI ns z l sig y:=let⟨x,u,s⟩:=h;#[x,e.at u,nO s λ_ _ r=>r.mono e]
def qI.off{xs:lS V}(h:qI ns H l sig z)(y:H c=some (.lst xs))(n:l≠c):qI ns (mM H c o) l sig z:=let⟨x,u,s⟩:=h;#[x,(Zd n).trans u,nO s λ_ _ r=>r.off y]
def qI.add{ts:lS lU}{z:lS (lS S4)}(y:H l=some (.lst<|ts.map V.ref))(h:Paired (λt ss=>qc ns H t sig ss) ts z)(r:qc ns H t sig ss):qI ns (mM H l<|.lst<|ts.map V.ref++[.ref t]) l sig (z++[ss]) :=
 #[ts++[t],by rw[Zc,nw];rfl,pj (nO h λ_ _ r=>r.off y)<|.cons (r.off y) .nil]
def wQ(r:lS S4):Prop:=r≠[]/\r.length<=12
inductive Nv:Sp
 | mk (x) (g:lT×Zh) (ps js) (sg:lS (lT×lT×lT)):vs=[.ref x,.str g.1]->Z4 T H x ps js sg->Xe ps js sg->(g:lT×lT×lT)∈sg->(∀l rs H',mF H H'->H l=none->qI (ps.map snd) H' l g.1 rs->rs.length<=4782969->(∀r∈rs,wQ r)->Q (.ref l) H')->Nv vs H Q E
inductive GR(ns:List Str)(H:Hp)(x lf lb:Addr)(sig:Str)(p:Nat->Prop):Nat->St->Hp->Prop
 | mk (rs bs o4 o5):mF H H'->qI ns H' lf sig rs->qI ns H' lb sig bs->rs.length+(bs.map wt).sum<=4782969->(∀b∈bs,b.length<=12)->(∀r∈rs,wQ r)->p (bs.map wt).sum->GR ns H x lf lb sig p (bs.map wt).sum [some (.ref x),some<|.str sig,some<|.ref lf,some<|.ref lb,o4,o5] H'
inductive LP(ns:List Str)(H:Hp)(x lf lb ta l6:Addr)(sig:Str)(vs:List Addr)(ws ah:List S4)(m1 m2:Nat):St->Hp->Prop
 | mk (rs bs o5):(bs.map wt).sum<=m1->rs.length+(bs.map wt).sum<=m2->mF H H'->H' l6=some (.lst<|vs.map V.ref)->pc ns H' vs ws->qc ns H' ta sig ah->qI ns H' lf sig rs->qI ns H' lb sig bs->(∀b∈bs,b.length<=12)->(∀r∈rs,wQ r)->LP ns H x lf lb ta l6 sig vs ws ah m1 m2 [some (.ref x),some<|.str sig,some<|.ref lf,some<|.ref lb,some<|.ref ta,o5] H'
def SL:T.dY.O P w mg mG 6 (Nv T):=by
 refine T.dY.F.okW Wp ?_;rfl'
 ·obtain⟨x,⟨sig,e⟩,M,js,sg,rfl,tr,yv,hg,q⟩:=h;intro X D;refine mP (nk 2 Wp<|Zn Za) #[mQ,λlf u s1 n1 e1=>?_];refine mP (nk 3 Wp<|Zn<|Zb (Zi<|Zb (pv 1) Za) Za) #[mQ,λt2 u s2 p e2=>#[mQ,λd n s3 n3 e3=>?_]];have nfb:lf≠d:=λy=>by rw[y]at e1;rw[s2.at e1]at n3;cases n3
  have nlb:H d=none:=s1.free<|s2.free n3;have A9:=s1.trans<|s2.trans s3;let I20:IC:=λz H'=>(∃o3 o4 o5,z=[some (.ref x),some<|.str sig,some<|.ref lf,o3,o4,o5])/\mF H H'/\∃rs,qI (M.map snd) H' lf sig rs/\rs.length<=4782969/\∀r∈rs,wQ r
  refine qh I20 ?_ ?_
  ·refine qf (UF pG (Uk (pv 3) λ_=>rfl) Zo) #[GR (M.map snd) H x lf d sig λ_=>True,#[_,.mk [] [[]] none none A9 #[[],s3.at<|s2.at e1,.nil] #[[t2],e3,.cons #[[],s3.at e2,.nil] .nil] (by left) (λb hb=>by rw[pQ.mp hb];show pJ _) (λ_ y=>nomatch y) trivial],?_];rintro n z H4 ⟨rs,bs,o4,o5,s4,O3,⟨ts,c,j8⟩,hsum,g8,L,_⟩;have E1:=nJ j8;refine#[!(ts.map V.ref).isEmpty,.inl #[_,mU c,rfl],?_];refine Yf (λy=>?_) λy=>#[#[_,_,_,rfl],s4,rs,O3,by lia,L];have y:0<ts.length:=by
    cases ts with
    | nil=>show absurd y (by lk)
    | cons a as=>show Nat.succ_pos _
   obtain⟨j,hta⟩:∃j,ts[ts.length-1]? =some j:=#[_,oE<|by lia]
   obtain⟨p,hah,ra⟩:=oQ j8 hta;obtain⟨g,rfl⟩:=Ld.mp (show ts.getLast? =some j by rw[LJ];show hta);obtain⟨b1,rfl⟩:=Ld.mp (show bs.getLast? =some p by rw[LJ,<-E1];show hah);rw[nw,FR]at hsum;have hal:p.length<=12:=g8 p<|qm _ oM;have hlen1:∀b∈b1,b.length<=12:=λb hb=>g8 b<|AI _ hb
   obtain⟨B,hB⟩:∃B,B=3 ^ (13-p.length):=#[_,rfl]
   have hB1:1<=B:=by rw[hB];show Nat.one_le_pow _ _ (by lk)
   have hwt:(List.map wt [p]).sum=3 * B:=by
    change wt p+0=_;unfold wt;rw[hB,Bj,show 14-p.length=(13-p.length)+1 by lia,Nat.pow_succ,Nat.mul_comm]
   rw[hwt]at hsum;refine#[λu H'=>∃n,GR (M.map snd) H x lf d sig (λn=>n<=(b1.map wt).sum+2 * B) n u H',λu H' ⟨n,h⟩=>?_,?_]
   ·obtain⟨S3,J,u,l,g1,g2,N,g4,g5,g6,g7⟩:=h;show#[_,by rw[nw,FR,hwt];lia,.mk S3 J u l g1 g2 N g4 g5 g6 trivial]
   refine mP (nk 4 Wp<|Ygb yO AO GF VZ<|pv 3) #[.inl #[rfl,_,mU c],d,_,.ref j,rfl,rfl,c,?_,?_]
   ·rw[nw,oj,mO];change(g.map V.ref++[V.ref j])[g.length+1-1]? =_;rw[Nat.add_sub_cancel,CZ (by rw[mO];show nH _),mO,Nat.sub_self]
    rfl
   have el:mM H4 d (.lst ((g++[j]).map V.ref).dropLast) d=some (.lst<|g.map V.ref):=by rw[Zc,nw];show oN (λl=>some<|HO.lst l)<|List.dropLast_concat
   have hts':Paired (λt ss=>qc (M.map snd) H4 t sig ss) g b1:=by
    have:=CO g.length j8;rwa[List.take_left,show g.length=b1.length by have:=E1;rw[oj,oj]at this;simpa using this,List.take_left]at this
   have Y:=O3.off (o:=.lst ((g++[j]).map V.ref).dropLast) c nfb;have ra5:=ra.off (o:=.lst ((g++[j]).map V.ref).dropLast) c;have U:qI (M.map snd) (mM H4 d<|.lst ((g++[j]).map V.ref).dropLast) d sig b1:=#[g,el,nO hts' λ_ _ r=>r.off c]
   have s5:mF H (mM H4 d<|.lst ((g++[j]).map V.ref).dropLast):=s4.upd0 nlb;generalize mM H4 d (.lst ((g++[j]).map V.ref).dropLast)=H5 at Y ra5 U s5;refine mS (Xh pG rfl (Yl<|Zv (LV T) hr<|Zb (pv 0)<|Zb (pv 4) Za) (oq 5 Wp) Zo) #[x,j,(sig,e),p,M,js,sg,rfl,tr.mono s5,yv,hg,ra5,by lia,λl6 l u n6 ⟨vs,ws,h6,K3,N⟩ h12=>#[mU h6,Wr (K:=K) (xs:=vs.map V.ref) (λi=>LP (M.map snd) H x lf d j l6 sig vs ws p ((b1.map wt).sum+i * B)<|rs.length+(b1.map wt).sum+i * B) (.mk rs b1 o5 (by lia) (by lia) (s5.trans u) h6 K3 (ra5.mono u) (Y.mono u) (U.mono u) hlen1 L) ?_ ?_ ?_]]
   ·rintro i z H' _ ⟨_,_,_,_,_,_,h,_⟩;show mU h
   ·rintro i v z H7 hi ⟨S3,J,o5',w1,w2,s7,h7,I,G,C,hb7,hl7,ho7⟩;rw[nR]at hi;obtain⟨tq,htq,rfl⟩:=nW.mp hi;obtain⟨qq,_,rq,okq⟩:=I.get htq;have D5:=(pr.mp htq).1;have O4:=K3.len;have hah12:p.length<12:=by
     rcases yk p.length 12 with u|u
     ·show u
     ·have:=h12 u;rw[h6]at this;cases vs with
      | nil=>show absurd D5 (Cz _)
      | cons a as=>cases this
    have hwn:wt (p++[qq])=B:=by
     unfold wt;rw[hB,oj];change 3 ^ (14-(p.length+1))=_;rw[show 14-(p.length+1)=13-p.length by lia]
    have nl6:l6≠lf/\l6≠d:=#[λv=>(let⟨_,k,_⟩:=Y;nomatch (v ▸ n6).symm.trans k),λv=>(let⟨_,k,_⟩:=U;nomatch (v ▸ n6).symm.trans k)]
    have iB:(i+1) * B=i * B+B:=by rw[Nat.add_mul,Nat.one_mul]
    have sB:i * B<=1 * B:=Na _ (by lia);have al:(p++[qq]).length<=12:=by rw[oj];show hah12
    have tup:∀{H8:Hp},mF H7 H8->∀{t8:lU},H8 t8=some (.tup [.ref tq])->∀{Q':VK},(∀t9 H9,mF H8 H9->qc (M.map snd) H9 t9 sig (p++[qq])->Q' (.ref t9) H9)->KL K (.ref j) (.ref t8) H8 Q':=λ{H8} s8 {t8} e8 {Q'} k=>by
     obtain⟨ws,g1,g2⟩:=G.mono s8;have hwl:=g2.len;refine#[j,t8,_,_,rfl,rfl,mW g1,mW e8,by simp,by simp,by rw[pi,mO,hwl];show sz (by change _+1+1<=_;lia),λt9 H9 l n9 e9=>k t9 H9 l #[ws++[tq],?_,(g2.mono l).snoc ((rq.mono s8).mono l) okq]];rw[e9,nw];rfl
    refine mS (Zu (Yo<|Zv (Gf T) hr<|Zb (pv 0)<|Zb (pv 5) Za) Zo Zo) #[x,tq,qq,M,js,sg,rfl,tr.mono s7,yv,rq,λH8 s8=>Yf (λ_=>?_) λ_=>?_]
    ·obtain⟨fs,f1,f2⟩:=C.mono s8;refine mS (Z1<|rB (pv 2)<|Zq IG (pv 4)<|Zi<|Zb (pv 5) Za) #[.inl #[rfl,_,mU f1],mQ,λt8 H9 l n9 e9=>tup (s8.trans l) e9 λt9 K0 w6 r10=>#[(l.trans w6).at f1,?_,?_]]
     ·have Q4:=nJ f2;rw[mO,sO,Q4];lia
     have N:=s8.trans<|l.trans w6;have fe:=(l.trans w6).at f1;refine .mk (S3++[p++[qq]]) J (some<|.ref tq) (by lia) (by rw[oj];change _+1+_<=_;lia) ((s7.trans N).upd0 n1) ((Zd nl6.1).trans (N.at h7)) ((I.mono N).off fe) ((G.mono N).off fe) (qI.add fe (nO f2 λ_ _ r=>r.mono<|l.trans w6) r10) ((hb7.mono N).off fe nfb.symm) hl7 λr E7=>?_
     rcases oA.mp E7 with v|v
     ·show ho7 r v
     ·rw[pQ.mp v];show#[by simp,al]
    ·obtain⟨fs,f1,f2⟩:=hb7.mono s8;refine mS (Z1<|rB (pv 3)<|Zq IG (pv 4)<|Zi<|Zb (pv 5) Za) #[.inl #[rfl,_,mU f1],mQ,λt8 H9 l n9 e9=>tup (s8.trans l) e9 λt9 K0 w6 r10=>#[(l.trans w6).at f1,?_,?_]]
     ·have Q4:=nJ f2;have:=JD J;rw[mO,sO,Q4];lia
     have N:=s8.trans<|l.trans w6;have fe:=(l.trans w6).at f1;have hsm:((J++[p++[qq]]).map wt).sum=(J.map wt).sum+B:=by rw[nw,FR];change _+(wt (p++[qq])+0)=_;rw[hwn,Bj]
     refine .mk S3 (J++[p++[qq]]) (some<|.ref tq) (by lia) (by lia) ((s7.trans N).upd0 nlb) ((Zd nl6.2).trans (N.at h7)) ((I.mono N).off fe) ((G.mono N).off fe) ((C.mono N).off fe nfb) (qI.add fe (nO f2 λ_ _ r=>r.mono<|l.trans w6) r10) (λb hb=>?_) ho7;rcases oA.mp hb with v|v
     ·show hl7 b v
     ·rw[pQ.mp v];show al
   ·rintro z H7 ⟨S3,J,o5',w1,w2,s7,h7,I,G,C,hb7,hl7,ho7⟩;have O4:=K3.len;rw[mO]at w1 w2;have sB:vs.length * B<=2 * B:=Na _ (by lia);show#[_,.mk S3 J _ _ s7 C hb7 (by lia) hl7 ho7<|by lia]
  rintro z H4 ⟨⟨o3,o4,o5,rfl⟩,s4,rs,⟨ts,h1,h2⟩,P3,L⟩;refine mS (Zl<|Yc (r:=IT K) (UD hr.units) (by rfl) T.dh yn<|Zb (pv 2) Za) #[lf,ts,rfl,mU h1,λt ht=>?_,λG9 E4 l5 H5 s5 n5 e5=>?_]
  ·obtain⟨i,hi⟩:=AX ht;obtain⟨ss,_,g,n,l⟩:=oQ h2 hi;refine#[sig,g,n,λu c=>?_];obtain⟨j,a⟩:=AX c;obtain⟨p,_,Y,_⟩:=l.get a;show#[[p.1,p.2.1,p.2.2.1,p.2.2.2],Y]
  ·obtain⟨S3,u,p⟩:=GK E4 h2;show q l5 S3 H5 (s4.trans s5) (s4.free n5) #[G9,e5,nO p λ_ _ r=>r.mono s5] (by rw[u.length_eq];show P3) λr E7=>L r<|u.mem_iff.mp E7
inductive Nx:Sp
 | mk (x a) (g:lT×Zh) (qs ps js) (sg:lS (lT×lT×lT)):vs=[.ref x,.ref a]->Z4 T H x ps js sg->Xe ps js sg->(g:lT×lT×lT)∈sg->qc (ps.map snd) H a g.1 qs->wQ qs->(∀b H',mF H H'->Q (.bl b) H')->Nx vs H Q E
def pF.im(h:pF H t q):Im K H 1 (wA q) (.ref t):=vL (n:=0) (mW h)<|.cons (.str _)<|.cons (.str _)<|.cons (.str _)<|.cons (.str _) .nil
def pc.im(h:pc ns H us qs):Paired (Im K H 1) (qs.map wA) (us.map V.ref):=by
 obtain⟨h,o⟩:=h;clear o
 induction h with
 | nil=>show .nil
 | cons r _ z=>show .cons (pF.im r) z
def QY:T.fJ.O P w mg mG 6 (Nx T):=by
 refine T.fJ.F.okW MX ?_;rfl'
 ·obtain⟨x,a,⟨sig,e⟩,qs,B,js,sg,rfl,L,J,hg,⟨d,c,j7⟩,⟨l,p⟩,q⟩:=h;intro X D;obtain⟨p,_,_,_,_,_,_,_,_,hx,_⟩:=L.ex;have c:H a=some (.tup<|V.str sig ::d.map V.ref):=c;have F2:=j7.len;have g8:(V.str sig ::d.map V.ref).length=qs.length+1:=by rw[pi,mO,F2]
  refine mP (Zu (pN<|qp (Y9<|Yo<|rf "tuple" T.af T.iy JP<|pv 1)<|rJ<|Ye wr (pI T.bw<|pv 1) Ze<|Yq _) Zo Zj) #[Xl.tup c,.inl<|pz rfl T.jZ,(.inl #[.inr<|mW c,Yf (λ_=>mS (Zl qM)<|q _ _<|pO _) λ_=>?_])];refine mP (Zu (rK hr (nq (pv 1) Ze)<|pH ["signal"] (ph 1 [] rfl) (Yl<|Yi (pv 0) T.ak T.dg (PL T) hr.m T.bt.b .nil Z0) (oK 0) X5 (Wx (K:=K) rfl (pv 0) Ze)) Zo Zj)<|.inr<|.inl #[mW c,Zm (j:=0) rfl,hx,rfl,x,B,js,sg,rfl,L,J,λl ts p H1 s1 n1 e1 r1 p1=>#[mU e1,λD hD=>Yy (K:=K) (xs:=ts.map V.ref) (λi M U=>M=((p.take i).map fst).map V.str/\U D=some (.lst M)/\mF H1 U) #[rfl,Zc,oU hD] ?_ ?_ ?_]]
  ·rintro i M U _ ⟨_,_,sm⟩;show mU<|sm.at e1
  ·rintro i v M H2 I ⟨rfl,A6,G⟩;rw[nR]at I;obtain⟨tg,p,rfl⟩:=nW.mp I;obtain⟨gg,l,rg⟩:=oQ r1 p;have K4:=J.sigs.len;have u6:=p1.length_eq;refine#[oR rfl,.inr<|.inl #[mW<|G.at rg,Zm (j:=0) rfl,A6,by rw[mO,mO,oy];show Zp (by lia),?_,Zc,λb o y=>?_]]
   ·rw[ou,l,nw,nw];rfl
   ·rw[Zd (Zf y hD)];show G.at y
  rintro M H2 ⟨rfl,A6,G⟩;have B9:=s1.trans G;refine .inl #[.inl<|mU A6,rfl,Wb _,Yf (λ_=>mS (Zl qM)<|q _ _ B9) λ_=>?_];refine mP (Xh pG rfl (Di rfl T.dz<|Zb Ze<|Zb (pI T.bw<|pv 1) Za) (oq 2 MX) Zo)<|.inl #[.inr<|mW<|B9.at c,1,_,rfl,#[by lk,by lk,by lia,by lia],?_];rw[show(((V.str sig ::d.map V.ref).length:Int)-1).toNat=d.length by rw[g8,F2];lia];let I21:IF:=λi z U=>(∃o,z=[some (.ref x),some<|.ref a,o])/\mF H U
  refine wX (n:=d.length) I21 #[#[none,rfl],B9] ?_ λz U ⟨⟨o,e⟩,sm⟩=>by
   subst e;show mS (Zl qM)<|q _ _ sm
  rintro i z H3 I ⟨⟨o,rfl⟩,N⟩;obtain⟨u,hu⟩:∃u,d[i]? =some u:=#[_,oE I]
  obtain⟨r,p,hq,l⟩:=j7.get hu;have Y:(1+(i:Nat):Int)=((i+1:Nat):Int):=by lia
  have av:oJ (V.str sig ::d.map V.ref) (1+(i:Nat):Int)=some (.ref u):=by
   rw[Y];refine Zm ?_;change(d.map V.ref)[i]? =_;rw[nR,hu];rfl
  refine mP (Zu (rK hr (nq (pv 1)<|pv 2)<|Zv (LV T) hr<|Zb (pv 0)<|Zb (X6 (r:=rY K) sI (pv 1) Wu<|We<|pv 2) Za) Zo Zj)<|.inr<|.inl #[mW<|N.at c,av,.inl #[mW<|N.at c,?_,λp H4 C n4 e4=>#[x,p,(sig,e),qs.take i,B,js,sg,rfl,L.mono<|N.trans C,J,hg,#[d.take i,?_,?_],?_,λl H5 s5 n5 ⟨vs,ws,e5,r5,hw5⟩ _=>.inr<|.inr #[l,1,wA r,ws.map wA,vs,rfl,mU e5,by lk,pF.im<|hq.mono<|N.trans<|C.trans s5,r5.im,?_]]]]
  ·rintro⟨_,y⟩;rw[Y,HT.sIx_nat]at y;have y:min (i+1) (V.str sig ::d.map V.ref).length=(V.str sig ::d.map V.ref).length:=y;rw[g8]at y;lia
  ·rw[Y,De]at e4;rw[e4,wG];rfl
  ·obtain⟨h,o⟩:=j7.mono<|N.trans C;show#[CO i h,λp l=>o p<|yD l]
  ·rw[oy];lia
  have g:=N.trans<|C.trans s5;refine Yf (λ_=>mS (Zl qM)<|q _ _ g) λ_=>?_;refine mS (Zu (Yo<|Zv (Gf T) hr<|Zb (pv 0)<|Zb (nq (pv 1)<|pv 2) Za) Zo Zj)<|.inr<|.inl #[mW<|g.at c,av,x,u,r,B,js,sg,rfl,L.mono g,J,hq.mono g,λH6 s6=>Yf (λ_=>?_) λ_=>#[#[_,rfl],g.trans s6]];show mS (Zl<|vA hr (pv 2)<|Zq Io (pI T.bw<|pv 1) Ze)<|.inl #[.inr<|mW<|(g.trans s6).at c,.inl #[rfl,q _ H6<|g.trans s6]]
def GA(x:V)(xs:lS V):qF (x ::xs) (some 1) none=xs:=by
 rw[show(1:Int)=((1:Nat):Int)from rfl,zd]
 rfl
def Hg(x:V)(xs:lS V):¬(HT.sIx (x ::xs).length 0 (some 1)=0/\HT.sIx (x ::xs).length (x ::xs).length none=(x ::xs).length):=by
 rintro⟨h,_⟩;rw[show(1:Int)=((1:Nat):Int)from rfl,HT.sIx_nat]at h;rw[pi]at h;lia
def pp{z:Type}(y:lS (lT×z))(x:lT)(v:z):lS (lT×z):=open Classical in if x∈y.map fst then y.map (λq=>if q.1=x then(x,v)else q)else y++[(x,v)]
def CF{z:Type}{f:z->V}(s:lS (lT×z))(x:lT)(v:z):Wk (Zz f s) (Sum.inr x) (f v)=Zz f (pp s x v):=by
 unfold pp
 by_cases y:x∈s.map fst
 ·rw[mY y];have u:((Zz f s).any λkv=>decide<|kv.1=Sum.inr x)=true:=by
   obtain⟨q,r,rfl⟩:=mZ.mp y;show List.any_eq_true.mpr #[(Sum.inr q.1,f q.2),mZ.mpr #[q,r,rfl],by simp]
  unfold Wk;rw[mY u];unfold Zz;rw[oO,oO];refine zy λq _=>?_
  by_cases h:q.1=x
  ·simp[h]
  ·have:¬(Sum.inr q.1:nj)=Sum.inr x:=λy=>h<|wa y
   simp[h,this]
 ·rw[mV y];show Pz y
def Dc{z:Type}(s:lS (lT×z))(x:lT)(v:z):(pp s x v).map fst=if x∈s.map fst then s.map fst else s.map fst++[x]:=by
 unfold pp
 by_cases y:x∈s.map fst
 ·rw[mY y,mY y,oO];refine zy λq _=>?_
  by_cases u:q.1=x
  ·simp[u]
  ·simp[u]
 ·rw[mV y,mV y,nw]
  rfl
def EF{z:Type}{s:lS (lT×z)}{x:lT}{v:z}(h:(s.map fst).Nodup):((pp s x v).map fst).Nodup:=by
 rw[Dc]
 by_cases y:x∈s.map fst
 ·rw[mY y];show h
 ·rw[mV y,qG];show#[h,by simp,λa r b q=>by rw[pQ]at q;rw[q];intro u;rw[u]at r;show y r]
def sX(z:lS (lT×lT)):lS Zs->lS (lT×lT)
 | []=>z
 | s ::y=>sX (if s.2.2.2 ="" then z else pp z s.1 s.2.2.2) y
def SJ{ss:lS Zs}:∀{y:lS (lT×lT)},(y.map fst).Nodup->((sX y ss).map fst).Nodup:=by
 induction ss with
 | nil=>show λh=>h
 | cons r ss x =>
  intro y h;refine x ?_
  by_cases z:r.2.2.2 =""
  ·rw[mY z];show h
  ·rw[mV z];show EF h
def EI{z:Type}{P:lT×z->Prop}{s:lS (lT×z)}{x:lT}{v:z}(h:∀p∈s,P p)(k:P (x,v)):∀p∈pp s x v,P p:=λp u=>by
 unfold pp at u;split at u
 ·obtain⟨q,y,rfl⟩:=mZ.mp u;split
  ·show k
  ·show h q y
 ·rcases oA.mp u with y|y
  ·show h p y
  ·rw[pQ.mp y];show k
theorem LB{P:lT×lT->Prop}:∀{ss:lS Zs}{z:lS (lT×lT)},(∀p∈z,P p)->(∀s∈ss,P (s.1,s.2.2.2))->∀p∈sX z ss,P p
 | [],_,h,_=>h
 | s ::ss,z,h,k=>by
  change ∀p∈sX (if s.2.2.2 ="" then z else pp z s.1 s.2.2.2) ss,P p;refine LB ?_ λq y=>k q<|pe _ y
  split
  ·show h
  ·show EI h<|k s oM
theorem Bb:∀{l m:lS lT},l.Nodup->(∀x∈l,x∈m)->l.length<=m.length
 | [],_,_,_=>pJ _
 | a ::l,m,y,h=>by
  rw[pZ]at y;have u:=h a oM;have:=Bb (m:=m.erase a) y.2 λx s=>(List.mem_erase_of_ne (λz:x=a=>y.1<|z ▸ s)).mpr (h x<|pe _ s)
  rw[List.length_erase_of_mem u]at this;have:=List.length_pos_of_mem u;rw[pi];lia
def Ak.mono{H y:Hp}{v:V}{a:lX (lT×lT)}(e:mF H y)(h:Ak H v a):Ak y v a:=by
 cases a with
 | none=>show h
 | some z=>obtain⟨p,x,u⟩:=h;show#[p,x,e.at u]
def zA(g:Gd)(x:lT):lX (lT×lT):=if(g.stiff.lookup x).getD false=true then some (("stiff":lT),x)else none
def xo(H:Hp)(f:lU)(x:lT):Prop:=∃c,Clo H T.bn f (("rule_stiff":lT)++".<locals>."++"<lambda>") (AR<|oZ Yz) (Ar<|oZ Yz) (vB<|oZ Yz) [("part",c)]/\CellAt H c (.str x)
def xo.mono{T:Tx K mg}{H z:Hp}{f:lU}{x:lT}(e:mF H z)(h:xo T H f x):xo T z f x:=let⟨c,y,u⟩:=h;#[c,y.mono e,u.mono e]
def WP:T.dq.O P w mg mG 1 (CC T<|xo T):=by
 refine T.dq.F.okM T.ek UU (λz H Q E h=>?_) λy A u s H z Q E r h=>?_
 ·obtain⟨x,rfl,_⟩:=h
  rfl
 ·obtain⟨x,rfl,y,q⟩:=h;show ux.last #[rfl,y.rule_stiff,_,rfl,λu s r p o n=>q u s r p #[_,o,(n 0 "part" (.str x) _ rfl rfl rfl rfl).2]]
def ZX{H:Hp}{f l dl ds d a:lU}{x:lT}{Y:lS (lT×lU)}{g:Gd}(R:xo T H f x)(G:sK T H l Y g dl ds d a):uz P w K mg mG 4 H f l (zA g x):=by
 intro U j;obtain⟨c,i,N⟩:=R.mono j;have L:tM U (vB<|oZ Yz) [("part",c)] ["part"] [.str x]:=#[.cons #[rfl,c,rfl,N] .nil,by simp,by simp,by simp]
 refine#[i.fn,λQ q=>?_];refine Cp (g :="ground") i L (λ_ _ _ _=>rfl) rfl (by lk) (by left) (by left) rfl rfl rfl λE A D s M=>?_
 have z:=(G.mono j).soft λb o e n=>L.soft e n
 obtain⟨p,J⟩:=z.at_;refine rc (W5 (Yo<|Bc (Xy M) (Z2 (pv 0) rfl) (pv 1) qM #[rfl,rfl,rfl,rfl]) (Zi<|Zb Zg<|Zb (pv 1) Za) rV) #[J,T.dM,T.cZ,rfl,ds,rfl,.inl #[_,.inl z.four.stiff],_,X0.k (k:=Sum.inr x) z.four.stiff,?_];rw[Fg];have e:(Option.map V.bl<|g.stiff.lookup x).getD (V.bl false)=V.bl ((g.stiff.lookup x).getD false):=by cases g.stiff.lookup x<;>rfl
 rw[e];refine(Yf (λy=>?_) λy=>?_)
 ·refine#[mQ,λp C Q B I=>#[Q,λu h r=>q _ u r ?_]];unfold zA;rw[mY y];show#[p,rfl,h.at I]
 ·refine#[pO _,λu h r=>q _ u r ?_];unfold zA;rw[mV y];show rfl
def yu(H z:Hp):Prop:=∀b o,H b=some o->(∀y,o≠.lst y)->z b=some o
def _root_.L2.mF.fix(e:mF H z):yu H z:=λb _ h _=>e b _ h
def _root_.L2.Clo.fix(e:yu H x)(h:Clo H Pt u q s r p y):Clo x Pt u q s r p y:=by
 obtain⟨o,n,c,l,j,i,g,d,a,Y,U,Q,N⟩:=h;show#[o,n,c,l,j,i,g,e _ _ d (λ_ z=>nomatch z),e _ _ a (λ_ z=>nomatch z),Y,U,e _ _ Q (λ_ z=>nomatch z),N]
def _root_.L2.CellAt.fix(e:yu H y)(h:CellAt H c v):CellAt y c v:=by
 obtain⟨o,u,x,s⟩:=h;show#[o,u,e _ _ x (λ_ z=>nomatch z),s]
def YI(H:Hp)(f:lU)(x:lT)(c:lU):Prop:=Clo H T.bn f (("rule_stiff":lT)++".<locals>."++"<lambda>") (AR<|oZ Yz) (Ar<|oZ Yz) (vB<|oZ Yz) [("part",c)]/\CellAt H c (.str x)
def FW(H:Hp)(f:lU)(x l:lT):Prop:=∃(z y u fs s:lU),Clo H T.ck f (("rule_lies":lT)++".<locals>."++"<lambda>") (AR<|oZ Xx) (Ar<|oZ Xx) (vB<|oZ Xx) [("stiff",u),("part",z),("lie",y)]/\
 CellAt H z (.str x)/\CellAt H y (.str l)/\CellAt H u (.ref fs)/\[u,z,y].Nodup/\YI T H fs x s/\s∉[u,z,y]
inductive Rl where|held (x:Str)|taken (x:Str)|lies (x l:Str)
def vN(H:Hp)(f:lU):Rl->Prop
 | .held x=>xW T H f x
 | .taken x=>xN T H f x
 | .lies x l=>FW T H f x l
def vN.fix{T:Tx K mg}{H u:Hp}{f:lU}{r:Rl}(e:yu H u)(h:vN T H f r):vN T u f r:=by
 cases r with
 | held x=>obtain⟨c,z,y⟩:=h;show#[c,z.fix e,y.fix e]
 | taken x=>obtain⟨c,z,y⟩:=h;show#[c,z.fix e,y.fix e]
 | lies x l=>obtain⟨s,q,p,fs,o,z,y,n,j,i,⟨g,d⟩,a⟩:=h;show#[s,q,p,fs,o,z.fix e,y.fix e,n.fix e,j.fix e,i,#[g.fix e,d.fix e],a]
def VA(n:Nat):[n+1+1+1,n+1,n+1+1].Nodup:=by
 rw[pZ,pZ];refine#[?_,?_,by simp]<;>simp only[nV,uW,tH,wN]<;>lia
def Uu:Sp:=λy H Q _=>∃x l:lT,y=[.str x,.str l]/\qD T H/\∀f z,mF H z->H f=none->FW T z f x l->Q (.ref f) z
def Zqo:T.dG.O P w mg mG 2 (Uu T):=by
 refine T.dG.F.okM T.eS IN (λe H Q E h=>?_) λz A y s H e Q E d h=>?_
 ·obtain⟨x,l,rfl,_⟩:=h
  rfl
 ·obtain⟨x,l,rfl,j,q⟩:=h;refine ux.step (λz s=>∃f,z=[some (.str x),some<|.str l,some<|.ref f]/\mF H s/\xo T s f x) (qf (nk 2 IN<|Zv (WP T) d<|Zb (pv 0) Za) #[x,rfl,j,λf c y i u=>#[f,rfl,y,u]]) ?_;rintro z c ⟨f,rfl,y,a,Y,g⟩;refine ux.last #[rfl,(j.mono y).rule_lies,_,rfl,λu s r o U p=>q u s (y.trans r) (y.free o) ?_];obtain⟨i,N⟩:=p 0 "part" (.str x) _ rfl rfl rfl rfl;obtain⟨M,L⟩:=p 1 "lie" (.str l) _ rfl rfl rfl rfl;obtain⟨J,I⟩:=p 2 "stiff" (.ref f) _ rfl rfl rfl rfl;obtain⟨o,u,n,_⟩:=id g;have G:=Zf n i;have D:=Zf n M;have C:=Zf n J;refine#[_,_,_,f,a,U,N,L,I,?_,#[Y.mono r,CellAt.mono r g],?_]
  ·show VA _
  ·simp only[nV,uW,tH,not_or,wN];show#[C,G,D]
def wy(g:Gd)(x l:lT):lX (lT×lT):=if(g.lies.lookup x).getD ""=l then none else zA g x
def Zz9{H:Hp}{f gr dl ds dp dt:lU}{x l:lT}{es:lS (lT×lU)}{g:Gd}(R:FW T H f x l)(G:sK T H gr es g dl ds dp dt):uz P w K mg mG 5 H f gr (wy g x l):=by
 intro I j;obtain⟨h,d,a,fs,c',Y,U,N,M,nd,⟨E,D⟩,C⟩:=R
 replace Y:=Y.mono j
 replace U:=U.mono j
 replace N:=N.mono j
 replace M:=M.mono j
 replace E:=E.mono j
 replace D:=D.mono j
 have L:tM I (vB<|oZ Xx) [("stiff",a),("part",h),("lie",d)] ["lie","stiff","part"] [.str l,.ref fs,.str x]:=#[.cons #[rfl,d,rfl,N]<|.cons #[rfl,a,rfl,M]<|.cons #[rfl,h,rfl,U] .nil,by simp,by change(["stiff","part","lie"]:lS lT).Nodup;decide,nd]
 have B:∀b∈[a,h,d],∃o u,I b=some (Fz o)/\o.data=.cell (some u):=by
  intro b hb;simp only[nV,uW,tH,wN]at hb;rcases hb with rfl|rfl|rfl
  ·obtain⟨o,u,z,r,_⟩:=M;show#[o,u,z,r]
  ·obtain⟨o,u,z,r,_⟩:=U;show#[o,u,z,r]
  ·obtain⟨o,u,z,r,_⟩:=N;show#[o,u,z,r]
 refine#[Y.fn,λQ q=>?_];refine Cp (g :="ground") Y L (λ_ _ _ _=>rfl) rfl (by lk) (by left) (by left) rfl rfl rfl λd6 A mD s hr=>?_
 have J:=(G.mono j).soft λb o e n=>L.soft e n
 have RS:xo T (offL I [("stiff",a),("part",h),("lie",d)]) fs x:=by
  refine#[c',?_,?_]
  ·obtain⟨pm,B1,c,oc,vs,tt,Pn,z,r,z3,z4,z5,z6⟩:=E;refine#[pm,B1,c,oc,vs,tt,Pn,?_,?_,z3,z4,?_,z6]
   ·rw[Wd]
    ·show z
    ·intro y;obtain⟨o,u,p,Q⟩:=B _ y;rw[z]at p;cases p;cases Q
   ·rw[Wd]
    ·show r
    ·intro y;obtain⟨o,u,p,Q⟩:=B _ y;rw[r]at p;cases p
   ·rw[Wd]
    ·show z5
    ·intro y;obtain⟨o,u,p,Q⟩:=B _ y;rw[z5]at p;cases p
  ·obtain⟨o,u,z,r⟩:=D;show#[o,u,by rw[Wd C];show z,r]
 have AS:=ZX (P:=P) (w:=w) (mG:=mG) T RS J;obtain⟨y,hg⟩:=J.at_;refine rc (W5 (W0 hr (Bc (Xy hr) (Z2 (pv 0) rfl) (pv 3) Zg #[rfl,rfl,rfl,rfl])<|pv 1) rV<|MQ (k:=4) hr (pv 2)<|Zb (pv 0) Za) #[hg,T.dM,T.dN,rfl,dl,rfl,.inl #[_,.inl J.four.lies],_,X0.k (k:=Sum.inr x) J.four.lies,?_];rw[Fg];have e:(Option.map V.str<|g.lies.lookup x).getD (V.str "")=V.str ((g.lies.lookup x).getD ""):=by cases g.lies.lookup x<;>rfl
 rw[e];refine(.inl #[rfl,Yf (λi=>?_) λi=>?_])
 ·have i:(g.lies.lookup x).getD ""=l:=by simpa using i
  refine#[pO _,λH4 s4 s5=>q _ H4 s5 ?_];unfold wy;rw[mY i];show rfl
 ·have i:¬(g.lies.lookup x).getD ""=l:=by simpa using i
  obtain⟨y,run⟩:=AS _<|pO _;refine#[fs,rfl,y,y,run _ λv Q p c=>#[p,λH4 s4 s5=>q _ H4 s5 ?_]];unfold wy;rw[mV i];show c.mono s4
def rL:lS Zs->lS Rl
 | []=>[]
 | s ::z=>(if s.2.2.2 ="" then[.held s.1,.taken s.1]else[.held s.1,.taken s.1,.lies s.1 s.2.2.2])++rL z
theorem OP:∀(ss:lS Zs)(s:Zs),rL (ss++[s])=rL ss++(if s.2.2.2 ="" then[.held s.1,.taken s.1]else[.held s.1,.taken s.1,.lies s.1 s.2.2.2])
 | [],s=>by change _++[]=[]++_;rw[qj,GG]
 | r ::ss,s=>by
  change _++rL (ss++[s])=(_++rL ss)++_;rw[OP ss s,pC]
theorem Py:∀ss:lS Zs,(rL ss).length<=3 * ss.length
 | []=>nH _
 | s ::ss=>by
  have:=Py ss;change(_++rL ss).length<=_;rw[oj,pi];split<;>simp<;>lia
def za(z:lS lT)(g:Gd):Rl->lX (lT×lT)
 | .held x=>tZ z g x
 | .taken x=>Wm g x
 | .lies x l=>wy g x l
def YU{H:Hp}{f z dl ds u s:lU}{r:Rl}{y:lS (lT×lU)}{g:Gd}(R:vN T H f r)(G:sK T H z y g dl ds u s):uz P w K mg mG 5 H f z (za (y.map fst) g r):=by
 cases r with
 | held x=>show(Gg T R G).up (by lk)
 | taken x=>show(FV T R G).up (by lk)
 | lies x l=>show Zz9 T R G
def tw(H:Hp)(fs:lS lU)(z:lS Rl):Prop:=Paired (λf r=>vN T H f r) fs z
def tw.fix{T:Tx K mg}{H z:Hp}{fs:lS lU}{y:lS Rl}(e:yu H z)(h:tw T H fs y):tw T z fs y:=nO h λ_ _ r=>r.fix e
def tw.ans{T:Tx K mg}{H:Hp}{fs:lS lU}{z:lS Rl}{y dl ds u s:lU}{x:lS (lT×lU)}{g:Gd}(h:tw T H fs z)(G:sK T H y x g dl ds u s):Paired (λf a=>uz P w K mg mG 5 H f y a) fs (z.map<|za (x.map fst) g):=by
 unfold tw at h
 induction h with
 | nil=>show .nil
 | cons r _ q=>show .cons (YU T r G) q
inductive NG:Sp
 | mk (r) (ns:lS lT) (sig:lT) (ss:lS S4):vs=[.ref r]->qD T H->qc ns H r sig ss->ss.length<=100->(∀(l:lU)(fs:lS lU)(H':Hp),mF H H'->H l=none->H' l=some (.lst<|fs.map V.ref)->tw T H' fs (rL ss)->Q (.ref l) H')->NG vs H Q E
def YG:T.fK.O P w mg mG 3 (NG T):=by
 refine T.fK.F.okW GE ?_;rfl'
 ·obtain⟨r,ns,x,j,rfl,ht,⟨d,E7,A5⟩,u,q⟩:=h;intro X D;refine mP (nk 1 GE<|Zn Za) #[mQ,λl x s1 n1 e1=>?_];refine mP (Xh pG rfl (zW<|X6 (r:=rY K) sI (pv 0) (We Ze) Wu) (oq 2 GE) Zo)<|.inl #[mW<|s1.at E7,Hg _ _,λp x s2 n2 e2=>?_];rw[GA]at e2;have J:=A5.mono<|s1.trans s2;have E1:d.length=j.length:=A5.len;have npl:p≠l:=λy=>by rw[y,e1]at n2;cases n2
  let I22:IF:=λi z L=>(∃o2,z=[some (.ref r),some<|.ref l,o2])/\mF H L/\L p=some (.tup<|d.map V.ref)/\pc ns L d j/\∃fs,L l=some (.lst<|fs.map V.ref)/\tw T L fs (rL<|j.take i)
  refine#[mW e2,Lh (xs:=d.map V.ref) I22 #[#[none,rfl],s1.trans s2,e2,J,[],s2.at e1,.nil] ?_ ?_ ?_]
  ·rintro i z L _ ⟨_,_,e,_⟩;show mW e
  ·rintro i v z H3 hi ⟨⟨o2,rfl⟩,s3,e3,c,fs,I,P3⟩;rw[nR]at hi;obtain⟨t,U,rfl⟩:=nW.mp hi;obtain⟨st,hs,rt,_⟩:=c.get U;have D5:i<j.length:=(pr.mp hs).1;have Q4:fs.length<=300:=by
    have h1:=Py<|j.take i;have h2:=nJ P3;rw[oy]at h1;lia
   have tk:rL (j.take<|i+1)=rL (j.take i)++(if st.2.2.2 ="" then[.held st.1,.taken st.1]else[.held st.1,.taken st.1,.lies st.1 st.2.2.2]):=by rw[ou,hs];show OP _ _
   have put:∀{N g:Hp}{f:lU}{e:lS lU}{rs:lS Rl}{r':Rl},mF H N->N p=some (.tup<|d.map V.ref)->pc ns N d j->N l=some (.lst<|e.map V.ref)->tw T N e rs->mF N g->vN T g f r'->
     mF H (mM g l<|.lst<|e.map V.ref++[.ref f])/\mM g l (.lst<|e.map V.ref++[.ref f]) p=some (.tup<|d.map V.ref)/\pc ns (mM g l<|.lst<|e.map V.ref++[.ref f]) d j/\mM g l (.lst<|e.map V.ref++[.ref f]) l=some (.lst<|(e++[f]).map V.ref)/\tw T (mM g l<|.lst<|e.map V.ref++[.ref f]) (e++[f]) (rs++[r']):=by
    intro N g f e rs r' G a2 C a a5 u B;have nt:∀xs,g l≠some (.tup xs):=λxs y=>by rw[u.at a]at y;cases y
    have fx:yu g (mM g l<|.lst<|e.map V.ref++[.ref f]):=λb o y n=>(Zd λx=>by rw[x,u.at a]at y;cases y;show n _ rfl).trans y
    refine#[λb o y=>?_,?_,(C.mono u).off (u.at a),by rw[Zc,nw];rfl,pj (tw.fix fx<|a5.fix u.fix)<|.cons (B.fix fx) .nil]
    ·rw[Zd (Zf y n1)];show u.at<|G.at y
    ·rw[Zd npl];show u.at a2
   refine mP (Z1<|rB (pv 1)<|Zv (Fi T) hr<|Zb (nq (pv 2) Ze) Za) #[.inl #[rfl,_,mU I],.inr<|.inl #[mW rt,rfl,st.1,rfl,ht.mono s3,λf1 H4 s4 x r4=>#[s4.at I,by rw[mO];show Zp (by lia),?_]]];obtain⟨G,a2,C,a,a5⟩:=put s3 e3 c I P3 s4 (show vN T H4 f1 (.held st.1)from r4);have t5:qD T (mM H4 l<|.lst<|fs.map V.ref++[.ref f1]):=ht.mono G;generalize mM H4 l (.lst<|fs.map V.ref++[.ref f1])=H5 at G a2 C a a5 t5;obtain⟨C1,N0,rt5,_⟩:=C.get U;rw[hs]at N0;cases N0;refine mP (Z1<|rB (pv 1)<|Zv (EX T) hr<|Zb (nq (pv 2) Ze) Za) #[.inl #[rfl,_,mU a],.inr<|.inl #[mW rt5,rfl,st.1,rfl,t5,λf2 H6 s6 x r6=>#[s6.at a,by rw[mO];show Zp (by rw[oj];simp;lia),?_]]];obtain⟨u,B,b3,b4,b5⟩:=put G a2 C a a5 s6 (show vN T H6 f2 (.taken st.1)from r6);have t7:qD T (mM H6 l<|.lst<|(fs++[f1]).map V.ref++[.ref f2]):=ht.mono u;generalize mM H6 l (.lst<|(fs++[f1]).map V.ref++[.ref f2])=H7 at u B b3 b4 b5 t7;obtain⟨C1,N0,M,_⟩:=b3.get U;rw[hs]at N0;cases N0;rw[pC (rL<|j.take i)]at b5;refine mS (Zu (qU hr (nq (pv 2) Ze) Zg) Zo Zj)<|.inr<|.inl #[mW M,rfl,.inl #[rfl,Yf (λY=>?_) λY=>?_]]
   ·have Y:st.2.2.2≠ "":=λy=>by rw[y]at Y;simp at Y
    refine mS (Z1<|rB (pv 1)<|Zv (Zqo T) hr<|Zb (nq (pv 2) Ze)<|Zb (nq (pv 2) Ze) Za) #[.inl #[rfl,_,mU b4],.inr<|.inl #[mW M,rfl,.inr<|.inl #[mW M,rfl,st.1,st.2.2.2,rfl,t7,λf3 H8 x n8 r8=>#[x.at b4,by rw[mO];show Zp (by rw[oj,oj];simp;lia),?_]]]];obtain⟨c1,c2,c3,c4,c5⟩:=put u B b3 b4 b5 x (show vN T H8 f3 (.lies st.1 st.2.2.2)from r8);refine#[#[_,rfl],c1,c2,c3,_,c4,?_];rw[tk,mV Y];rw[pC (rL<|j.take i)]at c5;show c5
   ·have Y:st.2.2.2 ="":=JJ λy=>Y (by simp[y])
    refine#[#[_,rfl],u,B,b3,_,b4,?_];rw[tk,mY Y];show b5
  ·rintro z H3 ⟨⟨o2,rfl⟩,s3,_,_,fs,I,P3⟩;rw[mO,E1,pq]at P3;show mS (Zl<|pv 1)<|q l fs H3 s3 n1 I P3
def sk(ss:lS Zs):lS (lT×lT):=(ss.filter λs:Zs=>decide<|s.2.2.2≠("":lT)).map λs=>(s.1,s.2.2.2)
def Qb(ss:lS Zs):(sk ss).length<=ss.length:=by unfold sk;rw[mO];show xx ..
def yE(H:Hp)(tps:lS lU)(z:lS (lT×lT)):Prop:=Paired (λt (q:lT×lT)=>H t=some (.tup [.str q.1,.str q.2])) tps z
def yE.mono{H z:Hp}{tps:lS lU}{y:lS (lT×lT)}(e:mF H z)(h:yE H tps y):yE z tps y:=nO h λ_ _ r=>e.at r
inductive LA:Sp
 | mk (r) (ns:lS lT) (sig:lT) (ss:lS S4):vs=[.ref r]->qc ns H r sig ss->ss.length<=100->(∀(l:lU)(tps:lS lU)(H':Hp),mF H H'->H l=none->H' l=some (.lst<|tps.map V.ref)->yE H' tps (sk ss)->Q (.ref l) H')->LA vs H Q E
def VY:T.gw.O P w mg mG 1 LA:=by
 refine T.gw.F.okA ?_;rfl'
 ·obtain⟨r,z,y,d,rfl,⟨J,B,I⟩,x,q⟩:=h;intro X D;refine mS (Zl<|pH ["step"] (ph 1 [] rfl) (zW<|X6 (r:=rY K) sI (pv 0) (We Ze) Wu) (oK 0) (uH<|Ye (r:=uj K) (wC hr) (Wx (K:=K) rfl (pv 0) Ze) Zg<|Yq _) (Zi<|Zb (Wx (K:=K) rfl (pv 0) Ze)<|Zb (Wx (K:=K) rfl (pv 0) Ze) Za))<|.inl #[mW B,Hg _ _,λp H1 a z Y=>#[mW Y,λD U=>?_]];rw[GA]at Y;have T5:=I.mono a;have E1:J.length=d.length:=I.len;refine Ea (xs:=J.map V.ref) (λi n g=>(∃u,n=u.map V.ref/\yE g u (sk<|d.take i))/\g D=some (.lst n)/\mF H1 g) #[#[[],rfl,.nil],Zc,oU U] ?_ ?_ ?_
  ·rintro i n g _ ⟨_,_,l⟩;show mW<|l.at Y
  ·rintro k v n g G ⟨⟨u,rfl,j⟩,N,l⟩;rw[nR]at G;obtain⟨t,ht,rfl⟩:=nW.mp G;obtain⟨st,C,M,_⟩:=T5.get ht;have g8:u.length<=100:=by
    rw[nJ j];have:=Qb<|d.take k;rw[oy]at this;lia
   refine#[oR rfl,.inr<|.inl #[mW<|l.at M,rfl,.inl #[rfl,Yf (λr=>?_) λr=>?_]]]
   ·have r:st.2.2.2≠ "":=λz=>by rw[z]at r;simp at r
    refine(.inr<|.inl #[mW<|l.at M,rfl,.inr<|.inl #[mW<|l.at M,rfl,mQ,λx L p y e2=>#[p.at N,by rw[mO];show Zp (by lia),#[u++[x],by rw[nw];rfl,?_],Zc,λb o e=>?_]]])
    ·have x:∀n,L D≠some (.tup n):=λn z=>by rw[p.at N]at z;cases z
     have off:∀{c:lU}{n:lS V}{o:HO},L c=some (.tup n)->mM L D o c=some (.tup n):=λ{c n o} z=>by rw[Zd (show c≠D from λy=>x n (by rw[<-y];show z))];show z
     rw[ou,C];unfold sk;rw[wn,nw,show(some st).toList=[st]from rfl,rS,mY<|nZ r];show pj (nO (j.mono p) λ_ _ z=>off z)<|.cons (off e2) .nil
    ·rw[Zd (Zf e U)];show p.at<|l.at e
   ·have r:st.2.2.2 ="":=JJ λz=>r (by simp[z])
    refine#[#[u,rfl,?_],N,l];rw[ou,C];unfold sk;rw[wn,nw,show(some st).toList=[st]from rfl,rS,mV (by simp[r]),AH,uB,qj];show j
  ·rintro n z ⟨⟨u,rfl,j⟩,y,x⟩;rw[mO,E1,pq]at j;show q D u z (a.trans x) (a.free U) y j
theorem Hk:∀(ss:lS Zs)(y:lS (lT×lT)),zh (Zz V.str y) ((sk ss).map λq=>(Sum.inr q.1,V.str q.2))=Zz V.str (sX y ss)
 | [],_=>rfl
 | s ::ss,y=>by
  by_cases z:s.2.2.2 =""
  ·rw[show sk (s ::ss)=sk ss by unfold sk;rw[rS,mV<|by simp[z]],show sX y (s ::ss)=sX y ss by change sX (if s.2.2.2 ="" then y else _) ss=_;rw[mY z]];show Hk ss y
  ·rw[show sk (s ::ss)=(s.1,s.2.2.2) ::sk ss by unfold sk;rw[rS,mY<|by simp[z]];rfl,show sX y (s ::ss)=sX (pp y s.1 s.2.2.2) ss by change sX (if s.2.2.2 ="" then y else _) ss=_;rw[mV z]];change zh (Wk (Zz V.str y) (Sum.inr s.1)<|V.str s.2.2.2) _=_;rw[CF];show Hk ss _
def ZK{H:Hp}:∀{tps:lS lU}{z:lS (lT×lT)},yE H tps z->Paired (λt (q:nj×V)=>H t=some (.tup [kV q.1,q.2])) tps (z.map λq=>(Sum.inr q.1,V.str q.2)):=by
 intro tps z h
 induction h with
 | nil=>show .nil
 | cons r _ y=>show .cons r y
inductive Mw:Sp
 | mk (d r) (ls:lS (lT×lT)) (ns:lS lT) (sig:lT) (ss:lS S4):vs=[.ref d,.ref r]->H d=some (.dK<|Zz V.str ls)->(ls.map fst).Nodup->ls.length<=100->qc ns H r sig ss->ss.length<=100->(∀(d':lU)(H':Hp),mF H H'->H d'=none->H' d'=some (.dK<|Zz V.str<|sX ls ss)->Q (.ref d') H')->Mw vs H Q E
def UO:T.iF.O P w mg mG 2 Mw:=by
 refine T.iF.F.okW Jk ?_;rfl'
 ·obtain⟨d,r,p,c,a,y,rfl,hd,o,u,x,Y,q⟩:=h;intro X D;refine mP (nk 2 Jk<|Y5 (r:=EG) ML (by rfl) T.eW xP<|Zb (pv 0) Za) #[.inl hd,λn u j i g=>?_];refine mP (Z1<|Rx rfl (pv 2) (Zv (VY T) hr<|Zb (pv 1) Za) #[rfl,rfl,rfl,rfl]) #[n,rfl,.inl #[_,.inl g],r,c,a,y,rfl,x.mono j,Y,λl u d e N o U=>#[l,u,_,(sk y).map λq=>(Sum.inr q.1,V.str q.2),rfl,e.at g,o,?_,?_,?_]]
  ·show ZK U
  ·have:=Qb y;rw[mO,show(Zz V.str p).length=p.length from mO ..];show uI (Zp<|by lia)
  refine mS (Zl<|pv 2) (q n _ (λb o z=>?_) i<|by rw[Zc,Hk]);rw[Zd (Zf z i)];show e.at<|j.at z
def CQ:("":lT)∈sR/\("a":lT)∈sR/\("left":lT)∈sR:=by left
set_option genInjectivity false in
set_option genSizeOf false in
structure pA where
 dx:Addr
 ld:Addr
 sd:Addr
 nd:Addr
 pd:Addr
 es:List (Str×Addr)
 st:List (Str×Bool)
 ns:List Str
def uk(z:lS (lT×Nat)):lS (nj×V):=Zz (λn:Nat=>V.int (n:Int)) z
def yP(ad:pA)(z:lU):HO:=.ins T.aJ ad.dx [("tracks",.ref z),("lie_of",.ref ad.ld),("stiff_ones",.ref ad.sd),("length_of",.ref ad.nd),("path_of",.ref ad.pd)]
structure KX(H0:Hp)(ad:pA)(lw:List (Str×Str))(val:Str->List Zs):Prop where
 s0:H0 ad.sd=none
 sl:ad.sd≠ad.ld
 nok:ad.ns.length<=40/\∀n∈ad.ns,Xb n
 sok:(ad.st.map fst).Nodup/\∀p∈ad.st,p.1∈ad.ns/\p.2=true
 lok:(lw.map fst).Nodup/\∀p∈lw,p.1∈ad.ns/\p.2∈sR
 pok:∀t,(∀q∈val t,uO ad.ns q)/\((val t).map fst).Nodup
structure nM(T:Tx K mg)(H0 H:Hp)(F:Addr->Prop)(x tr:Addr)(ad:pA)(lw:List (Str×Str))(val:Str->List Zs)(ln:List (Str×Nat)):Prop where
 obj:H x=some (yP T ad tr)
 lies:H ad.ld=some (.dK<|Zz V.str lw)
 sti:H ad.sd=some (.dK<|Zz V.bl ad.st)
 lens:H ad.nd=some (.dK<|uk ln)
 pth:Yv H ad.pd ad.es val
 nm:ad.es.map fst=ln.map fst
 lnd:(ln.map fst).Nodup
 len:ln.length<=10
 vl:∀t,(val t).length<=100
 ok:∀p∈ln,Xb p.1
 fx:F x
 fn:F ad.nd
 fp:F ad.pd
 ne:ad.nd≠ad.pd
 nl:¬F ad.ld
 ns:¬F ad.sd
 ni:∀e∈ad.es,¬F e.2
 free:∀b,F b->H0 b=none
 same:mF H0 H
 live:∀b,F b->∃o,H b=some o/\∀xs,o≠.tup xs
 kx:KX H0 ad lw val
def nM.mono{F:lU->Prop}{val:lT->lS Zs}(e:mF H y)(h:nM U u H F x s ad r val q):nM U u y F x s ad r val q :=
 #[e.at h.obj,e.at h.lies,e.at h.sti,e.at h.lens,h.pth.mono e,h.nm,h.lnd,h.len,h.vl,h.ok,h.fx,h.fn,h.fp,h.ne,h.nl,h.ns,h.ni,h.free,h.same.trans e,(λb f=>let⟨o,z,n⟩:=h.live b f;#[o,e.at z,n]),h.kx]
inductive He:Sp
 | mk (H0 x dx tr ps js sg):vs=[.ref x,.ref tr]->H0 x=none->mF H0 H->H x=some (.ins T.aJ dx [])->Z4 T H0 tr ps js sg->Xe ps js sg->(∀(H':Hp)(F:lU->Prop)(ad:pA)(lw:lS (lT×lT)),ad.ns=ps.map snd->lw.length<=100->nM T H0 H' F x tr ad lw (λ_=>[]) []->Q .non H')->He vs H Q E
def QP:T.bS.O P w mg mG 5 (He T):=by
 refine T.bS.F.okA ?_;rfl'
 ·obtain⟨j,x,dx,d,ps,js,sg,rfl,h0,sm,hx,ht,B,q⟩:=h;intro X D;have up:∀{Y:Hp}{o:HO},mF j Y->mF j (mM Y x o):=λs b o e=>by rw[Zd (Zf e h0)];show s.at e
  refine mP (Wo (pv 0) (pv 1) rfl) #[hx,T.ae,T.aB,by simp,?_];refine mP (Wo (pv 0) (Zv (WU T) hr<|Zb (pv 1) Za) rfl) #[d,ps,js,sg,rfl,ht.mono<|up sm,B,λgs gnd hg hl ld Y s1 n1 U=>SF.mk (fs:=[("tracks",.ref d)]) (s1.at Zc) T.ae T.bY (by simp) ?_];have m1:mF j Y:=(up sm).trans s1;refine mP (Wo (pv 0) Ww rfl) λN H2 c M e2=>SF.mk (fs:=[("tracks",.ref d),("lie_of",.ref ld)]) (c.at Zc) T.ae T.bx (by simp) ?_
  have m2:mF j H2:=(up m1).trans c;refine mP (Wo (pv 0) Ww rfl) λL H3 i J e3=>SF.mk (fs:=[("tracks",.ref d),("lie_of",.ref ld),("stiff_ones",.ref N)]) (i.at Zc) T.ae T.bU (by simp) ?_
  have m3:mF j H3:=(up m2).trans i;refine mS (Wo (pv 0) Ww rfl) λpd H4 a g e4=>SF.mk (fs:=[("tracks",.ref d),("lie_of",.ref ld),("stiff_ones",.ref N),("length_of",.ref L)]) (a.at Zc) T.ae T.ao (by simp) ?_
  have m4:mF j H4:=(up m3).trans a;have I:∀{G:Hp}{b:lU}{o:HO},mM G x o b=none->b≠x:=λh z=>by rw[z,Zc]at h;cases h
  have y:∀{G G':Hp}{b:lU}{o u:HO},G b=some u->b≠x->mF (mM G x o) G'->G' b=some u:=λh n s=>s.at (by rw[Zd n];show h)
  have r:=I n1;have l:=I M;have C:=I J;have px:=I g;have l4:=y (y (y U r c) r i) r a;have d4:=y (y e2 l i) l a;have k4:=y e3 C a;refine q _ (λb=>b=x\/b=L\/b=pd) #[dx,ld,N,L,pd,[],[],ps.map snd] (gs.map λn=>(n,("left":lT))) rfl (by rw[mO];lia) #[Zc,by rw[Zd r];show l4,by rw[Zd l];show d4,by rw[Zd C];show k4,#[by rw[Zd px];show e4,λ_ z=>nomatch z],rfl,.nil,pJ _,λ_=>pJ _,(λ_ z=>nomatch z),.inl rfl,.inr<|.inl rfl,.inr<|.inr rfl,λz=>?_,?_,?_,(λ_ z=>nomatch z),?_,up m4,?_,#[(up m1).free M,?_,#[by rw[mO];show B.len,λn hn=>?_],#[.nil,(λ_ z=>nomatch z)],#[?_,λp hp=>?_],(λ_=>#[(λ_ z=>nomatch z),.nil])]]
  ·have z:L=pd:=z;rw[<-z,Zd C,e3]at g;cases g
  ·rintro(z|z|z)
   ·show r z
   ·have:=J;rw[<-z,Zd r,y U r c]at this;cases this
   ·have:=g;rw[<-z,Zd r,y (y U r c) r i]at this;cases this
  ·rintro(z|z|z)
   ·show l z
   ·have:=J;rw[<-z,Zd l,e2]at this;cases this
   ·have:=g;rw[<-z,Zd l,y e2 l i]at this;cases this
  ·rintro b (rfl|rfl|rfl)
   ·show h0
   ·show(up m2).free J
   ·show(up m3).free g
  ·rintro b (rfl|rfl|rfl)
   ·show#[_,Zc,λ_ z=>nomatch z]
   ·show#[.dK _,by rw[Zd C];show k4,λ_ z=>nomatch z]
   ·show#[.dK _,by rw[Zd px];show e4,λ_ z=>nomatch z]
  ·intro z;have z:N=ld:=z;rw[z,Zd r,U]at M;cases M
  ·obtain⟨p,hp,rfl⟩:=mZ.mp hn;show B.name p hp
  ·rw[oO,show((λx:lT×lT=>x.1) ∘ λn:lT=>(n,("left":lT)))=id from rfl,List.map_id];show gnd.1
  ·obtain⟨n,hn,rfl⟩:=mZ.mp hp;show#[mZ.mpr #[_,(hg n).mp hn,rfl],CQ.2.2]
def OK:lS V->Hp->VK->Prop:=λp H Q=>∃(z:lU)(y:lS Zh)(u:lS (Zh×Zh)) (s:lS (lT×lT×lT)),p=[.ref z]/\Z4 T H z y u s/\Xe y u s/\
 ∀(x:lU)(r:Hp)(F:lU->Prop)(ad:pA)(q:lS (lT×lT)),H x=none->ad.ns=y.map snd->q.length<=100->nM T H r F x z ad q (λ_=>[]) []->Q (.ref x) r
def Zw9:∀vs H Q,OK T vs H Q->
  ∀x z,H x=none->H z=none->z≠x->He T (.ref x ::(vs++[])) (mM (mM H z<|.own x) x<|.ins T.aJ z []) (λv s=>v=.non/\Q (.ref x) s) E0:=by
 rintro vs H Q ⟨r,p,n,l,rfl,j,i,q⟩ x z y u Y;refine#[H,x,z,r,p,n,l,rfl,y,λb o e=>?_,Zc,j,i,λg F ad d c a h=>#[rfl,q x g F ad d y c a h]];rw[Zd (Zf e y),Zd<|Zf e u];show e
inductive Oy:Sp
 | mk (H0) (F:lU->Prop) (x tr ad lw) (val:lT->lS Zs) (ln:lS (lT×Nat)):vs=[.ref x]->nM T H0 H F x tr ad lw val ln->(∀ss:lS lT,ss.Perm (ln.map fst)->PyProof.Rows.sortedS ss=true->pK H (.lst<|ss.map V.str) Q)->Oy vs H Q E
def KC{z:Type}{f:z->V}(l:lS (lT×z)):((Zz f l).map λp=>kV p.1)=(l.map fst).map V.str:=by
 rw[show Zz f l=l.map λq=>(Sum.inr q.1,f q.2)from rfl,oO,oO]
 rfl
def Xc:T.aF.O P w mg mG 1 (Oy T):=by
 refine T.aF.F.okA ?_;rfl'
 ·obtain⟨u,F,x,p,ad,o,val,y,rfl,z,q⟩:=h;intro X D;have n:=z.len;refine mS (Zl<|Yc (r:=BD) (Gh rfl) (by rfl) T.dh yn<|Zb (Z2 (pv 0) rfl) Za) #[z.obj,T.ae,T.ao,rfl,ad.pd,_,y.map fst,rfl,.inl z.pth.1,?_,by rw[mO];lia,q];have:=KC (f:=V.ref) ad.es;rw[z.nm]at this;show this
inductive II:Sp
 | mk (H0) (F:lU->Prop) (x tr ad lw) (val:lT->lS Zs) (ln:lS (lT×Nat)) (nm):vs=[.ref x,.str nm]->nM T H0 H F x tr ad lw val ln->nm∈ln.map fst->(∀H',mF H H'->Q .non H')->II vs H Q E
def Xt:T.ag.O P w mg mG 2 (II T):=by
 refine T.ag.F.okW Wy ?_;rfl'
 ·obtain⟨y,F,x,u,ad,r,val,p,nm,rfl,z,o,q⟩:=h;intro X D;refine mS (Zu (rK hr (pv 1)<|Yi (pv 0) T.ae T.ba (Xc T) hr.m T.aF.b .nil Z0) Zo Zj) #[z.obj,rfl,y,F,x,u,ad,r,val,p,rfl,z,λe n d l j i c g=>.inl #[.inl<|mU g,rfl,Wb _,?_]];rw[mY rfl,vM,nZ<|n.mem_iff.mpr o];show(q j i)
inductive xU:Sp
 | mk (H0) (F:lU->Prop) (x tr ad lw) (val:lT->lS Zs) (ln:lS (lT×Nat)) (v):vs=[.ref x,v]->nM T H0 H F x tr ad lw val ln->Ce v (λn=>n∈ln.map fst)->(∀H',mF H H'->E (.ref T.aD) none H')->xU vs H Q E
def Rs:Y6 P w K mg mG (nX P w) 2 T.ag.f T.ag.fd ["self","train"] (xU T):=by
 refine T.ag.F.okX Wy ?_;rfl'
 ·obtain⟨r,F,x,p,ad,o,val,j,v,rfl,y,u,q⟩:=h;intro X D;refine mS (Zu (rK hr (pv 1)<|Yi (pv 0) T.ae T.ba (Xc T) hr.m T.aF.b .nil Z0) Zo Zj) #[y.obj,rfl,r,F,x,p,ad,o,val,j,rfl,y,λi g n l e d c z=>.inl #[.inl<|mU z,u.1,Wb _,?_]];rw[mY rfl,u.2 i λn z=>g.mem_iff.mp z];show(mS (Xr T.iz ri rfl<|Zb Zg Za) #[mQ,q e d])
def SR(h:2<=k:=by lk):Y6 P w K mg mG (nX P w) k T.ag.f T.ag.fd ["self","train"] (xU T):=(Rs T).mono h
def nM.get{T:Tx K mg}{u H:Hp}{F:lU->Prop}{x s:lU}{ad:pA}{r:lS (lT×lT)}{val:lT->lS Zs}{z:lS (lT×Nat)}{nm:lT}(h:nM T u H F x s ad r val z)(y:nm∈z.map fst):∃l,(nm,l)∈ad.es/\Y7 (Zz V.ref ad.es) (Xa nm)=some (.ref l)/\Yj H l (val nm):=by
 rw[<-h.nm]at y;obtain⟨⟨n,l⟩,he,rfl⟩:=mZ.mp y;have q:(ad.es.map fst).Nodup:=by rw[h.nm];show h.lnd
 show#[l,he,vp q he,h.pth.2 _ he]
inductive Me:Sp
 | mk (H0) (F:lU->Prop) (x tr ad lw) (val:lT->lS Zs) (ln:lS (lT×Nat)) (nm):vs=[.ref x,.str nm]->nM T H0 H F x tr ad lw val ln->nm∈ln.map fst->(∀l H',mF H H'->H l=none->Yj H' l (val nm)->Q (.ref l) H')->Me vs H Q E
def Wn:T.ax.O P w mg mG 3 (Me T):=by
 refine T.ax.F.okW QM ?_;rfl'
 ·obtain⟨n,F,x,j,ad,i,val,g,nm,rfl,z,p,q⟩:=h;intro X D;refine mP (Z1<|Z5 (pv 0) T.ae T.aX (Xt T) hr.m T.ag.b .nil Z0<|Zb (pv 1) Za) #[z.obj,rfl,n,F,x,j,ad,i,val,g,nm,rfl,z,p,λo y=>?_];have u:=z.mono y;obtain⟨l,he,e,d,c,a⟩:=u.get p;show mS (Zl<|Y5 (r:=Av K) CK (by rfl) T.fT zt<|Zb (tS (Xy hr) (Z2 (pv 0) rfl) (pv 1) λ_ _=>rfl) Za) #[u.obj,T.ae,T.ao,rfl,by rw[<-e];show X0.k (k:=Xa nm) u.pth.1,.inl<|mU c,λl Y o U N=>q l Y (y.trans o) (y.free U) #[d,N,a.mono o]]
def ZP:Y6 P w K mg mG (nX P w) 3 T.ax.f T.ax.fd ["self","train"] (xU T):=by
 refine T.ax.F.okX QM ?_;rfl'
 ·obtain⟨y,F,x,u,ad,r,val,p,v,rfl,z,o,q⟩:=h;intro X D;show mP (Z1<|Z5 (pv 0) T.ae T.aX (SR T) hr T.ag.b .nil W3<|Zb (pv 1) Za) #[z.obj,rfl,y,F,x,u,ad,r,val,p,v,rfl,z,o,q]
def XM(h:3<=k:=by lk):Y6 P w K mg mG (nX P w) k T.ax.f T.ax.fd ["self","train"] (xU T):=(ZP T).mono h
inductive NJ:Sp
 | mk (H0) (F:lU->Prop) (x tr ad lw) (val:lT->lS Zs) (ln) (p:lT×Nat):vs=[.ref x,.str p.1]->nM T H0 H F x tr ad lw val ln->p∈ln->(∀H',mF H H'->Q (.int (p.2:Int)) H')->NJ vs H Q E
def YX:T.cy.O P w mg mG 3 (NJ T):=by
 refine T.cy.F.okA ?_;rfl'
 ·obtain⟨n,F,x,l,ad,j,val,y,p,rfl,z,u,q⟩:=h;intro X D;refine mP (Z1<|Z5 (pv 0) T.ae T.aX (Xt T) hr.m T.ag.b .nil Z0<|Zb (pv 1) Za) #[z.obj,rfl,n,F,x,l,ad,j,val,y,p.1,rfl,z,mZ.mpr #[p,u,rfl],λi r=>?_];have o:=z.mono r;have g:Y7 (uk y) (Xa p.1)=some (.int (p.2:Int)):=vp z.lnd u;show mS (Zl<|tS (Xy hr) (Z2 (pv 0) rfl) (pv 1) λ_ _=>rfl) #[o.obj,T.ae,T.bU,rfl,zp.mk (v:=.int (p.2:Int)) (by rw[<-g];show X0.k (k:=Xa p.1) o.lens)<|q i r]
inductive PU:Sp
 | mk (H0) (F:lU->Prop) (x tr dt) (ad:pA) (lw) (val:lT->lS Zs) (ln td):vs=[.ref x,.ref dt]->nM T H0 H F x tr ad lw val ln->H dt=some (.dK<|Zz V.bl td)->(∀g H',mF H H'->H g=none->sK T H' g ad.es #[lw,ad.st,val,td] ad.ld ad.sd ad.pd dt->Q (.ref g) H')->PU vs H Q E
def Ic:T.bh.O P w mg mG 3 (PU T):=by
 refine T.bh.F.okA ?_;rfl'
 ·obtain⟨z,F,x,o,u,ad,n,val,r,l,rfl,y,hd,q⟩:=h;intro X D;refine mS (Zl<|wc (KQ T) T.iI (Zgs T) hr.m rfl T.iV T.bR.b .nil Z0 (RX T)<|Zb (Z2 (pv 0) rfl)<|Zb (Z2 (pv 0) rfl)<|Zb (Z2 (pv 0) rfl)<|Zb (pv 1) Za) #[y.obj,T.ae,T.bY,rfl,y.obj,T.ae,T.bx,rfl,y.obj,T.ae,T.ao,rfl,ad.ld,ad.sd,ad.pd,u,rfl,λg o x n l=>q g o x n #[l,#[x.at y.lies,x.at y.sti,y.pth.mono x,x.at hd],y.vl,(λp z=>(y.kx.sok.2 p z).2),by rw[y.nm];show y.lnd,?_,λe he=>?_]]
  ·have:=oN List.length y.nm;rw[mO,mO]at this;have:=y.len;lia
  ·obtain⟨p,z,x⟩:=mZ.mp (show e.1∈r.map fst by rw[<-y.nm];show mZ.mpr #[e,he,rfl]);rw[<-x];show xS<|y.ok p z
inductive IK:Sp
 | mk (H0) (F:lU->Prop) (x tr ad lw) (val:lT->lS Zs) (ln:lS (lT×Nat)):vs=[.ref x]->nM T H0 H F x tr ad lw val ln->(∀ss D i9 H',ss.Perm (ln.map fst)->PyProof.Rows.sortedS ss=true->mF H H'->H D=none->Yv H' D i9 val->i9.map fst=ss->(∀e∈i9,H e.2=none)->Q (.ref D) H')->IK vs H Q E
def Wf:T.aY.O P w mg mG 4 (IK T):=by
 refine T.aY.F.okA ?_;rfl'
 ·obtain⟨H0,F,x,tr,ad,lw,val,ln,rfl,a,q⟩:=h;intro X D;have hl:=a.len;refine mS (Zl<|Y5 (r:=BZ) (Ee rfl) (by rfl) T.eW xP<|Zb (pH ["train","self"] (ph 1 [0] rfl) (Yl<|Yi (pv 0) T.ae T.ba (Xc T) hr.m T.aF.b .nil Z0) (oK 0) X5 (Zi<|Zb (pv 0)<|Zb (Z5 (pv 1) T.ae T.bP (Wn T) hr.m T.ax.b .nil Z0<|Zb (pv 0) Za) Za)) Za) #[a.obj,rfl,H0,F,x,tr,ad,lw,val,ln,rfl,a,λY M hs l z L y e1=>#[mU e1,λD hD=>Yy (xs:=Y.map V.str) (MM z z D Y val) #[oU hD,Zc,[],[],rfl,rfl,tX,by simp,.nil] ?_ ?_ ?_]]
  ·rintro i ys z _ b;show mU<|b.same.at e1
  ·rintro i v ys H2 hi b;rw[nR]at hi;obtain⟨n,B,rfl⟩:=nW.mp hi;obtain⟨o,p,rfl,g,U,N,j⟩:=b.all;have D5:i<Y.length:=(pr.mp B).1;have K4:Y.length<=10:=by rw[M.length_eq,mO];show hl
   have hel':p.length=i:=by
    have:=oN List.length g;rw[mO,oy]at this;lia
   have E1:o.length=i:=by
    have:=nJ j;rw[show(Zz V.ref p).length=p.length from mO ..]at this;lia
   have J5:=a.mono<|L.trans b.same;unfold qu;refine#[oR rfl,J5.obj,rfl,H0,F,x,tr,ad,lw,val,ln,n,rfl,J5,M.mem_iff.mp<|pE B,λJ u I G p4=>#[mQ,λt H5 e n5 e5=>#[e.at<|I.at b.at',?_,?_,Zc,o++[t],p++[(n,J)],?_,?_,?_,?_,?_]]]
   ·rw[mO];show Zp (by lia)
   ·intro c u z;rw[Zd (Zf z hD)];show e.at<|I.at<|b.same.at z
   ·rw[nw];rfl
   ·rw[nw,g,ou,B];rfl
   ·rw[nw,qG];refine#[U,by simp,?_];rintro c hc c' u rfl;simp at u;obtain⟨q5,T3,hb⟩:=mZ.mp hc;obtain⟨_,C,_⟩:=(N q5 T3).2.2;rw[hb,u,G]at C;cases C
   ·have d:=I.trans e;have offD:∀{c:lU}{l:lS Zs}{o':HO},c≠D->Yj H5 c l->Yj (mM H5 D o') c l:=λ{c l o'} nc z=>z.off nc λws y=>by rw[d.at b.at']at y;cases y
    intro q5 T3;rcases oA.mp T3 with z|z
    ·obtain⟨h0,u,C⟩:=N q5 z;show#[h0,u,offD u<|C.mono d]
    ·simp at z;subst z;have u:J≠D:=λy=>by rw[y,b.at']at G;cases G
     show#[b.same.free G,u,offD u<|p4.mono e]
   ·have d:=I.trans e;have u:∀{c:lU}{l:lS V},H5 c=some (.tup l)->c≠D:=λ{c l} z y=>by
     rw[y,d.at b.at']at z;cases z
    rw[show Zz V.ref (p++[(n,J)])=Zz V.ref p++[(Sum.inr n,V.ref J)]from nw ..];refine pj (nO j λt q z=>?_)<|.cons ?_ .nil
    ·have z5:=d.at z;rw[Zd (u z5)];show z5
    ·rw[Zd (u e5)];show e5
  ·rintro ys H2 b;obtain⟨o,p,rfl,g,U,N,j⟩:=b.all;rw[mO,pq]at g;refine#[D,o,Zz V.ref p,rfl,b.at',j,?_,λd y z u n=>q Y d p y M hs (L.trans<|b.same.trans z) (L.free<|b.same.free u) #[n,λe he=>(N e he).2.2.mono z] g λe he=>L.free (N e he).1];rw[show(Zz V.ref p).map fst=(p.map fst).map Sum.inr from by rw[show Zz V.ref p=p.map λq=>(Sum.inr q.1,V.ref q.2)from rfl,oO,oO];rfl,g];show OL wl<|M.nodup_iff.mpr a.lnd
def Zjp:T.bI.O P w mg mG 1 (wq T.cU "part"):=by
 refine T.bI.F.okA ?_;rfl'
 ·obtain⟨e,t,v,rfl,he,q⟩:=h;intro X D;show mS (DS (pv 0) (pv 1) rfl) #[e,T.cU,T.ay,t,rfl,he,T.gP.cls,T.gP.sa,T.gP.na,q]
def Up(h:1<=k:=by lk):T.bI.O P w mg mG k (wq T.cU "part"):=(Zjp T).mono h
inductive Qs:Sp
 | mk  :vs=[.non]->Q .non H->Qs  vs H Q E
def YH:T.aj.O P w mg mG 1 Qs:=by
 refine T.aj.F.okW EV ?_;rfl'
 ·obtain⟨rfl,q⟩:=h;intro X D;show mP (Zu (Ye zf (pv 0) rV<|Yq _) Zo Zj) #[rfl,mS QK q]
inductive HM:Sp
 | mk (t) (b:Bool) (p):vs=[.ref t]->H t=some (.tup [.str (if b then "held" else "taken"),.str p])->(∀dx H',mF H H'->H dx=none->H' dx=some (.xd [("part",.str p)])->E (.ref<|if b then T.aZ else T.cU) (some dx) H')->HM vs H Q E
def Zgn:Y6 P w K mg mG (nX P w) 3 T.aj.f T.aj.fd ["told"] (HM T):=by
 refine T.aj.F.okX EV ?_;rfl'
 ·obtain⟨t,b,p,rfl,z,q⟩:=h;intro X D;refine mP (Zu (Ye zf (pv 0) rV<|Yq _) Zo Zj) #[rfl,?_];cases b with
  | true=>show mP (Zu (W0 hr (nq (pv 0) Ze) Zg) Zo Zj) (.inr<|.inl #[mW z,Zm (j:=0) rfl,.inl #[rfl,oB.t (by left)<|mS (ye T.dP T.cF (W8 T) T.aR.b hr rfl T.ib<|Zb (nq (pv 0) Ze) Za)<|.inr<|.inl #[mW z,Zm (j:=1) rfl,_,rfl,λx y=>q x _ (oU y) y Zc]]])
  | false =>
   refine mP (Zu (W0 hr (nq (pv 0) Ze) Zg) Zo Zj)<|.inr<|.inl #[mW z,Zm (j:=0) rfl,.inl #[rfl,oB.f (by left) ?_]];show mP (Zu (W0 hr (nq (pv 0) Ze) Zg) Zo Zj)<|.inr<|.inl #[mW z,Zm (j:=0) rfl,.inl #[rfl,oB.t (by left)<|mS (ye T.gP T.cF (Up T) T.bI.b hr rfl T.jg<|Zb (nq (pv 0) Ze) Za)<|.inr<|.inl #[mW z,Zm (j:=1) rfl,_,rfl,λx y=>q x _ (oU y) y Zc]]]
def Uf(h:3<=k:=by lk):Y6 P w K mg mG (nX P w) k T.aj.f T.aj.fd ["told"] (HM T):=(Zgn T).mono h
def uv(F:lU->Prop)(H z:Hp):Prop:=∀b o,¬F b->H b=some o->z b=some o
def vt{F:lU->Prop}(s:mF H z):uv F H z:=λ_ _ _ e=>s.at e
def Yv.offC{val:lT->lS Zs}(h:Yv H d x val)(hd:d≠c)(he:∀e∈x,e.2≠c)(s:H c=some u)(r:∀xs,u≠.tup xs):Yv (mM H c o) d x val :=
 #[by rw[Zd hd];show h.1,λe z=>(h.2 e z).off (he e z) λxs y=>r xs<|oF<|s.symm.trans y]
def ZT{z:Type}{f:z->V}{l:lS (lT×z)}{a:z}(h:n∉l.map fst):Wk (Zz f l) (Xa n) (f a)=Zz f (l++[(n,a)]):=by
 unfold Wk;rw[Bi,show Y7 (Zz f l) (Xa n)=none from X1 h,show Zz f (l++[(n,a)])=Zz f l++[(Xa n,f a)]from nw ..]
 rfl
def MS{z:Type}{f:z->V}{l:lS (lT×z)}:wv (Zz f l) (Xa n)=Zz f (l.filter λp=>decide<|p.1≠n):=by
 unfold wv;rw[show Zz f l=l.map λq=>(Sum.inr q.1,f q.2)from rfl,List.filter_map];refine oN (List.map _)<|List.filter_congr λp _=>?_;change decide (¬Xa p.1=Xa n)=decide (p.1≠n);show Ii.mpr<|not_congr #[λy=>wl _ _ y,λy=>by rw[y]]
section
variable {U:Tx K mg} {F:lU->Prop} {val:lT->lS Zs}
def nM.xn(h:nM U y H F x u ad s val r):x≠ad.nd:=λz=>by have:=h.obj;rw[z,h.lens]at this;cases this
def nM.xp(h:nM U y H F x u ad s val r):x≠ad.pd:=λz=>by have:=h.obj;rw[z,h.pth.1]at this;cases this
def nM.neF(h:nM U y H F x u ad s val r)(z:H b=none):¬F b:=λf=>by
 obtain⟨o,e,_⟩:=h.live b f;rw[z]at e;cases e
def nM.move{l:lT->lS Zs}(s:nM U I H F x c ad G val E)(a:mF H j)(hd:H d=none)(h:Yv j d i l)(D:i.map fst=ln'.map fst)(Y:∀e∈i,H e.2=none)(C:(ln'.map fst).Nodup)(B:ln'.length<=10)(Q:∀p∈ln',Xb p.1)(A:∀t,(l t).length<=100)(N:∀t,(∀q∈l t,uO ad.ns q)/\((l t).map fst).Nodup) :
  nM U I (mM (mM j x<|yP U #[ad.dx,ad.ld,ad.sd,ad.nd,d,i,ad.st,ad.ns] c) ad.nd<|.dK<|uk ln') (λb=>F b\/b=d) x c #[ad.dx,ad.ld,ad.sd,ad.nd,d,i,ad.st,ad.ns] G l ln':=by
 have g:=s.mono a;have fr:∀{b:lU},H b=none->b≠x/\b≠ad.nd:=λ{b} z=>#[λy=>s.neF z<|y ▸ s.fx,λy=>s.neF z<|y ▸ s.fn]
 have L:∀{b:lU},¬F b->b≠x/\b≠ad.nd:=λ{b} z=>#[λy=>z<|y ▸ s.fx,λy=>z<|y ▸ s.fn]
 have r:∀{b:lU}{o u v:HO},(b≠x/\b≠ad.nd)->j b=some o->mM (mM j x u) ad.nd v b=some o:=λz e=>by rw[Zd z.2,Zd z.1];show e
 have M:mM j x (yP U #[ad.dx,ad.ld,ad.sd,ad.nd,d,i,ad.st,ad.ns] c) ad.nd=some (.dK<|uk E):=by rw[Zd s.xn.symm];show g.lens
 refine#[by rw[Zd s.xn,Zc],r (L s.nl) g.lies,r (L s.ns) g.sti,Zc,(h.offC (fr hd).1 (λe he=>(fr<|Y e he).1) g.obj (λ_ z=>nomatch z)).offC (fr hd).2 (λe he=>(fr<|Y e he).2) M (λ_ z=>nomatch z),D,C,B,A,Q,.inl s.fx,.inl s.fn,.inr rfl,(fr hd).2.symm,?_,?_,λe he=>?_,?_,λb o e=>?_,λb f=>?_,#[s.kx.s0,s.kx.sl,s.kx.nok,s.kx.sok,s.kx.lok,N]]
 ·rintro(z|z)
  ·show s.nl z
  ·have:=s.lies;rw[show ad.ld=d from z,hd]at this;cases this
 ·rintro(z|z)
  ·show s.ns z
  ·have:=s.sti;rw[show ad.sd=d from z,hd]at this;cases this
 ·rintro(z|z)
  ·show s.neF (Y e he) z
  ·obtain⟨ts,J,_⟩:=h.2 e he;rw[z,h.1]at J;cases J
 ·rintro b (z|z)
  ·show s.free b z
  ·rw[z];show s.same.free hd
 ·have n:=s.free x s.fx;have J:=s.free ad.nd s.fn;show r #[Zf e n,Zf e J]<|a.at<|s.same.at e
 ·by_cases y:b=ad.nd
  ·show#[.dK _,by rw[y];show Zc,λ_ z=>nomatch z]
  rw[Zd y]
  by_cases J:b=x
  ·show#[.ins _ _ _,by rw[J];show Zc,λ_ z=>nomatch z]
  rw[Zd J];rcases f with f|f
  ·obtain⟨o,e,n⟩:=s.live b f;show#[o,a.at e,n]
  ·show#[.dK _,by rw[f];show h.1,λ_ z=>nomatch z]
def Zyx(h:H c=some o):mM H c o=H:=by
 funext b
 by_cases z:b=c
 ·rw[z,Zc,h]
 ·rw[Zd z]
def nM.leave{nm:lT}(r:nM U d H F x c ad a val h):nM U d (mM (mM H ad.pd<|.dK<|Zz V.ref<|ad.es.filter λp=>decide<|p.1≠nm) ad.nd<|.dK<|uk<|h.filter λp=>decide<|p.1≠nm) F x c #[ad.dx,ad.ld,ad.sd,ad.nd,ad.pd,ad.es.filter λp=>decide<|p.1≠nm,ad.st,ad.ns] a val (h.filter λp=>decide<|p.1≠nm):=by
 have j:∀{b:lU},¬F b->b≠ad.pd/\b≠ad.nd:=λ{b} y=>#[λu=>y<|u ▸ r.fp,λu=>y<|u ▸ r.fn]
 have q:∀{b:lU}{o s v:HO},(b≠ad.pd/\b≠ad.nd)->H b=some o->mM (mM H ad.pd s) ad.nd v b=some o:=λy e=>by rw[Zd y.2,Zd y.1];show e
 have sub:∀e∈ad.es.filter (λp=>decide<|p.1≠nm),e∈ad.es:=λe he=>(tY.mp he).1
 have i:∀{z:Type}(l:lS (lT×z)),(l.filter λp=>decide<|p.1≠nm).map fst=(l.map fst).filter λn=>decide (n≠nm):=λl=>by rw[List.filter_map];rfl
 refine#[q #[r.xp,r.xn] r.obj,q (j r.nl) r.lies,q (j r.ns) r.sti,Zc,#[by rw[Zd r.ne.symm,Zc],λe he=>?_],by rw[i,i,r.nm],by rw[i];show r.lnd.filter _,oo (xx _ _) r.len,r.vl,λp g=>r.ok p (tY.mp g).1,r.fx,r.fn,r.fp,r.ne,r.nl,r.ns,λe he=>r.ni e<|sub e he,r.free,λb o e=>q #[Zf e<|r.free _ r.fp,Zf e<|r.free _ r.fn]<|r.same.at e,λb f=>?_,#[r.kx.s0,r.kx.sl,r.kx.nok,r.kx.sok,r.kx.lok,r.kx.pok]]
 ·have n:=j<|r.ni e<|sub e he;refine((r.pth.2 e<|sub e he).off n.1 λg y=>?_).off n.2 λg y=>?_
  ·rw[r.pth.1]at y;cases y
  ·rw[Zd r.ne,r.lens]at y;cases y
 ·by_cases u:b=ad.nd
  ·show#[.dK _,by rw[u];show Zc,λ_ y=>nomatch y]
  rw[Zd u]
  by_cases g:b=ad.pd
  ·show#[.dK _,by rw[g];show Zc,λ_ y=>nomatch y]
  rw[Zd g];show r.live b f
end
def pA.on(H:Hp)(ad z:pA):Prop:=z.ld=ad.ld/\z.sd=ad.sd/\z.st=ad.st/\z.ns=ad.ns/\∀e∈z.es,e∈ad.es\/H e.2=none
inductive QL:Sp
 | mk (H0) (F:lU->Prop) (x tr) (ad:pA) (lw) (val:lT->lS Zs) (ln:lS (lT×Nat)) (nm):vs=[.ref x,.str nm]->nM T H0 H F x tr ad lw val ln->nm∈ln.map fst->(∀H' z7,uv F H H'->nM T H0 H' F x tr z7 lw val (ln.filter λp=>decide<|p.1≠nm)->ad.on H z7->Q .non H')->QL vs H Q E
def Zke:T.cI.O P w mg mG 3 (QL T):=by
 refine T.cI.F.okA ?_;rfl'
 ·obtain⟨d,F,x,c,ad,a,val,r,nm,rfl,y,j,q⟩:=h;intro X D;refine mP (Z1<|Z5 (pv 0) T.ae T.aX (Xt T) hr.m T.ag.b .nil Z0<|Zb (pv 1) Za) #[y.obj,rfl,d,F,x,c,ad,a,val,r,nm,rfl,y,j,λz g=>?_];have u:=y.mono g;obtain⟨l,he,Y,_⟩:=u.get j;refine mP (Z1<|Oe (Z2 (pv 0) rfl) (pv 1) #[rfl,rfl,rfl,rfl]) #[u.obj,T.ae,T.ao,rfl,ad.pd,rfl,.inl #[_,.inl u.pth.1],_,Xa nm,.ref l,u.pth.1,rfl,Y,?_];obtain⟨p,U,rfl⟩:=mZ.mp j;have i:Y7 (uk r) (Xa p.1)=some (.int (p.2:Int)):=vp y.lnd U;refine mS (Z1<|Oe (Z2 (pv 0) rfl) (pv 1) #[rfl,rfl,rfl,rfl]) #[by rw[Zd y.xp];show u.obj,T.ae,T.bU,rfl,ad.nd,rfl,.inl #[_,.inl (by rw[Zd y.ne];show u.lens)],_,Xa p.1,_,by rw[Zd y.ne];show u.lens,rfl,i,?_];rw[show uk r=Zz (λn:Nat=>V.int (n:Int)) r from rfl,MS,MS];show q _ _ (λb o n e=>by rw[Zd (λz=>n (by rw[z];show y.fn)),Zd (λz=>n (by rw[z];show y.fp))];show g.at e) u.leave #[rfl,rfl,rfl,rfl,λe he=>.inl (tY.mp he).1]
def WL{X:Cx}:sJ (nX X.prog X.w) X E0:=λ_ _ _ _ _ _ _ h=>by
 obtain⟨_,_,_,_,_,_,_,_,_,_,h⟩:=h;show h.elim
def XE(H:Hp)(c:lU)(x:lX lT)(E:XK):Prop:=(x=none->∀z,mF H z->E (.ref c) none z)/\∀p,x=some p->∀y z,mF H z->H y=none->z y=some (.xd [("part",.str p)])->E (.ref c) (some y) z
def XE.mono(s:mF H u)(h:XE H c r E):XE u c r E:=#[λz y x=>h.1 z y<|s.trans x,λp z q y x n e=>h.2 p z q y (s.trans x) (s.free n) e]
def CI(z:lS (lT×Nat))(val:lT->lS Zs)(g:lT):Prop:=∃t∈z.map fst,g∈(val t).map fst
def UP(H:Hp)(val:lT->lS Zs)(y:lS (lT×Nat))(r:lS (lT×Bool))(ps:lS Zh)(x:lS (lT×lT×lT))(v u s:V)(c:lU)(z:lX lT):Prop :=
 (c=T.aw/\z=none/\(xq K H v false\/∃nm:lT,v=.str nm/\Xb nm/\nm∈y.map fst))\/
 ∃nm:lT,v=.str nm/\Xb nm/\nm∉y.map fst/\((c=T.bz/\z=none/\Ce s (λn=>(("gate",n):Zh)∈ps))\/
  ∃g:lT,s=.str g/\(("gate",g):Zh)∈ps/\((c=T.bz/\z=none/\((g,"a"):Zh)∉x.map snd)\/((g,"a"):Zh)∈x.map snd/\((c=T.bv/\z=none/\PY u)\/
   ∃n:Nat,u=.int (n:Int)/\1<=n/\n<=4/\z=some g/\((c=T.aZ/\CI y val g)\/(c=T.cU/\¬CI y val g/\(r.lookup g).getD false=true)))))
structure Yig(val:Str->List Zs)(ln:List (Str×Nat))(td:List (Str×Bool))(ps:List Zh)(sg:List (Str×Str×Str))(nm g:Str)(n:Nat):Prop where
 nv:Xb nm
 new:nm∉ln.map fst
 gt:(("gate",g):Zh)∈ps
 sg:((g,"a"):Zh)∈sg.map snd
 n1:1<=n
 n4:n<=4
 nh:¬CI ln val g
 nt:(td.lookup g).getD false=false
 ll:ln.length<10
def Hz(s:Xe ps r y)(h:((nm,e)∈qS y/\Xb nm/\e∈y.map snd)\/(nm =""/\e∉y.map snd)):decide (V.str nm=V.str "")=!decide (e∈y.map snd):=by
 rcases h with⟨_,x,u⟩|⟨x,u⟩
 ·rw[nZ u,ow λz=>xS x<|V.str.inj z];rfl
 ·rw[x,nZ rfl,ow u];rfl
inductive GC:Sp
 | mk (H0) (F:lU->Prop) (x tr dt) (ad:pA) (lw) (val:lT->lS Zs) (ln:lS (lT×Nat)) (td ps js sg nm g) (n:Nat):vs=[.ref x,.str nm,.int (n:Int),.str g,.ref dt]->nM T H0 H F x tr ad lw val ln->ad.ns=ps.map snd->Z4 T H0 tr ps js sg->Xe ps js sg->qD T H0->H dt=some (.dK<|Zz V.bl td)->¬F dt->Yig val ln td ps sg nm g n->(∀(H':Hp)(F':lU->Prop)(z7:pA),(∀b,F b->F' b)->(∀b,F' b->F b\/H b=none)->uv F H H'->nM T H0 H' F' x tr z7 lw (qt (ln.map fst) val nm [(g,"","a","")]) (ln++[(nm,n)])->ad.on H z7->Q .non H')->GC vs H Q E
def uw(z:lS (lT×Nat))(g:Gd)(x:lT):lS (lX<|lT×lT):=[tZ (z.map fst) g x,Wm g x]
def Zli:T.aG.O P w mg mG 7 (GC T):=by
 refine T.aG.F.okW Ol ?_;rfl'
 ·obtain⟨H0,F,x,tr,dt,ad,lw,val,j,td,ps,js,sg,nm,g,n,rfl,u,E6,U,yv,tb,hd,o,r,q⟩:=h;intro X D;have F1:nm∉ad.es.map fst:=by rw[u.nm];show r.new
  obtain⟨o,l,i,e,B,kp,ks,kj,ko,h1,_⟩:=(U.mono u.same).ex;refine mP (Z1<|Zv (Cu T) hr<|Zb (pv 1)<|Zb (Z2 (pv 0) rfl) Za) #[u.obj,T.ae,T.ao,rfl,nm,ad.pd,_,rfl,r.nv,u.pth.1,X1 F1,λo s1=>?_];have u0:=u.mono s1;refine mP (Z1<|Zv (Mc T) hr<|Zb (Z2 (pv 0) rfl)<|Zb (pv 3) Za) #[u0.obj,T.ae,T.aB,rfl,tr,g,ps,js,sg,rfl,U.mono u0.same,yv,r.gt,λo s2=>?_];have J5:=u0.mono s2;refine mP (Zu (W0 hr (Z5 (Z2 (pv 0) rfl) T.ak T.aK (Yx T) hr.m T.ar.b .nil Z0<|Zb (Zi<|Zb (pv 3)<|Zb Zg Za) Za) Zg) Zo Zj) #[J5.obj,T.ae,T.aB,rfl,(s1.trans s2).at h1,rfl,mQ,λt l s3 i o=>#[tr,t,(g,"a"),ps,js,sg,rfl,U.mono<|J5.same.trans s3,yv,o,λe hs=>.inl #[rfl,?_]]];rw[Hz yv hs,nZ r.sg];refine ?_;have D6:=J5.mono s3;have v6:=s1.trans<|s2.trans s3;refine mP (Z1<|Zv (KG T) hr<|Zb (pv 2) Za) #[n,rfl,r.n1,r.n4,?_];have L:=tb.mono D6.same;refine mP (Z1<|Zv (YH T) hr<|Zb (Zv (Fo T) hr<|Zb (Zn<|Zb (Zv (Fi T) hr<|Zb (pv 3) Za)<|Zb (Zv (EX T) hr<|Zb (pv 3) Za) Za)<|Zb (Z5 (pv 0) T.ae T.cT (Ic T) hr.m T.bh.b .nil Z0<|Zb (pv 4) Za) Za) Za) #[g,rfl,L,λo H4 J n4 R4=>#[g,rfl,L.mono J,λl H5 I n5 R5=>#[mQ,λi H6 N n6 e=>#[(J.trans<|I.trans N).at D6.obj,rfl,H0,F,x,tr,dt,ad,lw,val,j,td,rfl,D6.mono<|J.trans<|I.trans N,(v6.trans<|J.trans<|I.trans N).at hd,λB H7 s7 n7 G7=>#[i,B,[o,l],uw j #[lw,[],val,td] g,rfl,mU<|s7.at e,?_,λv8 H8 s8 wd=>?_]]]]]
  ·unfold uw;rw[<-u.nm];show .cons ((Gg T (R4.mono<|I.trans<|N.trans s7) G7).up (by lk))<|.cons ((FV T (R5.mono<|N.trans s7) G7).up (by lk)) .nil
  have hn:uE (uw j #[lw,[],val,td] g)=none:=GW λa c=>by
   unfold uw at c;rcases nV.mp c with rfl|c
   ·show mV r.nh
   ·rw[pQ.mp c];unfold Wm;rw[mV (by rw[show((#[lw,[],val,td]:Gd).told.lookup g).getD false=false from r.nt];decide)]
  rw[hn]at wd;obtain rfl:v8=.non:=wd;refine#[rfl,?_];have d:=J.trans<|I.trans<|N.trans<|s7.trans s8;have Y:=D6.mono d;have G:ad.es.length<=100:=by
   have:=oN List.length u.nm;rw[mO,mO]at this;have:=u.len;lia
  refine mP (Wo (pv 0) (Xv (Nz T) hr.m rfl T.cx.m T.cx.F.kp T.cx.b .nil WL<|Zb (Z2 (pv 0) rfl)<|Zb (pv 1)<|Zb (Zn<|Zb (Zi<|Zb (pv 3)<|Zb Zg<|Zb Zg<|Zb Zg Za) Za) Za) rfl) #[Y.obj,T.ae,T.ao,rfl,mQ,λo H9 C n9 l=>#[mQ,λi HA M nA e=>#[ad.pd,i,nm,ad.es,val,[(g,"","a","")],rfl,Y.pth.mono<|C.trans M,by rw[u.nm];show u.lnd,G,u.vl,?_,#[[o],.inl e,.cons (M.at l) .nil],by simp,λd' B i9 gt sB nB pB eB AE fB=>#[(C.trans<|M.trans sB).at Y.obj,T.ae,T.ao,(by change 5<1000;decide),?_],λdx B y sB nB fb eB=>?_]]]
  ·intro t U;rw[u.nm]at U;obtain⟨p,hp,rfl⟩:=mZ.mp U;show xS<|u.ok p hp
  ·have l:=v6.trans<|d.trans<|C.trans<|M.trans sB;have i:∀e∈i9,H e.2=none:=λe he=>(v6.trans<|d.trans<|C.trans M).free (fB e he)
   have A8:H d'=none:=(v6.trans<|d.trans<|C.trans M).free nB;have B5:i9.map fst=j.map fst++[nm]:=by
    rw[eB,u.nm];show mV r.new
   have hL:qt (ad.es.map fst) val nm [(g,"","a","")]=qt (j.map fst) val nm [(g,"","a","")]:=by rw[u.nm]
   rw[hL]at pB;have xn:=u.xn;refine mS (ua (Xy hr) (Z2 (pv 0) rfl) (pv 1) (pv 2) rfl) #[Zc,T.ae,T.bU,rfl,qR.k (k:=Xa nm) (by rw[Zd xn.symm];show l.at u.lens) ?_,?_]
   ·rw[show(uk j).length=j.length from mO ..];show Zp (by have:=u.len;lia)
   rw[show uk j=Zz (λn:Nat=>V.int (n:Int)) j from rfl,ZT (f:=λn:Nat=>V.int (n:Int)) r.new];refine q _ (λb=>F b\/b=d') #[ad.dx,ad.ld,ad.sd,ad.nd,d',i9,ad.st,ad.ns] (λ_ z=>.inl z) (λb z=>z.imp id λy=>by rw[y];show A8) (λb o nb e=>?_) (u.move (ln':=j++[(nm,n)]) l A8 pB (by rw[B5,nw];rfl) i ?_ (by rw[oj];show r.ll) (λp hp=>?_) (λt=>?_) λt=>#[λq' B=>?_,?_]) #[rfl,rfl,rfl,rfl,λe he=>.inr<|i e he]
   ·rw[Zd (λz=>nb (by rw[z];show u.fn)),Zd (λz=>nb (by rw[z];show u.fx))];show l.at e
   ·rw[nw,qG];show#[u.lnd,List.pairwise_singleton _ _,λa c b hb e=>by rw[e,pQ.mp hb]at c;show r.new c]
   ·rcases oA.mp hp with z|z
    ·show u.ok p z
    ·rw[pQ.mp z];show r.nv
   ·unfold qt;split
    ·rw[mV r.new];simp
    ·show u.vl t
   ·unfold qt at B;split at B
    ·rw[mV r.new]at B;rw[pQ.mp B];show#[by rw[E6];show mZ.mpr #[_,r.gt,rfl],CQ.1,CQ.2.1,CQ.1]
    ·show(u.kx.pok t).1 q' B
   ·unfold qt;split
    ·rw[mV r.new];simp
    ·show(u.kx.pok t).2
  ·obtain⟨i,o,hb,_⟩:=fb;have l:i=0:=by
    have:=(pr.mp o).1;simp at this;show this
   subst l;have:y=g:=by simpa using o.symm
   rw[this]at hb;rcases hb with z|⟨t,e,B⟩
   ·simp at z
   ·show r.nh #[t,by rw[<-u.nm];show e,B]
def Zom(h:7<=k:=by lk):T.aG.O P w mg mG k (GC T):=(Zli T).mono h
inductive Fq:Sp
 | mk (H0) (F:lU->Prop) (x tr dt ad lw) (val:lT->lS Zs) (ln td ps js sg v vl vg c po):vs=[.ref x,v,vl,vg,.ref dt]->nM T H0 H F x tr ad lw val ln->Z4 T H0 tr ps js sg->Xe ps js sg->qD T H0->H dt=some (.dK<|Zz V.bl td)->UP T H val ln td ps sg v vl vg c po->XE H c po E->Fq vs H Q E
def VU:Y6 P w K mg mG (nX P w) 7 T.aG.f T.aG.fd ["self","train","length","gate","seen"] (Fq T):=by
 refine T.aG.F.okX Ol ?_;rfl'
 ·obtain⟨H0,F,x,M,dt,ad,u,val,p,r,ps,js,sg,v,vl,vg,c,l,rfl,z,L,J,tb,hd,y,q⟩:=h;intro X D;obtain⟨l,e,c,so,si,kp,ks,kj,ko,h1,_⟩:=(L.mono z.same).ex;rcases y with⟨rfl,rfl,j⟩|⟨nm,rfl,F1,z9,y⟩
  ·refine mP (Z1<|Xv (Zlp T) hr rfl T.aM.m T.aM.F.kp T.aM.b .nil W3<|Zb (pv 1)<|Zb (Z2 (pv 0) rfl) Za) #[z.obj,T.ae,T.ao,rfl,v,ad.pd,_,rfl,z.pth.1,j.imp_right λ⟨nm,e,y1,c⟩=>#[nm,e,y1,?_],q.1 rfl];obtain⟨l,_,hv,_⟩:=z.get c;rw[hv];rfl
  have i:nm∉ad.es.map fst:=by rw[z.nm];show z9
  refine mP (Z1<|Zv (Cu T) hr<|Zb (pv 1)<|Zb (Z2 (pv 0) rfl) Za) #[z.obj,T.ae,T.ao,rfl,nm,ad.pd,_,rfl,F1,z.pth.1,X1 i,λl I=>?_];have d:=z.mono I;rcases y with⟨rfl,rfl,a⟩|⟨g,rfl,hg,y⟩
  ·show mP (Z1<|Xv (UI T) hr rfl T.aN.m T.aN.F.kp T.aN.b .nil W3<|Zb (Z2 (pv 0) rfl)<|Zb (pv 3) Za) #[d.obj,T.ae,T.aB,rfl,M,vg,ps,js,sg,rfl,L.mono d.same,J,a,(q.mono I).1 rfl]
  refine mP (Z1<|Zv (Mc T) hr<|Zb (Z2 (pv 0) rfl)<|Zb (pv 3) Za) #[d.obj,T.ae,T.aB,rfl,M,g,ps,js,sg,rfl,L.mono d.same,J,hg,λl s2=>?_];have J5:=d.mono s2;refine mP (Zu (W0 hr (Z5 (Z2 (pv 0) rfl) T.ak T.aK (Yx T) hr.m T.ar.b .nil Z0<|Zb (Zi<|Zb (pv 3)<|Zb Zg Za) Za) Zg) Zo Zj) #[J5.obj,T.ae,T.aB,rfl,(I.trans s2).at h1,rfl,mQ,λt H3 s3 e l=>#[M,t,(g,"a"),ps,js,sg,rfl,L.mono<|J5.same.trans s3,J,l,λc hs=>.inl #[rfl,?_]]];rw[Hz J hs];have G:=I.trans<|s2.trans s3;rcases y with⟨rfl,rfl,a⟩|⟨hsg,y⟩
  ·rw[ow a];show(mS (Xr T.ic ri rfl<|Zb Zg Za) #[mQ,(q.mono G).1 rfl H3 (pO _)])
  rw[nZ hsg];refine ?_;have D6:=J5.mono s3;rcases y with⟨rfl,rfl,a⟩|⟨n,rfl,y1,y4,rfl,y⟩
  ·show mP (Z1<|Xv (Rc T) hr rfl T.aE.m T.aE.F.kp T.aE.b .nil W3<|Zb (pv 2) Za) #[vl,rfl,a,(q.mono G).1 rfl H3 (pO _)]
  refine mP (Z1<|Zv (KG T) hr<|Zb (pv 2) Za) #[n,rfl,y1,y4,?_];have Y:=tb.mono D6.same;refine mP (Z1<|Xv (Uf T) hr rfl T.aj.m T.aj.F.kp T.aj.b .nil W3<|Zb (Zv (Fo T) hr<|Zb (Zn<|Zb (Zv (Fi T) hr<|Zb (pv 3) Za)<|Zb (Zv (EX T) hr<|Zb (pv 3) Za) Za)<|Zb (Z5 (pv 0) T.ae T.cT (Ic T) hr.m T.bh.b .nil Z0<|Zb (pv 4) Za) Za) Za) #[g,rfl,Y,λl H4 U n4 R4=>#[g,rfl,Y.mono U,λe H5 N n5 R5=>#[mQ,λc H6 o n6 e6=>#[(U.trans<|N.trans o).at D6.obj,rfl,H0,F,x,M,dt,ad,u,val,p,r,rfl,D6.mono<|U.trans<|N.trans o,(G.trans<|U.trans<|N.trans o).at hd,λgr H7 C n7 G7=>#[c,gr,[l,e],uw p #[u,[],val,r] g,rfl,mU<|C.at e6,?_,λv8 H8 s8 B=>?_]]]]]
  ·unfold uw;rw[<-z.nm];show .cons ((Gg T (R4.mono<|N.trans<|o.trans C) G7).up (by lk))<|.cons ((FV T (R5.mono<|o.trans C) G7).up (by lk)) .nil
  have P8:=G.trans<|U.trans<|N.trans<|o.trans<|C.trans s8;rcases y with⟨rfl,hh⟩|⟨rfl,hh,htk⟩
  ·have j:uE (uw p #[u,[],val,r] g)=some (("held":lT),g):=by
    unfold uw;rw[show tZ (p.map fst) #[u,[],val,r] g=some (("held":lT),g)from mY hh]
    rfl
   rw[j]at B;obtain⟨t8,rfl,e8⟩:=B;show#[t8,true,g,rfl,e8,λdx H9 s9 n9 e9=>(q.mono P8).2 g rfl dx H9 s9 n9 e9]
  ·have j:uE (uw p #[u,[],val,r] g)=some (("taken":lT),g):=by
    unfold uw;rw[show tZ (p.map fst) #[u,[],val,r] g=none from mV hh,show Wm #[u,[],val,r] g=some (("taken":lT),g)from mY htk]
    rfl
   rw[j]at B;obtain⟨t8,rfl,e8⟩:=B;show#[t8,false,g,rfl,e8,λdx H9 s9 n9 e9=>(q.mono P8).2 g rfl dx H9 s9 n9 e9]
def VE(h:7<=k:=by lk):Y6 P w K mg mG (nX P w) k T.aG.f T.aG.fd ["self","train","length","gate","seen"] (Fq T):=(VU T).mono h
def HU(H:Hp)(z:lX lU):Prop:=∀d,z=some d->∃fs,H d=some (.xd fs)
def ud(K:lY):lS V->Hp->VK->Prop:=λy H Q=>∃e C z c b,y=[.ref e,c]/\H e=some (qB e C z)/\HU H z/\XG K C/\((∃n,c=.ty n/\kitOne K (.ref C) (.type n)=some b)\/(∃a,c=.ref a/\kitOne K (.ref C) (.ref a)=some b))/\Q (.bl b) H
def Wi:Xd X (.builtin "isinstance") (ud X.K):=by
 rintro y s z H x u Q I r ⟨e,C,o,c,b,p,he,n,g,k,q⟩;cases o with
 | none=>show So y s z H x u Q I r #[e,C,c,b,p,he,g,k,q]
 | some d =>
  obtain⟨fs,hd⟩:=n d rfl;show RE y s z H x u Q I r #[e,C,d,fs,c,b,p,he,hd,g,k.imp id .inl,q]
def tJ(r:Nat):lU:=if r=0 then T.aw else if r=1 then T.aD else if r=2 then T.aQ else if r=3 then T.aL else if r=4 then T.aZ else T.aT
def om(r:Nat):Nat:=if r=0 then 0 else if r<5 then r+2 else r+3
def uo(r:Nat):lT:=if r=0 then "name" else if r=1 then "train" else if r=2 then "way" else if r=3 then "turn" else if r=4 then "held" else "stiff"
structure K9(T:Tx K mg)(C:Addr)(b:Nat->Bool):Prop where
 g:XG K C
 i0:kB K C T.aw (b 0)
 i1:kB K C T.bz (b 1)
 i2:kB K C T.bv (b 2)
 i3:kB K C T.aD (b 3)
 i4:kB K C T.aQ (b 4)
 i5:kB K C T.aL (b 5)
 i6:kB K C T.aZ (b 6)
 i7:kB K C T.cU (b 7)
 i8:kB K C T.aT (b 8)
 v:kitOne K (.ref C) (.type "ValueError")=some true
theorem k9:∀r,r<6->K9 T (tJ T r) (λi=>decide<|i=om r)/\PySem.W.kitCls K (.ref<|tJ T r) (.ref T.ay)=some true
 | 0,_=>#[#[T.iC,T.kr,T.kt,T.ku,T.ky,T.kz,T.kE,T.kG,T.kH,T.kI,T.v0],T.c0]
 | 1,_=>#[#[T.iD,T.jh,T.jz,T.jR,T.ji,T.iE,T.kJ,T.jV,T.jW,T.kK,T.v1],T.c1]
 | 2,_=>#[#[T.iP,T.kL,T.kM,T.kN,T.kO,T.kP,T.kQ,T.kR,T.kS,T.kT,T.v2],T.c2]
 | 3,_=>#[#[T.iQ,T.kU,T.kW,T.kX,T.kY,T.kZ,T.lh,T.li,T.lq,T.lu,T.v3],T.c3]
 | 4,_=>#[#[T.jC,T.lv,T.ly,T.lz,T.lB,T.lC,T.lD,T.lE,T.lF,T.lG,T.v4],T.c4]
 | 5,_=>#[#[T.jd,T.lH,T.lI,T.lJ,T.lK,T.lL,T.lM,T.lN,T.lO,T.lP,T.v5],T.c5]
 | _+6,h=>absurd h (by lia)
def um(H:Hp)(z:lX lU):lX lT->Prop
 | none=>z=none
 | some p=>∃d,z=some d/\H d=some (.xd [("part",.str p)])
def um.mono(e:mF H y)(h:um H x z):um y x z:=by
 cases z with
 | none=>show h
 | some p=>obtain⟨d,u,s⟩:=h;show#[d,u,e.at s]
def um.xd(h:um H z y):HU H z:=λd e=>by
 cases y with
 | none=>rw[show z=none from h]at e;cases e
 | some p=>obtain⟨s,x,u⟩:=h;rw[x]at e;cases e;show#[_,u]
def By(H:Hp)(r:Nat)(y:lX lT)(Q:VK):Prop:=∀z,mF H z->(y=none->Q (.str<|uo r) z)/\∀p,y=some p->∀t,z t=some (.tup [.str (uo r),.str p])->Q (.ref t) z
inductive GB(P:mh)(w:md)(mG:ma)(T:Tx K mg):Sp
 | mk (f):vs=[.ref f]->vV H f->HS P w K mg mG 9 f H (λ_ H'=>Q (.str "done") H') (λcls dx H'=>∃r po,r<6/\cls=.ref (tJ T r)/\um H' dx po/\(po.isSome=decide (4<=r))/\By H' r po Q)->GB P w mG T vs H Q E
def X8:T.am.O P w mg mG 10 (GB P w mG T):=by
 refine T.am.F.okW Xo ?_;rfl'
 ·obtain⟨f,rfl,hf,hd⟩:=h;intro X D;let I:IC:=λ_ j=>Q (.str "done") j
  refine qh I (WS.tryAs (x :="YardError") (n :="e") (B:=T.ay) (i:=1) (Ex:=λcls l j=>∃r u,r<6/\cls=.ref (tJ T r)/\um j l u/\(u.isSome=decide (4<=r))/\By j r u Q) (R:=λC l j=>∃r u,r<6/\C=tJ T r/\um j l u/\(u.isSome=decide (4<=r))/\By j r u Q) T.ik (Zt5 T.lQ rfl) rfl Xo.nd rfl rfl rfl rfl rfl rfl rfl ?_ ?_ ?_) ?_
  ·rintro cls l j ⟨r,u,o,rfl,z⟩;show#[_,rfl,(k9 T r o).2,r,u,o,rfl,z]
  ·intro x q z;show mS (Z1<|Yab (k:=9) hr (pv 0) z) #[f,rfl,hf,hd]
  ·rintro z C l σ' J hl ⟨r,u,o,rfl,N,M,q⟩ hn;obtain⟨k,x⟩:=k9 T r o;obtain⟨x,p,i,o3,o4,rfl⟩:=RN hl;have he:(mM J z<|qB z (tJ T r) l) z=some (qB z (tJ T r) l):=Zc;have G:mF J (mM J z<|qB z (tJ T r) l):=oU hn;generalize mM J z (qB z (tJ T r) l)=H2 at he G;have L:=(N.mono G).xd;have xm:∀{H3:Hp},mF H2 H3->HU H3 l:=λs d e=>let⟨fs,y⟩:=L d e;#[fs,s.at y]
   refine mP (nk 2 Xo<|Zn<|Zb (Yc (r:=ud K) Wi (by rfl) T.af rR<|Zb (pv 1)<|Zb (X4 (v:=.ref T.aw) (by rfl) T.iK rfl) Za)<|Zb (Yc (r:=ud K) Wi (by rfl) T.af rR<|Zb (pv 1)<|Zb (X4 (v:=.ref T.bz) (by rfl) T.iX rfl) Za)<|Zb (Yc (r:=ud K) Wi (by rfl) T.af rR<|Zb (pv 1)<|Zb (X4 (v:=.ref T.bv) (by rfl) T.iL rfl) Za)<|Zb (Yc (r:=ud K) Wi (by rfl) T.af rR<|Zb (pv 1)<|Zb (X4 (v:=.ref T.aD) (by rfl) T.iM rfl) Za) Za) #[z,_,_,_,_,rfl,he,L,k.g,.inr<|pz rfl k.i0,z,_,_,_,_,rfl,he,L,k.g,.inr<|pz rfl k.i1,z,_,_,_,_,rfl,he,L,k.g,.inr<|pz rfl k.i2,z,_,_,_,_,rfl,he,L,k.g,.inr<|pz rfl k.i3,mQ,λx H3 s3 p e3=>?_];have g:=s3.at he;have c:=xm s3;refine mP (nk 2 Xo<|Zq Wl (pv 2)<|Zn<|Zb (Yc (r:=ud K) Wi (by rfl) T.af rR<|Zb (pv 1)<|Zb (X4 (v:=.ref T.aQ) (by rfl) T.iY rfl) Za)<|Zb (Yc (r:=ud K) Wi (by rfl) T.af rR<|Zb (pv 1)<|Zb (X4 (v:=.ref T.aL) (by rfl) T.iZ rfl) Za)<|Zb (Yc (r:=ud K) Wi (by rfl) T.af rR<|Zb (pv 1)<|Zb (X4 (v:=.ref T.aZ) (by rfl) T.ib rfl) Za)<|Zb (Yc (r:=ud K) Wi (by rfl) T.af rR<|Zb (pv 1)<|Zb (X4 (v:=.ref T.cU) (by rfl) T.jg rfl) Za) Za) #[z,_,_,_,_,rfl,g,c,k.g,.inr<|pz rfl k.i4,z,_,_,_,_,rfl,g,c,k.g,.inr<|pz rfl k.i5,z,_,_,_,_,rfl,g,c,k.g,.inr<|pz rfl k.i6,z,_,_,_,_,rfl,g,c,k.g,.inr<|pz rfl k.i7,mQ,λp i s4 n4 x=>.inr<|.inr #[s4.at e3,x,mQ,λl5 H5 s5 n5 e5=>?_]];have B4:=s3.trans<|s4.trans s5;refine mP (nk 2 Xo<|Zq Wl (pv 2)<|Zn<|Zb (Yc (r:=ud K) Wi (by rfl) T.af rR<|Zb (pv 1)<|Zb (X4 (v:=.ref T.aT) (by rfl) T.iN rfl) Za) Za) #[z,_,_,_,_,rfl,B4.at he,xm B4,k.g,.inr<|pz rfl k.i8,mQ,λp i s6 n6 x=>.inr<|.inr #[s6.at e5,x,mQ,λl7 H7 s7 n7 e7=>?_]];refine mP (nk 3 Xo<|Zn<|Zb Zg<|Zb Zg<|Zb Zg<|Zb Zg<|Zb Zg<|Zb Zg<|Zb Zg<|Zb Zg<|Zb Zg Za) #[mQ,λx p s8 i e8=>?_];have a:=B4.trans<|s6.trans<|s7.trans s8;have Y:=s8.at e7;let bs:lS Bool:=[decide (0=om r),decide<|1=om r,decide<|2=om r,decide<|3=om r,decide<|4=om r,decide<|5=om r,decide<|6=om r,decide<|7=om r,decide<|8=om r]
   have at9:∀r,r<6->[decide (0=om r),decide<|1=om r,decide<|2=om r,decide<|3=om r,decide<|4=om r,decide<|5=om r,decide<|6=om r,decide<|7=om r,decide<|8=om r][om r]? =some true/\(∀i,i<om r->[decide (0=om r),decide<|1=om r,decide<|2=om r,decide<|3=om r,decide<|4=om r,decide<|5=om r,decide<|6=om r,decide<|7=om r,decide<|8=om r][i]? ≠some true)/\[decide (0=om r),decide<|1=om r,decide<|2=om r,decide<|3=om r,decide<|4=om r,decide<|5=om r,decide<|6=om r,decide<|7=om r,decide<|8=om r].countP (λx=>x ==true)=1/\[V.str "name",V.str "end",V.str "many",V.str "train",V.str "way",V.str "turn",V.str "held",V.str "taken",V.str "stiff"][om r]? =some (.str<|uo r)/\rX (uo r) 1=uo r/\(uo r).length<=10/\om r<10/\uM (.str<|uo r) [.str "held",.str "taken",.str "stiff"]=decide (4<=r):=by left
   obtain⟨a1,a2,a3,a4,a5,x,p,a8⟩:=at9 r o;refine mP (nk 4 Xo<|Zq QC (nq (pv 3)<|AD yO PySem.F.slot_list_index PySem.F.type_list_index Zxc (pv 2)<|Zb qM Za)<|Y5 Qf (by rfl) T.fV wT<|Zb (xt (yZ Pm (AD yO PySem.F.slot_list_count PySem.F.type_list_count XO (pv 2)<|Zb qM Za) Ze<|Yq _)<|xX<|Yc (r:=ud K) Wi (by rfl) T.af rR<|Zb (pv 1)<|Zb (Pu (v:=.ty "ValueError") (by rfl) T.gO Tb rfl) Za) Za) #[.inl #[rfl,_,mU Y],l7,bs,true,om r,rfl,rfl,Y,by lia,a1,a2,.inl #[mU e8,Zm a4,.inl #[rfl,_,mU Y],l7,bs,true,rfl,rfl,Y,?_]];rw[a3];refine#[rfl,#[z,_,_,_,_,rfl,a.at he,xm a,k.g,.inl #[_,rfl,k.v],.inr #[_,rfl,uo r,1,rfl,rfl,by lia,by lia,?_]]];rw[a5];refine mP (Zu (Ye (r:=Aq K false) Qi (pv 4) (Zi<|Zb Zg<|Zb Zg<|Zb Zg Za)<|by with_unfolding_all rfl) Zo Zj) #[mQ,λp H9 s9 i x=>#[.inr<|mW x,rfl,rfl,?_]];rw[show(if false=true then !uM (V.str<|uo r) [V.str "held",V.str "taken",V.str "stiff"]else uM (V.str<|uo r) [V.str "held",V.str "taken",V.str "stiff"])=decide (4<=r)from a8,<-M];have U:=G.trans<|a.trans s9;cases u with
   | none=>show(mS (Zl<|pv 4)<|(q H9 U).1 rfl)
   | some p =>
    obtain⟨d,rfl,x⟩:=N.mono U;obtain⟨fI,i⟩:∃fI,XI K (tJ T r) T.ay fI "part":=by
     have:=show 4<=r from by simpa using M
     obtain rfl|rfl:r=4\/r=5:=by lia
     ·show#[_,T.dP]
     ·show#[_,T.eQ]
    show(mS (Zl<|Zi<|Zb (pv 4)<|Zb (VV (pv 1) rfl) Za) #[z,_,_,d,_,_,rfl,(a.trans s9).at he,x,i.cls,i.xa,i.na,rfl,mQ,λt HA sA nA eA=>(q HA<|U.trans sA).2 p rfl t eA])
  ·intro z j y;show mS (Zl Zg) y
structure Bk(H H' H3:Hp):Prop where
 old:∀b u o,H b=some u->H' b=some o->H3 b=some o
 soft:∀b o,H' b=some o->(∀ob,o≠Fz ob)->H3 b=some o
def Yj.soft(y:∀b o,H b=some o->(∀x,o≠Fz x)->u b=some o)(h:Yj H l ss):Yj u l ss :=
 let⟨s,q,p⟩:=h;#[s,y _ _ q (λ_ z=>nomatch z),nO p λ_ _ r=>y _ _ r λ_ z=>nomatch z]
def nM.back{F:lU->Prop}{val:lT->lS Zs}(h:nM U u H F x l ad j val i)(b:Bk G H r)(s:mF u G):nM U u r (λa=>F a/\∃o,H a=some o/\r a=some o) x l ad j val i :=
 have k:=b.soft _ _ h.obj λ_ z=>nomatch z
 have q:=b.soft _ _ h.lens λ_ z=>nomatch z
 have p:=b.soft _ _ h.pth.1 λ_ z=>nomatch z
 #[k,b.soft _ _ h.lies (λ_ z=>nomatch z),b.soft _ _ h.sti (λ_ z=>nomatch z),q,#[p,λe he=>(h.pth.2 e he).soft b.soft],h.nm,h.lnd,h.len,h.vl,h.ok,#[h.fx,_,h.obj,k],#[h.fn,_,h.lens,q],#[h.fp,_,h.pth.1,p],h.ne,λz=>h.nl z.1,λz=>h.ns z.1,λe he z=>h.ni e he z.1,λa z=>h.free a z.1,λa o e=>b.old a o o (s.at e)<|h.same.at e,(λa z=>let⟨o,g,d⟩:=z.2;#[o,d,λc e=>let⟨Y,y,n⟩:=h.live a z.1;n c (oF (y.symm.trans g) ▸ e)]),h.kx]
def WE.imp(h:WE X e z H Q)(i:∀v y,Q v y->x v y):WE X e z H x:=#[λp s I=>ng (h.run p s I) λu o ⟨v,y,J,r,q⟩=>#[v,y,J,r,i _ _ q]]
def yC(cl:Clo H Pt D ql la lb Y h)
  (hp:Paired (λx v=>∃(i:Nat)(a:lU),X.N[i]? =some x/\z[i]? =some (some v)/\X.env.scope.names.lookup x=some .cell/\X.env.cells.lookup x=some a/\Y.names.lookup x=some .free/\h.lookup x=some a) fs fvs) (u8:∀p∈h,p.1∈fs) (one:(h.map fst).Nodup) (apart:(h.map snd).Nodup)
  (hb:∀(pm d6 B1:lV),bindArgs (PySem.W.kla_fn "<lambda>" ql la lb Y h pm d6 B1) #[[],[]]=pure []) (A4:∀y∈Y.names,y.2=.free->y.1∈fs) (hnc:∀y∈Y.names,y.2≠.cell)
  (hk:Y.kind=.function) (hco:Y.isCoroutine=false) (M:Y.isGenerator=false)
  (body:∀(G:Hp)(c:lU)(A:mi)(mD:lS Env)(s:lW)(E:XK),mF H G->(∀r J dx U,r<6->J.isSome=decide (4<=r)->mF G U->um U dx J->By H r J Q->E (.ref<|tJ T r) dx U)->Y8 8 (A.deeper<|PySem.W.envX ql Y #v[s] D (.ref c) h)->WE (AJ P w K mg mG fs ql Y D (.ref c) h A mD s G E) lb (fvs.map some) G (λ_ U=>∀d,Bk H U d->Q (.str "done") d)) :
  ES X z H (λC Q2=>GB P w mG T [.ref D] C Q2 E0) Q:=by
 intro C s2 cs;have nn:∀p∈h,H p.2=none:=λp B=>by
  obtain⟨j,hj,e⟩:=wp<|u8 p B;obtain⟨v,_,i,a,h1,h2,h3,h4,h5,N⟩:=oQ hp (i:=j) (a:=p.1) (by rw[oE hj,e]);rw[Wj one B]at N;cases N;show(cs i _ _ _ h1 h2 h3 h4).1
 have L:tM C Y h fs fvs:=#[nO hp λx v ⟨i,a,h1,h2,h3,h4,h5,N⟩=>#[h5,a,N,(cs i _ _ _ h1 h2 h3 h4).2],u8,one,apart]
 have sG:mF H (offL C h):=λb o e=>by
  rw[Wd]
  ·show s2.at e
  ·intro u;obtain⟨p,B,rfl⟩:=mZ.mp u;rw[nn p B]at e;cases e
 refine#[D,rfl,(cl.mono s2).fn,Ut (cl.mono s2) L hb A4 hnc hk hco M λc A mD s hr=>WE.imp (body _ c A mD s _ sG (λr J dx U N l s' hd ht A7 I _=>#[r,J,N,rfl,hd.mono I,l,λH5 s5=>?_]) hr) λv U q A7 I _ d _ g soft=>q d #[λb n o u y=>g b n o u<|I.at y,λb o y l=>soft b o (I.at y) l]];have Q7:=sG.trans<|s'.trans<|I.trans s5;have s3:∀{d:Hp},(∀b n o,H b=some n->H5 b=some o->d b=some o)->mF H d:=λg b n u=>g b n n u<|Q7.at u
 show#[λu d _ g _=>(ht d<|s3 g).1 u,λp u t e d _ g soft=>(ht d<|s3 g).2 p u t (soft _ _ e λ_ u=>nomatch u)]
def Zjj:T.dD.O P w mg mG 4 (Hi T "points"):=by
 refine T.dD.F.okA ?_;rfl'
 ·obtain⟨x,g,z,y,u,rfl,r,p,o,q⟩:=h;intro X D;refine mS (Zu (rK hr (pv 1)<|Zv (NX T) hr<|Zb (pv 0) Za) Zo Zj) #[x,z,y,u,rfl,r,p,λd c n a l j i Y e=>.inl #[.inl<|mU e,rfl,Wb _,?_]];rw[mY rfl,vM,nZ<|(n g).mpr o];show(q j i)
section
variable {U:Tx K mg} {F:lU->Prop} {val:lT->lS Zs}
def nM.stl(z:nM U s H F x r ad q val o):ad.st.length<=40:=by
 have:=Bb z.kx.sok.1 λn y=>by
  obtain⟨p,u,rfl⟩:=mZ.mp y;show(z.kx.sok.2 p u).1
 rw[mO]at this;show oo this z.kx.nok.1
def nM.lwl(z:nM U r H F x q ad y val o):y.length<=40:=by
 have:=Bb z.kx.lok.1 λn u=>by
  obtain⟨p,s,rfl⟩:=mZ.mp u;show(z.kx.lok.2 p s).1
 rw[mO]at this;show oo this z.kx.nok.1
def nM.stiffen(s:nM U p H F x l ad j val i){n0:lT}(h:n0∈ad.ns):nM U p (mM H ad.sd<|.dK<|Zz V.bl<|pp ad.st n0 true) F x l #[ad.dx,ad.ld,ad.sd,ad.nd,ad.pd,ad.es,pp ad.st n0 true,ad.ns] j val i:=by
 have q:∀{b:lU},F b->b≠ad.sd:=λf z=>s.ns<|z ▸ f
 have r:∀{b:lU}{o u:HO},b≠ad.sd->H b=some o->mM H ad.sd u b=some o:=λn e=>by rw[Zd n];show e
 refine#[r (q s.fx) s.obj,r s.kx.sl.symm s.lies,Zc,r (q s.fn) s.lens,s.pth.offC (q s.fp) (λe he z=>?_) s.sti (λ_ z=>nomatch z),s.nm,s.lnd,s.len,s.vl,s.ok,s.fx,s.fn,s.fp,s.ne,s.nl,s.ns,s.ni,s.free,λb o e=>r (Zf e s.kx.s0)<|s.same.at e,λb f=>?_,#[s.kx.s0,s.kx.sl,s.kx.nok,#[EF s.kx.sok.1,EI s.kx.sok.2 #[h,rfl]],s.kx.lok,s.kx.pok]]
 ·obtain⟨g,y,_⟩:=s.pth.2 e he;rw[z,s.sti]at y;cases y
 ·obtain⟨o,e,n⟩:=s.live b f;show#[o,r (q f) e,n]
end
inductive Oh:Sp
 | mk (H0) (F:lU->Prop) (x tr) (ad:pA) (lw) (val:lT->lS Zs) (ln ps js sg nm):vs=[.ref x,.str nm]->nM T H0 H F x tr ad lw val ln->Z4 T H0 tr ps js sg->Xe ps js sg->(("points",nm):Zh)∈ps->ad.ns=ps.map snd->(∀(H':Hp)(z7:pA),(∀b o,b≠ad.sd->H b=some o->H' b=some o)->z7.sd=ad.sd->z7.ns=ad.ns->nM T H0 H' F x tr z7 lw val ln->Q .non H')->Oh vs H Q E
def Zg4:T.cw.O P w mg mG 5 (Oh T):=by
 refine T.cw.F.okA ?_;rfl'
 ·obtain⟨z,F,x,l,ad,o,val,n,j,i,g,nm,rfl,y,d,c,r,a,q⟩:=h;intro X D;refine mP (Z1<|Zv (Zjj T) hr<|Zb (Z2 (pv 0) rfl)<|Zb (pv 1) Za) #[y.obj,T.ae,T.aB,rfl,l,nm,j,i,g,rfl,d.mono y.same,c,r,λz p=>?_];have u:=y.mono p;have Y:=y.stl;refine mS (ua (Xy hr) (Z2 (pv 0) rfl) (pv 1) qM rfl) #[u.obj,T.ae,T.bx,rfl,qR.k (k:=Xa nm) u.sti ?_,?_]
  ·rw[show(Zz V.bl ad.st).length=ad.st.length from mO ..];show Zp (by lia)
  have e:Wk (Zz V.bl ad.st) (Xa nm) (V.bl true)=Zz V.bl (pp ad.st nm true):=CF _ _ _;rw[e];refine q _ _ (λb o n z=>by rw[Zd n];show p.at z) ?_ ?_ (u.stiffen (n0:=nm) (by rw[a];show mZ.mpr #[_,r,rfl]))<;>rfl
inductive QD:Sp
 | mk (H0) (F:lU->Prop) (x tr ad lw) (val:lT->lS Zs) (ln):vs=[.ref x]->nM T H0 H F x tr ad lw val ln->pK H (.dK<|Zz V.str lw) Q->QD vs H Q E
def Dy:T.bo.O P w mg mG 1 (QD T):=by
 refine T.bo.F.okA ?_;rfl'
 ·obtain⟨y,F,x,u,ad,p,val,o,rfl,z,q⟩:=h;intro X D;show mS (Zl<|Y5 (r:=EG) ML (by rfl) T.eW xP<|Zb (Z2 (pv 0) rfl) Za) #[z.obj,T.ae,T.bY,rfl,.inl z.lies,q]
inductive Ob:Sp
 | mk (H0) (F:lU->Prop) (x tr ad lw) (val:lT->lS Zs) (ln):vs=[.ref x]->nM T H0 H F x tr ad lw val ln->(∀ss:lS lT,ss.Perm (ad.st.map fst)->PyProof.Rows.sortedS ss=true->pK H (.lst<|ss.map V.str) Q)->Ob vs H Q E
def W9:T.bf.O P w mg mG 1 (Ob T):=by
 refine T.bf.F.okA ?_;rfl'
 ·obtain⟨y,F,x,u,ad,p,val,o,rfl,z,q⟩:=h;intro X D;have n:=z.stl;show mS (Zl<|Yc (r:=BD) (Gh rfl) (by rfl) T.dh yn<|Zb (Z2 (pv 0) rfl) Za) #[z.obj,T.ae,T.bx,rfl,ad.sd,_,ad.st.map fst,rfl,.inl z.sti,KC _,by rw[mO];lia,q]
def Zg3:T.bq.O P w mg mG 1 (wq T.aT "part"):=by
 refine T.bq.F.okA ?_;rfl'
 ·obtain⟨e,t,v,rfl,he,q⟩:=h;intro X D;show mS (DS (pv 0) (pv 1) rfl) #[e,T.aT,T.ay,t,rfl,he,T.eQ.cls,T.eQ.sa,T.eQ.na,q]
def Sf{k:Nat}(h:1<=k:=by lk):T.bq.O P w mg mG k (wq T.aT "part"):=(Zg3 T).mono h
inductive Ad(T:Tx K mg):Sp
 | no:vs=[.non]->Q .non H->Ad T vs H Q E
 | held (t p):vs=[.ref t]->H t=some (.tup [.str "held",.str p])->(∀dx H',mF H H'->H' dx=some (.xd [("part",.str p)])->E (.ref T.aZ) (some dx) H')->Ad T vs H Q E
 | stiff (t p):vs=[.ref t]->H t=some (.tup [.str "stiff",.str p])->(∀dx H',mF H H'->H' dx=some (.xd [("part",.str p)])->E (.ref T.aT) (some dx) H')->Ad T vs H Q E
def Zgq:Y6 P w K mg mG (nX P w) 3 T.aj.f T.aj.fd ["told"] (Ad T):=by
 refine T.aj.F.okX EV ?_;rfl'
 ·intro X D;rcases h with⟨rfl,q⟩|⟨t,p,rfl,z,q⟩|⟨t,p,rfl,z,q⟩
  ·show mP (Zu (Ye zf (pv 0) rV<|Yq _) Zo Zj) #[rfl,mS QK q]
  ·refine mP (Zu (Ye zf (pv 0) rV<|Yq _) Zo Zj) #[rfl,?_];show mP (Zu (W0 hr (nq (pv 0) Ze) Zg) Zo Zj)<|.inr<|.inl #[mW z,Zm (j:=0) rfl,.inl #[rfl,oB.t (by left)<|mS (ye T.dP T.cF (W8 T) T.aR.b hr rfl T.ib<|Zb (nq (pv 0) Ze) Za)<|.inr<|.inl #[mW z,Zm (j:=1) rfl,_,rfl,λy x=>q y _ (oU x) Zc]]]
  ·refine mP (Zu (Ye zf (pv 0) rV<|Yq _) Zo Zj) #[rfl,?_];refine mP (Zu (W0 hr (nq (pv 0) Ze) Zg) Zo Zj)<|.inr<|.inl #[mW z,Zm (j:=0) rfl,.inl #[rfl,oB.f (by left) ?_]];refine mP (Zu (W0 hr (nq (pv 0) Ze) Zg) Zo Zj)<|.inr<|.inl #[mW z,Zm (j:=0) rfl,.inl #[rfl,oB.f (by left) ?_]];show mS (ye T.eQ T.cF (Sf T) T.bq.b hr rfl T.iN<|Zb (nq (pv 0) Ze) Za)<|.inr<|.inl #[mW z,Zm (j:=1) rfl,_,rfl,λy x=>q y _ (oU x) Zc]
def Zg9{k:Nat}(h:3<=k:=by lk):Y6 P w K mg mG (nX P w) k T.aj.f T.aj.fd ["told"] (Ad T):=(Zgq T).mono h
section
variable {U:Tx K mg} {F:lU->Prop} {val:lT->lS Zs}
def nM.path{y:lT->lS Zs}(z:nM U l H F x s ad j val r)(n:mF H p)(hd:H d=none)(i:Yv p d u y)(h:u.map fst=r.map fst)(g:∀e∈u,H e.2=none)(c:∀t,(y t).length<=100)(o:∀t,(∀q∈y t,uO ad.ns q)/\((y t).map fst).Nodup):nM U l (mM p x<|yP U #[ad.dx,ad.ld,ad.sd,ad.nd,d,u,ad.st,ad.ns] s) (λb=>F b\/b=d) x s #[ad.dx,ad.ld,ad.sd,ad.nd,d,u,ad.st,ad.ns] j y r:=by
 have:=z.move n hd i h g z.lnd z.len z.ok c o;rw[Zyx (show mM p x (yP U #[ad.dx,ad.ld,ad.sd,ad.nd,d,u,ad.st,ad.ns] s) ad.nd=some (.dK<|uk r) by rw[Zd z.xn.symm];show n.at z.lens)]at this;show this
def nM.lay{r:lS (lT×lT)}(s:nM U h H F x i ad N val g)(c:mF H l)(hd:H d=none)(e:l d=some (.dK<|Zz V.str r))(a:(r.map fst).Nodup/\∀p∈r,p.1∈ad.ns/\p.2∈sR):nM U h (mM l x<|yP U #[ad.dx,d,ad.sd,ad.nd,ad.pd,ad.es,ad.st,ad.ns] i) F x i #[ad.dx,d,ad.sd,ad.nd,ad.pd,ad.es,ad.st,ad.ns] r val g:=by
 have q:=s.mono c;have j:∀{b:lU},¬F b->b≠x:=λz y=>z<|y ▸ s.fx
 have u:∀{b:lU}{o v:HO},b≠x->l b=some o->mM l x v b=some o:=λn z=>by rw[Zd n];show z
 refine#[Zc,u (j<|s.neF hd) e,u (j s.ns) q.sti,u s.xn.symm q.lens,q.pth.offC s.xp.symm (λe he=>j<|s.ni e he) q.obj (λ_ z=>nomatch z),s.nm,s.lnd,s.len,s.vl,s.ok,s.fx,s.fn,s.fp,s.ne,s.neF hd,s.ns,s.ni,s.free,λb o z=>u (Zf z<|s.free x s.fx)<|q.same.at z,λb z=>?_,#[s.kx.s0,λz=>?_,s.kx.nok,s.kx.sok,a,s.kx.pok]]
 ·by_cases y:b=x
  ·show#[.ins _ _ _,by rw[y];show Zc,λ_ z=>nomatch z]
  ·obtain⟨o,Y,Q⟩:=q.live b z;show#[o,u y Y,Q]
 ·have:=s.sti;rw[show ad.sd=d from z,hd]at this;cases this
end
def Rz{ns:lS lT}{y:lS lT}{val:lT->lS Zs}{nm:lT}{qs:lS S4}(s:nm∈y)(h:∀t,(∀q∈val t,uO ns q)/\((val t).map fst).Nodup)(r:∀q∈qs,uO ns q)(z:As (vE y val) (qs.map fst) qs.length)(t:lT):(∀q∈qt y val nm qs t,uO ns q)/\((qt y val nm qs t).map fst).Nodup:=by
 unfold qt;split
 ·refine#[λq u=>(oA.mp u).elim ((h nm).1 q) (r q),?_];rw[nw,qG];refine#[(h nm).2,?_,λa p b o e=>?_]
  ·rw[List.nodup_iff_pairwise_ne]at *;rw[List.pairwise_iff_getElem];intro i j x u n e;have:=(z j _ (by simpa using u)<|oE u).1;show this<|List.mem_take_iff_getElem.mpr #[i,by lia,e]
  ·obtain⟨i,x⟩:=AX o;have u:=(pr.mp x).1;rw[mO]at u;show(z i b u x).2 #[nm,s,e ▸ p]
 ·show h t
def QX{l:lS (lX<|lT×lT)}:(∀a∈l,a=none\/∃p,a=some (("held":lT),p)\/a=some (("stiff":lT),p))->uE l=none\/∃p,uE l=some (("held":lT),p)\/uE l=some (("stiff":lT),p):=by
 induction l with
 | nil=>show λ_=>.inl rfl
 | cons a l z =>
  intro h;rcases h a oM with rfl|⟨p,rfl|rfl⟩
  ·show z λb y=>h b<|pe _ y
  ·show .inr #[p,.inl rfl]
  ·show .inr #[p,.inr rfl]
def Vx{z:lS lT}{g:Gd}(y:g.told=[])(r:Rl):za z g r=none\/∃p,za z g r=some (("held":lT),p)\/za z g r=some (("stiff":lT),p):=by
 cases r with
 | held x =>
  change tZ z g x=_\/∃p,tZ z g x=_\/tZ z g x=_;unfold tZ;split
  ·show .inr #[x,.inl rfl]
  ·show .inl rfl
 | taken x =>
  change Wm g x=_\/∃p,Wm g x=_\/Wm g x=_;unfold Wm;rw[y];show .inl rfl
 | lies x l =>
  change wy g x l=_\/∃p,wy g x l=_\/wy g x l=_;unfold wy zA;split
  ·show .inl rfl
  ·split
   ·show .inr #[x,.inr rfl]
   ·show .inl rfl
def pc.steps(h:pc ns H us qs):rA H us qs:=let⟨h,_⟩:=h;h
inductive Pg(T:Tx K mg):Sp
 | mk (H0) (F:lU->Prop) (x tr a dt ad) (lw:lS (lT×lT)) (val:lT->lS Zs) (ln:lS (lT×Nat)) (ps js) (sg:lS (lT×lT×lT)) (nm) (g:lT×Zh) (qs):vs=[.ref x,.str nm,.ref a,.ref dt]->nM T H0 H F x tr ad lw val ln->ad.ns=ps.map snd->Z4 T H0 tr ps js sg->Xe ps js sg->qD T H0->nm∈ln.map fst->val nm≠[]->(g:lT×lT×lT)∈sg->qc (ps.map snd) H a g.1 qs->wQ qs->H dt=some (.dK<|Zz V.bl [])->
  (∀(H':Hp)(F':lU->Prop)(z7:pA)(lw':lS (lT×lT)) (D8:lT->lS Zs),(∀b,F' b->F b\/H b=none)->uv F H H'->z7.ns=ad.ns->z7.sd=ad.sd->(∀t,val t≠[]->D8 t≠[])->nM T H0 H' F' x tr z7 lw' D8 ln->Q .non H')->
  (∀r po dx H',r<6->po.isSome=decide (4<=r)->mF H H'->um H' dx po->E (.ref<|tJ T r) dx H')->Pg T vs H Q E
def UW:Y6 P w K mg mG (nX P w) 7 T.bu.f T.bu.fd ["self","train","route","seen"] (Pg T):=by
 refine T.bu.F.okX KS ?_;rfl'
 ·obtain⟨H0,F,x,tr,a,dt,ad,lw,val,ln,ps,js,sg,nm,⟨sig,e⟩,Y,rfl,u,E6,ht,yv,tb,hm,w4,hg,⟨us,M,I⟩,okr,hdt,q,qe⟩:=h;intro X D;have M:H a=some (.tup<|V.str sig ::us.map V.ref):=M;obtain⟨y,_,_,_,_,_,_,_,_,N3,_⟩:=(ht.mono u.same).ex;have hql:Y.length<=12:=okr.2;refine mP (nk 4 KS<|Z5 (pv 0) T.ae T.bP (Wn T) hr.m T.ax.b .nil Z0<|Zb (pv 1) Za) #[u.obj,rfl,H0,F,x,tr,ad,lw,val,ln,nm,rfl,u,hm,λl y s1 o P1=>?_];have u0:=u.mono s1;refine mP (Zu (Y9<|Yo<|Zv (QY T) hr<|Zb (Z2 (pv 0) rfl)<|Zb (pv 2) Za) Zo Zj) #[u0.obj,T.ae,T.aB,rfl,tr,a,(sig,e),Y,ps,js,sg,rfl,ht.mono u0.same,yv,hg,#[us,s1.at M,I.mono s1],okr,λb y s2=>Yf (λ_=>mS (Xr T.ig ri rfl<|Zb Zg Za) #[mQ,qe 2 none none y (by lk) rfl (s1.trans s2) rfl]) λ_=>?_];have d:=s1.trans s2;have J5:=u0.mono s2;obtain⟨ts,hl,j8⟩:=P1.mono s2;obtain⟨ws,G,rfl⟩:∃ws G,ts=ws++[G]:=by
   have:ts≠[]:=λz=>by
    rw[z]at j8;have:=nJ j8;show w4<|Ah.mp this.symm
   show#[ts.dropLast,ts.getLast this,(HQ _).symm]
  obtain⟨qq,_,rq⟩:=oQ j8 (i:=ws.length) (a:=G) (by simp);have la:oJ ((ws++[G]).map V.ref) (-1)=some (.ref G):=by
   rw[nw];show GU _ _
  refine mP (Zu (qU hr (Z5 (Z2 (pv 0) rfl) T.ak T.cz (Ej T) hr.m T.au.b .nil Z0<|Zb (nq (pv 2) Ze) Za)<|Zv (Cq T) hr<|Zb (nq (pv 4)<|xg wV Ze) Za) Zo Zj) #[J5.obj,T.ae,T.aB,rfl,d.at N3,rfl,.inr<|.inl #[mW<|d.at M,Zm (j:=0) rfl,tr,(sig,e),ps,js,sg,rfl,ht.mono J5.same,yv,hg,λl g s3 y=>.inl #[mU<|s3.at hl,la,G,qq,rfl,s3.at rq,λc o s4 U n=>.inr<|.inl #[1,oS e,oS (qq.1,qq.2.2.1),by lk,.inl #[_,_,rfl,rfl],yg<|s4.at y,yg n,Yf (λ_=>mS (Xr T.ig ri rfl<|Zb Zg Za) #[mQ,qe 2 none none o (by lk) rfl (d.trans<|s3.trans s4) rfl]) λ_=>?_]]]];have K5:=d.trans<|s3.trans s4;have L:=u.mono K5;refine mP (Z1<|Xv (Zg9 T) hr rfl T.aj.m T.aj.F.kp T.aj.b .nil W3<|Zb (Zv (Fo T) hr<|Zb (Zv (YG T) hr<|Zb (pv 2) Za)<|Zb (Z5 (pv 0) T.ae T.cT (Ic T) hr.m T.bh.b .nil Z0<|Zb (pv 3) Za) Za) Za) #[a,_,sig,Y,rfl,tb.mono L.same,#[us,K5.at M,I.mono K5],by lia,λy fs c s5 U o n=>#[s5.at L.obj,rfl,H0,F,x,tr,dt,ad,lw,val,ln,[],rfl,L.mono s5,(K5.trans s5).at hdt,λl J s6 n6 g=>#[y,l,fs,_,rfl,mU<|s6.at o,tw.ans (n.fix s6.fix) g,λv7 H7 s7 C=>?_]]];have M7:=K5.trans<|s5.trans<|s6.trans s7;rcases QX (l:=(rL Y).map (za (ad.es.map fst) #[lw,ad.st,val,[]])) (λb y=>by
   obtain⟨r,_,rfl⟩:=mZ.mp y;show Vx rfl r)with z|⟨p,z|z⟩
  ·rw[z]at C;refine .no (oN (λv=>[v]) C) ?_;have hw7:=u.mono M7;have F1:=u.nm;refine mP (Wo (pv 0) (Xv (Nz T) hr.m rfl T.cx.m T.cx.F.kp T.cx.b .nil W3<|Zb (Z2 (pv 0) rfl)<|Zb (pv 1)<|Zb (X6 (r:=rY K) sI (pv 2) (We Ze) Wu) Za) rfl) #[hw7.obj,T.ae,T.ao,rfl,.inl #[mW<|M7.at M,Hg _ _,λp8 H8 s8 n8 B=>?_]];rw[GA]at B;have l:=M7.trans s8;have hw8:=u.mono l;refine#[ad.pd,p8,nm,ad.es,val,Y,rfl,hw8.pth,by rw[F1];show u.lnd,?_,u.vl,λt D3=>?_,#[us,.inr B,(I.mono l).steps],by lia,λd' H9 i9 U s9 n9 pB eB _ fB=>?_,λN H9 y s9 n9 _ e9=>qe 4 (some y) (some N) H9 (by lk) rfl (l.trans s9) #[N,rfl,e9]]
   ·have:=oN List.length F1;rw[mO,mO]at this;have:=u.len;lia
   ·rw[F1]at D3;obtain⟨p',E4,rfl⟩:=mZ.mp D3;show xS<|u.ok p' E4
   rw[F1]at eB U;have B5:i9.map fst=ln.map fst:=by rw[eB];show mY hm
   have J:=Rz (ns:=ad.ns) hm u.kx.pok (by rw[E6];intro q' J9;obtain⟨_,o⟩:=I;show o q' J9) U;rw[F1]at pB;have g:=l.trans s9;have n09:H d'=none:=l.free n9;have O4:∀t,(qt (ln.map fst) val nm Y t).length<=100:=λt=>by
    have:=Bb (J t).2 λn hn=>by
     obtain⟨q',J9,rfl⟩:=mZ.mp hn;show((J t).1 q' J9).1
    rw[mO]at this;have:=u.kx.nok.1;lia
   have k1:=u.path g n09 pB B5 (λe' C7=>l.free<|fB e' C7) O4 J;have rtx:∀{o:HO},qc (ps.map snd) (mM H9 x o) a sig Y:=λ{o}=>by
    have n:∀{c:lU}{xs:lS V},H9 c=some (.tup xs)->mM H9 x o c=some (.tup xs):=λ{c xs} z=>(Zd λy=>by rw[y,g.at u.obj]at z;cases z).trans z
    obtain⟨E4,ok'⟩:=I.mono g;show#[us,n<|g.at M,nO E4 λ_ _ r=>n r,ok']
   refine SF.mk (g.at u.obj) T.ae T.ao (by change 5<1000;decide) ?_;have hlw:=u.lwl;refine mS (Wo (pv 0) (Zv (UO T) hr<|Zb (Z2 (pv 0) rfl)<|Zb (pv 2) Za) rfl) #[Zc,T.ae,T.bY,rfl,ad.ld,a,lw,_,sig,Y,rfl,k1.lies,u.kx.lok.1,by lia,rtx,by lia,λd5 HC sC nC eC=>SF.mk (sC.at Zc) T.ae T.bY (by change 5<1000;decide) ?_];have k2:=k1.lay sC nC eC #[SJ u.kx.lok.1,LB u.kx.lok.2 λq' J9=>by
    obtain⟨_,o⟩:=I;have:=o q' J9;show#[by rw[E6];show this.1,this.2.2.2]]
   refine q _ _ _ _ _ ?_ (λb o nb z=>?_) ?_ ?_ (λt D3=>?_) k2
   ·show λb z=>z.imp id λy=>by rw[y];show n09
   ·have nx:b≠x:=λy=>nb<|y ▸ u.fx
    rw[Zd nx];show sC.at (by rw[Zd nx];show g.at z)
   ·rfl
   ·rfl
   ·unfold qt;split
    ·show λz=>w4 (Nt.mp z).1
    ·show D3
  ·rw[z]at C;obtain⟨t,rfl,wt⟩:=C;show .held t p rfl wt λN H8 s8 B=>qe 4 (some p) (some N) H8 (by lk) rfl (M7.trans s8) #[N,rfl,B]
  ·rw[z]at C;obtain⟨t,rfl,wt⟩:=C;show .stiff t p rfl wt λN H8 s8 B=>qe 5 (some p) (some N) H8 (by lk) rfl (M7.trans s8) #[N,rfl,B]
def rT(q:S4):S4:=(q.1,q.2.2.1,q.2.1,q.2.2.2)
def wR(q:S4):Zh:=(q.1,q.2.2.1)
inductive IY:Sp
 | mk (t) (q:S4):vs=[.ref t]->pF H t q->(∀t' H',mF H H'->H t'=none->pF H' t' (rT q)->Q (.ref t') H')->IY vs H Q E
def Qn:T.fF.O P w mg mG 1 IY:=by
 refine T.fF.F.okA ?_;rfl'
 ·obtain⟨t,y,rfl,z,q⟩:=h;intro X D;show mS (Zl<|Zi<|Zb (nq (pv 0) Ze)<|Zb (nq (pv 0) Ze)<|Zb (nq (pv 0) Ze)<|Zb (nq (pv 0) Ze) Za)<|.inr<|.inl #[mW z,Zm (j:=0) rfl,.inr<|.inl #[mW z,Zm (j:=2) rfl,.inr<|.inl #[mW z,Zm (j:=1) rfl,.inr<|.inl #[mW z,Zm (j:=3) rfl,mQ,q]]]]
def pF.off{xs:lS V}(h:pF H t q)(y:H c=some (.lst xs)):pF (mM H c o) t q:=(Zd λz=>by rw[pF,z,y]at h;cases h).trans h
inductive Kv:Sp
 | mk (l) (ss:lS S4):vs=[.ref l]->Yj H l ss->ss.length<=100->(∀l' H',mF H H'->H l'=none->Yj H' l' (ss.reverse.map rT)->Q (.ref l') H')->Kv vs H Q E
def Zmm:T.dX.O P w mg mG 2 Kv:=by
 refine T.dX.F.okA ?_;rfl'
 ·obtain⟨l,c,rfl,⟨a,Y,U⟩,z,q⟩:=h;intro X D;have J:=nJ U;have e:Paired (pF H) a.reverse c.reverse:=Hm U;refine mS (Zl<|pH ["step"] (ph 1 [] rfl) (Yfw rfl T.il<|Zb (pv 0) Za) (oK 0) X5 (Zv (Qn T) hr<|Zb (pv 0) Za)) #[l,_,rfl,mU Y,λD d=>RQ (K:=K) (xs:=a.map V.ref) (λi x j=>(∃y:lS lU,x=y.map V.ref/\Paired (pF j) y ((c.reverse.take i).map rT))/\j D=some (.lst x)/\mF H j) #[#[[],rfl,.nil],Zc,oU d] ?_ ?_ ?_]
  ·rintro i x j _ ⟨_,_,z⟩;show mU<|z.at Y
  ·rintro i v x N M ⟨⟨y,rfl,u⟩,p,g⟩;rw[<-zE,nR]at M;obtain⟨t,I,rfl⟩:=nW.mp M;obtain⟨L,G,C⟩:=oQ e I;have B:=nJ u;rw[mO,oy,Cv]at B;refine#[oR rfl,t,L,rfl,C.mono g,λr H2 n n2 e2=>#[n.at p,by rw[mO];show Zp (by lia),#[y++[r],by rw[nw];rfl,?_],Zc,λb o z=>?_]]
   ·rw[ou,G,nw];show pj (nO u λ_ _ r=>(r.mono n).off (n.at p))<|.cons (pF.off (q:=rT L) e2<|n.at p) .nil
   ·rw[Zd (Zf z d)];show n.at<|g.at z
  ·rintro x N ⟨⟨y,rfl,u⟩,p,g⟩;rw[mO,J,<-Cv,pq]at u;show q D N g d #[y,p,u]
def qW(val:lT->lS Zs)(nm:lT):lT->lS Zs:=open Classical in λt=>if t=nm then(val nm).reverse.map rT else val t
def OQ{z:Type}{s:lS (lT×z)}{x:lT}{v:z}{e:lT×z}(h:e∈pp s x v):e=(x,v)\/(e∈s/\e.1≠x):=by
 unfold pp at h;split at h
 ·obtain⟨q,r,rfl⟩:=mZ.mp h;split
  ·show .inl rfl
  ·rename_i y;show .inr #[r,y]
 ·rename_i u;rcases oA.mp h with y|y
  ·show .inr #[y,λk=>u<|mZ.mpr #[e,y,k]]
  ·show .inl<|pQ.mp y
section
variable {U:Tx K mg} {F:lU->Prop} {val:lT->lS Zs}
def nM.turn{n0:lT}(s:nM U a H F x Y ad Q val i)(N:n0∈i.map fst)(M:mF H p)(g:H l=none)(L:Yj p l ((val n0).reverse.map rT)):nM U a (mM p ad.pd<|.dK<|Zz V.ref<|pp ad.es n0 l) F x Y #[ad.dx,ad.ld,ad.sd,ad.nd,ad.pd,pp ad.es n0 l,ad.st,ad.ns] Q (qW val n0) i:=by
 have r:=s.mono M;have j:∀{b:lU},¬F b->b≠ad.pd:=λz y=>z<|y ▸ s.fp
 have u:∀{b:lU}{o v:HO},b≠ad.pd->p b=some o->mM p ad.pd v b=some o:=λn z=>by rw[Zd n];show z
 have d:∀c,p ad.pd≠some (.tup c):=λc z=>by rw[r.pth.1]at z;cases z
 refine#[u s.xp r.obj,u (j s.nl) r.lies,u (j s.ns) r.sti,u s.ne r.lens,#[Zc,λe he=>?_],?_,s.lnd,s.len,λt=>?_,s.ok,s.fx,s.fn,s.fp,s.ne,s.nl,s.ns,EI (P:=λe=>¬F e.2) s.ni<|s.neF g,s.free,λb o z=>u (Zf z<|s.free _ s.fp)<|r.same.at z,λb z=>?_,#[s.kx.s0,s.kx.sl,s.kx.nok,s.kx.sok,s.kx.lok,λt=>?_]]
 ·rcases OQ he with rfl|⟨z,y⟩
  ·change Yj _ l (qW val n0 n0);unfold qW;rw[mY rfl];show L.off (j<|s.neF g) d
  ·unfold qW;rw[mV y];show(r.pth.2 e z).off (j<|s.ni e z) d
 ·change(pp ad.es n0 l).map fst=_;rw[Dc,mY (by rw[s.nm];show N)];show s.nm
 ·unfold qW;split
  ·rw[mO,Cv];show s.vl n0
  ·show s.vl t
 ·by_cases y:b=ad.pd
  ·show#[.dK _,by rw[y];show Zc,λ_ z=>nomatch z]
  ·obtain⟨o,q,h⟩:=r.live b z;show#[o,u y q,h]
 ·unfold qW;split
  ·refine#[λq J=>?_,?_]
   ·obtain⟨q,h,rfl⟩:=mZ.mp J;obtain⟨I,G,E,D⟩:=(s.kx.pok n0).1 q (List.mem_reverse.mp h);show#[I,E,G,D]
   ·rw[oO];change((val n0).reverse.map fst).Nodup;rw[zE];show List.pairwise_reverse.mpr<|(s.kx.pok n0).2.imp oY
  ·show s.kx.pok t
end
inductive Ct(T:Tx K mg):Sp
 | mk (H0) (F:lU->Prop) (x tr ad lw) (val:lT->lS Zs) (ln:lS (lT×Nat)) (ps js sg nm) (q0:S4) (Zt):vs=[.ref x,.str nm]->nM T H0 H F x tr ad lw val ln->Z4 T H0 tr ps js sg->Xe ps js sg->nm∈ln.map fst->val nm=q0 ::Zt->(vf sg (rT q0)=true->∀(H':Hp)(z7:pA),uv F H H'->z7.ns=ad.ns->z7.st=ad.st->z7.ld=ad.ld->z7.sd=ad.sd->nM T H0 H' F x tr z7 lw (qW val nm) ln->Q .non H')->(vf sg (rT q0)=false->∀H',mF H H'->E (.ref T.aL) none H')->Ct T vs H Q E
 | no:xU T vs H Q E->Ct T vs H Q E
def QU:Y6 P w K mg mG (nX P w) 6 T.aO.f T.aO.fd ["self","train"] (Ct T):=by
 refine T.aO.F.okX El ?_;rfl'
 ·intro X D;rcases h with⟨g,F,x,r,ad,d,val,c,B,js,sg,nm,L,Zt,rfl,u,ht,yv,J,a,q,qe⟩|⟨g,F,x,r,ad,d,val,c,v,rfl,u,a,q⟩
  ·refine mP (nk 2 El<|Z5 (pv 0) T.ae T.bP (Wn T) hr.m T.ax.b .nil Z0<|Zb (pv 1) Za) #[u.obj,rfl,g,F,x,r,ad,d,val,c,nm,rfl,u,J,λl o Y n1 U=>?_];have I:=u.mono Y;have N:=U;rw[a]at U;obtain⟨o,hl,j8⟩:=U;cases j8 with
   | @cons t0 _ G9 _ r0 o =>
   refine mP (Zu (Y9<|Yo<|Zv (Gf T) hr<|Zb (Z2 (pv 0) rfl)<|Zb (Zv (Qn T) hr<|Zb (nq (pv 2) Ze) Za) Za) Zo Zj) #[I.obj,T.ae,T.aB,rfl,.inl #[mU hl,Zm (j:=0) rfl,t0,L,rfl,r0,λo H2 p n2 e2=>#[r,o,rT L,B,js,sg,rfl,ht.mono (I.mono p).same,yv,e2,λH3 M=>Yf (λz=>mS (Xr T.iO ri rfl<|Zb Zg Za) #[mQ,qe (by simpa using z) H3<|Y.trans<|p.trans M]) λz=>?_]]];have n:=Y.trans<|p.trans M;have G:=u.mono n;refine mS (ua (Xy hr) (Z2 (pv 0) rfl) (pv 1) (Zv (Zmm T) hr<|Zb (pv 2) Za) rfl) #[l,val nm,rfl,N.mono<|p.trans M,u.vl nm,λC o i n4 e4=>#[(G.mono i).obj,T.ae,T.ao,rfl,qR.k (k:=Xa nm) (G.mono i).pth.1 ?_,?_]]
   ·have:=oN List.length u.nm;rw[mO,mO]at this;have:=u.len;rw[show(Zz V.ref ad.es).length=ad.es.length from mO ..];show Zp (by lia)
   have e:Wk (Zz V.ref ad.es) (Xa nm) (V.ref C)=Zz V.ref (pp ad.es nm C):=CF _ _ _;rw[e];refine q (by simpa using z) _ _ (λb o nb y=>?_) ?_ ?_ ?_ ?_<|u.turn J (n.trans i) (n.free n4) e4
   ·rw[Zd (λk:b=ad.pd=>nb<|k ▸ u.fp)];show(n.trans i).at y
   ·rfl
   ·rfl
   ·rfl
   ·rfl
  ·show mP (nk 2 El<|Z5 (pv 0) T.ae T.bP (XM T) hr T.ax.b .nil W3<|Zb (pv 1) Za) #[u.obj,rfl,g,F,x,r,ad,d,val,c,v,rfl,u,a,q]
def Gv{k:Nat}(h:6<=k:=by lk):Y6 P w K mg mG (nX P w) k T.aO.f T.aO.fd ["self","train"] (Ct T):=(QU T).mono h
def ID(xs:lS V):qF xs none (some (-1))=xs.dropLast:=by
 unfold qF;rw[HT.sIx_none,Fe,Nat.sub_zero,List.dropLast_eq_take];change xs.take (if(-1:Int)<0 then(-1+(xs.length:Int)).toNat else min (-1:Int).toNat xs.length)=_;rw[mY (by lk)];congr 1;lia
inductive HP:Sp
 | mk (x v ps js) (sg:lS (lT×lT×lT)) (b):vs=[.ref x,v]->Z4 T H x ps js sg->Xe ps js sg->xq K H v b->(∀nm:lT,v=.str nm->nm∉sg.map fst)->(∀H',mF H H'->E (.ref T.aw) none H')->HP vs H Q E
def WC:Y6 P w K mg mG (nX P w) 2 T.au.f T.au.fd ["self","signal"] (HP T):=by
 refine T.au.F.okX Nh ?_;rfl'
 ·obtain⟨x,v,g,e,d,b,rfl,r,c,y,p,q⟩:=h;intro X D;obtain⟨x,g,e,o,d,c,n,a,Y,l,_,_,_,_,j,i,_⟩:=r.ex;cases b with
  | false=>show mP (Zu (pN<|qp (Y9<|Yo<|Zv (wK T) hr<|Zb (pv 1) Za)<|rJ<|rK hr (pv 1)<|Z2 (pv 0) rfl) Zo Zj) #[v,false,rfl,y,λu z=>mS (Xr T.dR ri rfl<|Zb Zg Za) #[mQ,q u z]]
  | true =>
   obtain⟨nm,rfl⟩:∃nm:lT,v=.str nm:=by
    rcases y with⟨nm,e,_⟩|⟨e,_⟩
    ·show#[nm,e]
    ·cases e
   have x:Y7 n (Xa nm)=none:=i.none wl (by rw[HX];show p nm rfl);refine mP (Zu (pN<|qp (Y9<|Yo<|Zv (wK T) hr<|Zb (pv 1) Za)<|rJ<|rK hr (pv 1)<|Z2 (pv 0) rfl) Zo Zj) #[_,true,rfl,y,λu z=>#[z.at l,T.ak,T.bi,rfl,.inr<|.inl #[o,_,rfl,X0.k (k:=Xa nm)<|z.at j,?_]]];rw[x];show mS (Xr T.dR ri rfl<|Zb Zg Za) #[mQ,q u z]
def Zjg{k:Nat}(h:2<=k:=by lk):Y6 P w K mg mG (nX P w) k T.au.f T.au.fd ["self","signal"] (HP T):=(WC T).mono h
def TM(z:lS lT)(val:lT->lS Zs)(e:Zh):Prop:=∃t∈z,e∈(val t).dropLast.map wR
inductive Jj:Sp
 | mk (H0) (F:lU->Prop) (x tr ad lw) (val:lT->lS Zs) (ln:lS (lT×Nat)) (ps js) (sg:lS (lT×lT×lT)) (g:lT×Zh):vs=[.ref x,.str g.1]->nM T H0 H F x tr ad lw val ln->Z4 T H0 tr ps js sg->Xe ps js sg->(g:lT×lT×lT)∈sg->(∀(b:Bool) H',mF H H'->(b=true↔TM (ln.map fst) val g.2)->Q (.bl b) H')->Jj vs H Q E
def Sw:T.aH.O P w mg mG 4 (Jj T):=by
 refine T.aH.F.okW Wg ?_;rfl'
 ·obtain⟨H0,F,x,tr,ad,lw,val,ln,ps,js,sg,g,rfl,d,ht,yv,hg,q⟩:=h;intro X D
  ·obtain⟨dxt,_,_,_,_,_,_,_,_,N3,_⟩:=(ht.mono d.same).ex;refine mP (nk 2 Wg<|Z5 (Z2 (pv 0) rfl) T.ak T.cz (Ej T) hr.m T.au.b .nil Z0<|Zb (pv 1) Za) #[d.obj,T.ae,T.aB,rfl,N3,rfl,tr,g,ps,js,sg,rfl,ht.mono d.same,yv,hg,λt H1 s1 p1=>?_];have u0:=d.mono s1;obtain⟨hd,R1⟩:=u0.pth;refine mP (Il<|Xh pG rfl (Yc3<|Z2 (pv 0) rfl) (oq 3 Wg) Zo) #[u0.obj,T.ae,T.ao,rfl,ad.pd,_,rfl,hd,λo nf=>Zzt (λi z a=>(∃o3,z=[some (.ref x),some<|.str g.1,some<|.ref t,o3])/\mF (mM H1 ad.pd<|.frz o<|.dK<|Zz V.ref ad.es) a/\∀e∈ad.es.take i,g.2∉(val e.1).dropLast.map wR) #[#[none,rfl],pO _,by simp] ?_ ?_ ?_]
   ·rintro i z a _ ⟨_,sm,_⟩;show sm.at Zc
   ·rintro i kv z H2 hi ⟨⟨o3,rfl⟩,N,C0⟩;rw[show Zz V.ref ad.es=ad.es.map λq=>(Sum.inr q.1,V.ref q.2)from rfl,nR]at hi;obtain⟨e,he,rfl⟩:=nW.mp hi;have Y:e∈ad.es:=pE he;have hed:e.2≠ad.pd:=λy=>d.ni e Y<|y ▸ d.fp
    have O4:=d.vl e.1;obtain⟨ts,hl,j8⟩:Yj H2 e.2 (val e.1):=((R1 e Y).off (o:=.frz o<|.dK<|Zz V.ref ad.es) hed λxs y=>by rw[hd]at y;cases y).mono N;have E1:=nJ j8;have p2:Zr H2 t g.2:=(p1.offD hd).mono N;refine mS (Zu (vq hr (pv 2)<|pH ["step"] (ph 1 [] rfl) (Yl<|X6 (r:=rY K) sI (pv 3) Wu<|We<|xg wV Ze) (oK 0) X5 (Zv (Cq T) hr<|Zb (pv 0) Za)) Zo Zj)<|.inr<|.inl<|Dw.mk (mU hl) λl3 H3 s3 n3 L=>?_;have L:H3 l3=some (.lst<|qF (ts.map V.ref) none<|some (-1)):=L;rw[ID,<-List.map_dropLast]at L;refine#[mU L,λD hD=>Yy (K:=K) (xs:=ts.dropLast.map V.ref) (λi J a=>(∃M:lS lU,J=M.map V.ref/\Paired (Zr a) M (((val e.1).dropLast.map wR).take i))/\a D=some (.lst J)/\mF H3 a) #[#[[],rfl,.nil],Zc,oU hD] ?_ ?_ ?_]
    ·rintro j J a _ ⟨_,_,sm⟩;show mU<|sm.at L
    ·rintro j v J H4 hj ⟨⟨M,rfl,I⟩,T2,G⟩;rw[nR]at hj;obtain⟨t0,Q0,rfl⟩:=nW.mp hj;rw[DC]at Q0;split at Q0
     ·rename_i d9;obtain⟨q4,hq,P4⟩:=oQ j8 Q0;have F2:=nJ I;rw[oy,mO,vD]at F2;refine#[oR rfl,t0,q4,rfl,(s3.trans G).at P4,λt5 H5 s5 n5 e5=>#[s5.at T2,by rw[mO];show Zp (by lia),#[M++[t5],by rw[nw];rfl,?_],Zc,λb o y=>?_]]
      ·rw[ou,nR,DC,mY (by lia),hq];have off:∀{c:lU}{p:Zh}{u:HO},Zr H5 c p->Zr (mM H5 D u) c p:=λ{c p u} y=>(Zd λr=>by rw[Zr,r,s5.at T2]at y;cases y).trans y
       show pj (nO I λ_ _ n=>off<|n.mono s5)<|.cons (off e5) .nil
      ·rw[Zd (Zf y hD)];show s5.at<|G.at y
     ·cases Q0
    ·rintro J H4 ⟨⟨M,rfl,I⟩,T2,G⟩;rw[tF (by rw[mO,mO,vD,vD];lia)]at I;have U:=N.trans<|s3.trans G;refine .inr<|.inr<|.inr #[D,1,oS g.2,_,M,rfl,mU T2,by lk,yg<|p2.mono<|s3.trans G,BY I,?_];refine Yf (λC=>?_) λC=>?_
     ·have C:oS g.2∈((val e.1).dropLast.map wR).map oS:=pD C;obtain⟨e',B,h'⟩:=mZ.mp C;rw[Hv h']at B;show mS (Zl qM) #[ad.pd,o,_,U.at Zc,nf,q true _ (s1.trans<|yK hd U) #[λ_=>#[e.1,by rw[<-d.nm];show mZ.mpr #[e,Y,rfl],B],λ_=>rfl]]
     ·refine#[#[_,rfl],U,λe' B=>?_];rw[ou,he,oA]at B;rcases B with y|y
      ·show C0 e' y
      ·have y:e'=e:=by simpa using y
       rw[y];show λr=>C<|nZ<|mZ.mpr #[_,r,rfl]
   ·rintro z H2 ⟨⟨o3,rfl⟩,N,C0⟩;rw[show(Zz V.ref ad.es).length=ad.es.length from mO ..,pq]at C0;refine#[ad.pd,o,_,N.at Zc,nf,mS (Zl qM)<|q false _ (s1.trans<|yK hd N) #[λy=>(by cases y),λ⟨l,hn,y⟩=>?_]];rw[<-d.nm]at hn;obtain⟨e,he,rfl⟩:=mZ.mp hn;show absurd y<|C0 e he
inductive Et:Sp
 | mk (H0) (F:lU->Prop) (x tr ad lw) (val:lT->lS Zs) (ln:lS (lT×Nat)) (ps js) (sg:lS (lT×lT×lT)) (v b):vs=[.ref x,v]->nM T H0 H F x tr ad lw val ln->Z4 T H0 tr ps js sg->Xe ps js sg->xq K H v b->(∀nm:lT,v=.str nm->nm∉sg.map fst)->(∀H',mF H H'->E (.ref T.aw) none H')->Et vs H Q E
def Zii:Y6 P w K mg mG (nX P w) 4 T.aH.f T.aH.fd ["self","signal"] (Et T):=by
 refine T.aH.F.okX Wg ?_;rfl'
 ·obtain⟨g,F,x,u,ad,e,val,d,r,p,o,v,b,rfl,z,y,n,l,j,q⟩:=h;intro X D;obtain⟨x,_,_,_,_,_,_,_,_,i,_⟩:=(y.mono z.same).ex;show mP (nk 2 Wg<|Z5 (Z2 (pv 0) rfl) T.ak T.cz (Zjg T) hr T.au.b .nil W3<|Zb (pv 1) Za) #[z.obj,T.ae,T.aB,rfl,i,rfl,u,v,r,p,o,b,rfl,y.mono z.same,n,l,j,q]
def Uy{k:Nat}(h:4<=k:=by lk):Y6 P w K mg mG (nX P w) k T.aH.f T.aH.fd ["self","signal"] (Et T):=(Zii T).mono h
def Yek(h:zm ps Y s):("zz":lT)∉s.map fst:=λr=>by
 obtain⟨q,x,e⟩:=mZ.mp r;obtain⟨o,l,ok⟩:=h.sigs;rcases ok.name q x with z|⟨n,k,_,_,c⟩
 ·have:((q.2.1,q.2.2):Zh)∈X2 o:=yD<|ok.at_.subset<|mZ.mpr #[q,x,rfl];obtain⟨p,i,g⟩:=Kt this;have d:p.2 ="zz":=(show q.2.1=p.2 from g).symm.trans (z.symm.trans e);have u:p.2 ="g"\/p.2 ="h"\/uA p.2<58:=by
   rcases(h.name p<|l.mem_iff.mp i).nm with y|y|⟨U,c,j,_,a,y⟩|⟨j,a,y⟩
   ·show .inl y
   ·show .inr<|.inl y
   ·show .inr (.inr (by rw[y];show KJ<|by lia))
   ·show .inr (.inr (by rw[y];show Os<|by lia))
  rw[d]at u;show absurd u (by left)
 ·have y:(qQ n k).cps.toList.head? =(("zz":lT)).cps.toList.head? :=by rw[<-e,c]
  rw[Co,wZ,show("s":lT).cps.toList=[115]from by left,show("zz":lT).cps.toList=[122,122]from by left]at y;show absurd (oF y) (by lk)
mutual
theorem CL(e:mF H u):∀{d:PyData}{v:V},Rp H d v->Rp u d v
 | _,_,.str x=>.str x
 | _,_,.bl b=>.bl b
 | _,_,.int i=>.int i
 | _,_,.lst z y=>.lst (e.at z) (DK e y)
 | _,_,.tup z y=>.tup (e.at z) (DK e y)
 | _,_,.dk z y=>.dk (e.at z)<|DK e y
theorem DK(e:mF H z):∀{ds:lS PyData}{vs:lS V},qy H ds vs->qy z ds vs
 | _,_,.nil=>.nil
 | _,_,.cons y x=>.cons (CL e y)<|DK e x
end
def Yg(n k:Nat)(d:PyData):Prop:=d.showable=true/\d.leavesShort 8=true/\d.depth<=k/\d.weight<=n
def Yg.shown(h:Yg n k d)(z:n<=100000):d.shown.length<=sizeLine:=by
 have:=PyData.shown_le 8 (by lk) d h.2.1;have:=h.2.2.2;have e:sizeLine=16777216:=rfl;lia
def Yg.str(z:x.cps.toList.all pX=true)(y:x.length<=6):Yg 6 0 (.str x):=by
 refine#[by simp[PyData.showable],?_,by simp[PyData.depth],by simp only[PyData.weight];show y];simp only[PyData.leavesShort,wE,yJ];show λc u=>rj (Pp<|wE.mp z c u) (by lk)
theorem Yg.all:∀{ds:lS PyData},(∀d∈ds,Yg n k d)->PyData.showableAll ds=true/\PyData.leavesShortAll 8 ds=true/\PyData.depthAll ds<=k/\PyData.weightAll ds<=(n+1) * ds.length
 | [],_=>#[by simp[PyData.showableAll],by simp[PyData.leavesShortAll],by simp[PyData.depthAll],by simp[PyData.weightAll]]
 | d ::ds,h=>by
  obtain⟨z,y,r,q⟩:=h d oM;obtain⟨x,u,r,q⟩:=Yg.all λc s=>h c<|pe _ s
  refine#[by simp[PyData.showableAll,z,x],by simp[PyData.leavesShortAll,y,u],by simp only[PyData.depthAll];lia,?_];simp only[PyData.weightAll,pi,Nat.mul_add];lia
theorem Yg.kv:∀{ds:lS (PyData×PyData)},(∀d∈ds,Yg n k d.1/\Yg n k d.2)->PyData.showableKv ds=true/\PyData.leavesShortKv 8 ds=true/\PyData.depthKv ds<=k/\PyData.weightKv ds<=(2 * n+2) * ds.length
 | [],_=>#[by simp[PyData.showableKv],by simp[PyData.leavesShortKv],by simp[PyData.depthKv],by simp[PyData.weightKv]]
 | (x,y) ::ds,h=>by
  obtain⟨⟨s,r,q,z⟩,p,o,l,u⟩:=h (x,y) oM;obtain⟨j,i,g,a⟩:=Yg.kv λc e=>h c<|pe _ e
  refine#[by simp[PyData.showableKv,show x.showable=true from s,show y.showable=true from p,j],by simp[PyData.leavesShortKv,show x.leavesShort 8=true from r,show y.leavesShort 8=true from o,i],by simp only[PyData.depthKv];show Nat.max_le.mpr #[Nat.max_le.mpr #[q,l],g],?_];simp only[PyData.weightKv,pi,Nat.mul_add];have z:x.weight<=n:=z;have u:y.weight<=n:=u;lia
def Yg.list(h:∀d∈ds,Yg n k d)(z:ds.length<=m):Yg ((n+1) * m) (k+1) (.list ds):=by
 obtain⟨y,x,s,u⟩:=Yg.all h;show#[by simp only[PyData.showable];show y,by simp only[PyData.leavesShort];show x,by simp only[PyData.depth];lia,by simp only[PyData.weight];show oo u<|Gc _ z]
def Yg.tuple(h:∀d∈ds,Yg n k d)(z:ds.length<=m):Yg ((n+1) * m) (k+1) (.tuple ds):=by
 obtain⟨y,x,s,u⟩:=Yg.all h;show#[by simp only[PyData.showable];show y,by simp only[PyData.leavesShort];show x,by simp only[PyData.depth];lia,by simp only[PyData.weight];show oo u<|Gc _ z]
def Yg.dict(h:∀d∈ds,Yg n k d.1/\Yg n k d.2)(z:ds.length<=m):Yg ((2 * n+2) * m) (k+1) (.dict ds):=by
 obtain⟨y,x,s,u⟩:=Yg.kv h;show#[by simp only[PyData.showable];show y,by simp only[PyData.leavesShort];show x,by simp only[PyData.depth];lia,by simp only[PyData.weight];show oo u<|Gc _ z]
def Yg.up(h:Yg n k d)(z:n<=m)(y:k<=j):Yg m j d:=#[h.1,h.2.1,oo h.2.2.1 y,oo h.2.2.2 z]
def d4(q:Zs):PyData:=.tuple [.str q.1,.str q.2.1,.str q.2.2.1,.str q.2.2.2]
def BG(ss:lS lT)(val:lT->lS Zs):PyData:=.dict<|(ss.map PyData.str).zip (ss.map λt=>.list<|(val t).map d4)
def rA.rps(h:Paired (λt (q:Zs)=>Fx H t q.1 q.2) ts ss):qy H (ss.map d4) (ts.map V.ref):=by
 induction h with
 | nil=>show .nil
 | cons z _ y=>show .cons (.tup z<|.cons (.str _)<|.cons (.str _)<|.cons (.str _)<|.cons (.str _) .nil) y
def Yv.rp{val:lT->lS Zs}(h:Yv H d z val):Rp H (BG (z.map fst) val) (.ref d):=by
 have r:qy H (z.map λe=>.list<|(val e.1).map d4) ((Zz V.ref z).map snd):=by
  have y:=h.2;clear h
  induction z with
  | nil=>show .nil
  | cons e z u =>
   obtain⟨x,s,q⟩:=y e oM;show .cons (.lst s<|rA.rps q)<|u λx p=>y x<|pe _ p
 have:=Rp.dk h.1 r;rw[show(Zz V.ref z).map (λp=>kD p.1)=(z.map fst).map PyData.str from by rw[show Zz V.ref z=z.map λq=>(Sum.inr q.1,V.ref q.2)from rfl,oO,oO];rfl]at this;unfold BG;rw[show(z.map fst).map (λt=>PyData.list<|(val t).map d4)=z.map λe=>.list ((val e.1).map d4)from by rw[oO];rfl];show this
def Yg.half(h:Yg n k d)(z:n<=100000):d.shown.length<=1000008:=by
 have:=PyData.shown_le 8 (by lk) d h.2.1;have:=h.2.2.2;lia
def wB:∀x∈sR,x.cps.toList.all pX=true/\x.length<=6:=by left
def DQ{x:lT}(z:Xb x):Yg 6 0 (.str x):=.str z.2.2.2 z.2.1
def Re:∀n<5,(PyData.int ((n:Nat):Int)).showable=true/\(PyData.int ((n:Nat):Int)).leavesShort 8=true/\(PyData.int ((n:Nat):Int)).depth<=0/\(PyData.int ((n:Nat):Int)).weight<=6:=by left
def Pk{ss:lS lT}{m:Nat}(h:∀x∈ss,Xb x)(z:ss.length<=m):Yg (7 * m) 1 (.list<|ss.map PyData.str):=Yg.list (n:=6) (k:=0) (λd hd=>by
 obtain⟨x,y,rfl⟩:=mZ.mp hd;show DQ<|h x y) (by rw[mO];show z)
def Mb{ss:lS lT}{val:lT->lS Zs}{ns:lS lT}(o:∀t∈ss,Xb t)(e:ss.length<=10)(l:ns.length<=40/\∀n∈ns,Xb n)(y:∀t,(∀q∈val t,uO ns q)/\((val t).map fst).Nodup):Yg 24000 3 (BG ss val):=by
 refine(Yg.dict (n:=1160) (k:=2) (m:=10) (λd hd=>?_)<|by rw[List.length_zip,mO];lia).up (by lk) (by lk);obtain⟨a,b⟩:=d;obtain⟨j,i⟩:=tD hd;obtain⟨t,h,rfl⟩:=mZ.mp j;obtain⟨u,s,rfl⟩:=mZ.mp i;refine#[(DQ<|o t h).up (by lk) (by lk),Yg.list (n:=28) (k:=1) (m:=40) (λc z=>?_) ?_]
 ·obtain⟨q,x,rfl⟩:=mZ.mp z;obtain⟨g,s,r,p⟩:=(y u).1 q x;refine Yg.tuple (n:=6) (k:=0) (m:=4) (λc z=>?_)<|nH 4;simp only[nV,wN,tH]at z;rcases z with rfl|rfl|rfl|rfl
  ·show DQ<|l.2 _ g
  ·show .str (wB _ s).1 (wB _ s).2
  ·show .str (wB _ r).1 (wB _ r).2
  ·show .str (wB _ p).1 (wB _ p).2
 ·have:=Bb (y u).2 λn s=>by
   obtain⟨q,x,rfl⟩:=mZ.mp s;show((y u).1 q x).1
  rw[mO]at this ⊢;lia
def CP(ss:lS lT)(z:lS (lT×lT))(sts:lS lT)(val:lT->lS Zs):PyData:=.list [.list (ss.map PyData.str),.dict<|(z.map λp=>PyData.str p.1).zip (z.map λp=>PyData.str p.2),.list<|sts.map PyData.str,BG ss val]
def Fl(z:lS (lT×Nat))(ss:lS lT):PyData:=.list<|ss.map λt=>.int (((z.lookup t).getD 0:Nat):Int)
def Az(ad:pA)(u:lS (lT×lT))(val:lT->lS Zs)(x:lS (lT×Nat))(z:lT):Prop:=∃y sts,y.Perm (x.map fst)/\PyProof.Rows.sortedS y=true/\sts.Perm (ad.st.map fst)/\PyProof.Rows.sortedS sts=true/\z=(CP y u sts val).shown++(Fl x y).shown
def Az.one{ad y:pA}{val:lT->lS Zs}(h:Az ad s val r z)(h':Az y s val r q)(e:y.st=ad.st):z=q:=by
 obtain⟨x,sts,p,o,n,l,rfl⟩:=h;obtain⟨d,x,j,i,u,g,rfl⟩:=h';rw[e]at u;rw[yi o i (p.trans j.symm),yi l g<|n.trans u.symm]
def IH{ss:lS lT}(h:H l=some (.lst<|ss.map V.str)):Rp H (.list<|ss.map PyData.str) (.ref l):=by
 refine .lst h ?_;clear h
 induction ss with
 | nil=>show .nil
 | cons x ss z=>show .cons (.str x) z
def UL{f:lT->Int}{ss:lS lT}(h:H l=some (.lst<|ss.map λt=>V.int<|f t)):Rp H (.list<|ss.map λt=>PyData.int<|f t) (.ref l):=by
 refine .lst h ?_;clear h
 induction ss with
 | nil=>show .nil
 | cons x ss z=>show .cons (.int _) z
def Sd{z:lS (lT×lT)}(h:H l=some (.dK<|Zz V.str z)):Rp H (.dict<|(z.map λp=>PyData.str p.1).zip (z.map λp=>PyData.str p.2)) (.ref l):=by
 have r:qy H (z.map λp=>PyData.str p.2) ((Zz V.str z).map snd):=by
  clear h
  induction z with
  | nil=>show .nil
  | cons e x y=>show .cons (.str _) y
 have:=Rp.dk h r;rw[show(Zz V.str z).map (λp=>kD p.1)=z.map λp=>PyData.str p.1 from by rw[show Zz V.str z=z.map λq=>(Sum.inr q.1,V.str q.2)from rfl,oO];rfl]at this;show this
open Classical in
def uh(Z:lU->Prop)(H:Hp):Hp:=λb=>if Z b then none else H b
def Am{Z:lU->Prop}(e:H b=some o)(n:¬Z b):uh Z H b=some o:=(mV n).trans e
def HG{Z:lU->Prop}(e:uh Z H b=some o):H b=some o/\¬Z b:=by
 unfold uh at e
 by_cases z:Z b
 ·rw[mY z]at e;cases e
 ·rw[mV z]at e;show#[e,z]
def Pe{Z x:lU->Prop}(k:∀b o,H b=some o->¬Z b->r b=some o)(z:∀b,x b->Z b\/H b=none):mF (uh Z H) (uh x r):=λb o e=>by
 obtain⟨u,s⟩:=HG e;refine Am (k b o u s) λy=>?_
 rcases z b y with w|w
 ·show s w
 ·rw[u]at w;cases w
def zO(H:Hp)(Z:lU->Prop)(y:lU)(n:Nat):Prop:=∃z:lS lU,H y=some (.lst<|z.map V.ref)/\z.length<=n/\∀u∈z,∃(l:lU)(d:PyData),uh Z H u=some (.tup [.ref l,.str d.shown])/\Rp (uh Z H) d (.ref l)/\Yg 24000 3 d
def zO.on{Z x:lU->Prop}(h:zO H Z y n)(k:∀b o,H b=some o->¬Z b->r b=some o)(z:∀b,x b->Z b\/H b=none)(e:r y=H y):zO r x y n:=by
 obtain⟨q,p,j,i⟩:=h;have s:=Pe k z;refine#[q,e.trans p,j,λu g=>?_];obtain⟨l,d,c,a,Y⟩:=i u g;show#[l,d,s.at c,CL s a,Y]
inductive OG:Sp
 | mk (H0) (F:lU->Prop) (x tr ad lw) (val:lT->lS Zs) (ln:lS (lT×Nat)):vs=[.ref x]->nM T H0 H F x tr ad lw val ln->(∀p∈ln,p.2<=4)->(∀z H',mF H H'->Az ad lw val ln z->Q (.str z) H')->OG vs H Q E
def Ql(hb:∃mm,mG.Ns sysModules mm):T.eL.O P w mg mG 5 (OG T):=by
 refine T.eL.F.okW PX ?_;rfl'
 ·obtain⟨G,F,x,B,ad,L,val,g,rfl,z,h4,q⟩:=h;intro X D;have g8:=z.len;have y:∀{l:lS lT},l.Perm (g.map fst)->(∀t∈l,Xb t)/\l.length<=10:=λ{l} p=>#[λt Y=>by
   obtain⟨U,N,rfl⟩:=mZ.mp<|p.mem_iff.mp Y;show z.ok U N,by rw[p.length_eq,mO];show g8]
  refine mP (nk 1 PX<|Zn<|Zb (Yi (pv 0) T.ae T.ba (Xc T) hr.m T.aF.b .nil Z0)<|Zb (Yi (pv 0) T.ae T.cQ (Dy T) hr.m T.bo.b .nil Z0)<|Zb (Yi (pv 0) T.ae T.cK (W9 T) hr.m T.bf.b .nil Z0)<|Zb (Yi (pv 0) T.ae T.ci (Wf T) hr.m T.aY.b .nil Z0) Za) #[z.obj,rfl,G,F,x,B,ad,L,val,g,rfl,z,λl c p2 u o J j e1=>#[(z.mono J).obj,rfl,G,F,x,B,ad,L,val,g,rfl,z.mono J,λe a s2 n2 e2=>#[(z.mono<|J.trans s2).obj,rfl,G,F,x,B,ad,L,val,g,rfl,z.mono<|J.trans s2,λsts p3 p4 l3 H3 s3 n3 e3=>#[(z.mono<|J.trans<|s2.trans s3).obj,rfl,G,F,x,B,ad,L,val,g,rfl,z.mono<|J.trans<|s2.trans s3,λU3 l4 i9 H4 p5 p6 s4 n4 e4 f4 _=>#[mQ,λl5 H5 s5 n5 e5=>?_]]]]];obtain rfl:=yi p2 p6<|c.trans p5.symm;have Q7:=J.trans<|s2.trans<|s3.trans<|s4.trans s5;have I:=z.mono Q7;have d1:Yg 96004 4 (CP l L sts val):=by
   unfold CP;refine Yg.up (Yg.list (n:=24000) (k:=3) (m:=4) (λd hd=>?_) (by show nH 4)) (by lk) (by lk);simp only[nV,wN,tH]at hd;rcases hd with rfl|rfl|rfl|rfl
   ·show(Pk (y c).1 (y c).2).up (by lk) (by lk)
   ·refine(Yg.dict (n:=6) (k:=0) (m:=40) (λd hd=>?_) (by rw[List.length_zip,mO,mO];have:=z.lwl;lia)).up (by lk) (by lk);obtain⟨a,b⟩:=d;obtain⟨j,hb⟩:=tD hd;obtain⟨t,Y,rfl⟩:=mZ.mp j;obtain⟨u,e,rfl⟩:=mZ.mp hb;have o:=(z.kx.lok.2 u e).2;show#[DQ<|z.kx.nok.2 _ (z.kx.lok.2 t Y).1,.str (wB _ o).1 (wB _ o).2]
   ·refine(Pk (m:=40) (λt Y=>?_) (by rw[p3.length_eq,mO];show z.stl)).up (by lk) (by lk);obtain⟨U,N,rfl⟩:=mZ.mp<|p3.mem_iff.mp Y;show z.kx.nok.2 _ (z.kx.sok.2 U N).1
   ·show Mb (y c).1 (y c).2 z.kx.nok z.kx.pok
  have d2:Yg 70 1 (Fl g l):=by
   refine Yg.list (n:=6) (k:=0) (m:=10) (λd hd=>?_) (by rw[mO];show(y c).2);obtain⟨t,Y,rfl⟩:=mZ.mp hd;obtain⟨U,N,rfl⟩:=mZ.mp<|c.mem_iff.mp Y;rw[Wj z.lnd N];have:=h4 U N;show Re U.2 (by lia)
  have z1:=d1.half (by lk);have z2:=d2.half (by lk);have e0:sizeLine=16777216:=rfl;have r1:Rp H5 (CP l L sts val) (.ref l5):=.lst e5<|.cons (IH<|(s2.trans<|s3.trans<|s4.trans s5).at e1)<|.cons (Sd<|(s3.trans<|s4.trans s5).at e2)<|.cons (IH<|(s4.trans s5).at e3)<|.cons (f4 ▸ (e4.mono s5).rp) .nil;refine mS (Zl<|Zq Wl (Yc (r:=Ag) (Ci hb hr.gd hr.units) (by rfl) T.gN Cw<|Zb (pv 1) Za)<|Yc (r:=Ag) (Ci hb hr.gd hr.units) (by rfl) T.gN Cw<|Zb (pH ["_law_name","_law_keeper"] (ph 1 [0] rfl) (Yl<|Yi (pv 0) T.ae T.ba (Xc T) hr.m T.aF.b .nil Z0) (oK 0) X5 (Z5 (pv 1) T.ae T.fw (YX T) hr.m T.cy.b .nil Z0<|Zb (pv 0) Za)) Za) #[l5,_,rfl,r1,d1.1,oo d1.2.2.1 (by lk),by lia,I.obj,rfl,G,F,x,B,ad,L,val,g,rfl,I,λU3 p7 p8 u H6 s6 o e6=>?_];obtain rfl:=yi p2 p8<|c.trans p7.symm;refine#[mU e6,λC hC=>Yy (xs:=l.map V.str) (λi ys H'=>ys=((l.take i).map λt=>V.int (((g.lookup t).getD 0:Nat):Int))/\H' C=some (.lst ys)/\mF H6 H') #[rfl,Zc,oU hC] ?_ ?_ ?_]
  ·rintro i ys H' _ ⟨_,_,u⟩;show mU<|u.at e6
  ·rintro j v ys H7 a ⟨rfl,M,s7⟩;rw[nR]at a;obtain⟨t,Y,rfl⟩:=nW.mp a;obtain⟨U,N,rfl⟩:=mZ.mp<|c.mem_iff.mp<|pE Y;have u:=I.mono<|s6.trans s7;have K4:=(y c).2;unfold qu;refine#[oR rfl,u.obj,rfl,G,F,x,B,ad,L,val,g,U,rfl,u,N,λH8 s8=>#[s8.at M,?_,?_,Zc,λb o e=>?_]]
   ·rw[mO,oy];show Zp (by lia)
   ·rw[ou,Y,nw];change _=_++[V.int (((g.lookup U.1).getD 0:Nat):Int)];rw[Wj z.lnd N]
    rfl
   ·rw[Zd (Zf e hC)];show s8.at<|s7.at e
  ·rintro ys H7 ⟨rfl,M,s7⟩;rw[mO,pq]at M;have u:Rp H7 (Fl g l) (.ref C):=UL M;show#[C,_,rfl,u,d2.1,oo d2.2.2.1 (by lk),by lia,.inr<|.inl #[_,_,rfl,rfl,by lia,q _ H7 (Q7.trans<|s6.trans s7) #[l,sts,c,p2,p3,p4,rfl]]]
def Fw(sn:lT)(qs:lS S4):Tr:=.tup<|.str sn ::qs.map wA
def qc.im{qs:lS S4}(h:qc ns H t sn qs):Im K H 2 (Fw sn qs) (.ref t):=by
 obtain⟨x,z,y⟩:=h;show vL (n:=1) (mW z)<|.cons (.str _) y.im
def Yex{ts:lS lU}{z:lS (lS S4)}(h:Paired (λt ss=>qc ns H t sn ss) ts z):Paired (Im K H 2) (z.map<|Fw sn) (ts.map V.ref):=by
 induction h with
 | nil=>show .nil
 | cons r _ y=>show .cons r.im y
inductive Li(T:Tx K mg):Sp
 | mk (H0) (F:lU->Prop) (x tr dt ad) (lw:lS (lT×lT)) (val:lT->lS Zs) (ln:lS (lT×Nat)) (ps js) (sg:lS (lT×lT×lT)) (nm) (cell:Int):vs=[.ref x,.ref tr,.str nm,.int cell,.ref dt]->nM T H0 H F x tr ad lw val ln->ad.ns=ps.map snd->Z4 T H0 tr ps js sg->Xe ps js sg->qD T H0->nm∈ln.map fst->val nm≠[]->H dt=some (.dK<|Zz V.bl [])->
  (∀v (H':Hp) (F':lU->Prop) (z7:pA) (lw':lS (lT×lT)) (D8:lT->lS Zs),(∀b,F' b->F b\/H b=none)->uv F H H'->z7.ns=ad.ns->z7.sd=ad.sd->(∀t,val t≠[]->D8 t≠[])->nM T H0 H' F' x tr z7 lw' D8 ln->Q v H')->Li T vs H Q E
def Ly:T.eu.O P w mg mG 11 (Li T):=by
 refine T.eu.F.okL T.ft yd λcdc A mD s H vs Q E hL I h=>?_
 ·obtain⟨H0,F,x,tr,dt,ad,lw,val,ln,ps,js,sg,nm,cell,rfl,Y,E6,ht,yv,tb,hm,w4,hdt,q⟩:=h;intro X D;obtain⟨o,_,_,_,_,_,_,_,_,N3,_⟩:=(ht.mono Y.same).ex;refine mP (nk 5 yd<|nq (Z5 (pv 0) T.ae T.bP (Wn T) I.m T.ax.b .nil Z0<|Zb (pv 2) Za)<|xg wV Ze) #[Y.obj,rfl,H0,F,x,tr,ad,lw,val,ln,nm,rfl,Y,hm,λl H1 s1 o ⟨ts,hl,j8⟩=>?_];obtain⟨ws,tq,rfl⟩:∃ws tq,ts=ws++[tq]:=by
   have:ts≠[]:=λy=>by
    rw[y]at j8;show w4<|Ah.mp (nJ j8).symm
   show#[ts.dropLast,ts.getLast this,(HQ _).symm]
  obtain⟨N,_,rq⟩:=oQ j8 (i:=ws.length) (a:=tq) (by simp);have rq:pF H1 tq N:=rq;have la:oJ ((ws++[tq]).map V.ref) (-1)=some (.ref tq):=by
   rw[nw];show GU _ _
  refine .inl #[mU hl,la,?_];refine mP (nk 6 yd<|Z5 (pv 1) T.ak T.aK (Yx T) I.m T.ar.b .nil Z0<|Zb (Zi<|Zb (nq (pv 5) Ze)<|Zb (nq (pv 5) Ze) Za) Za) #[s1.at N3,rfl,.inr<|.inl #[mW rq,Zm (j:=0) rfl,.inr<|.inl #[mW rq,Zm (j:=2) rfl,mQ,λo g s2 c l=>#[tr,o,(N.1,N.2.2.1),ps,js,sg,rfl,ht.mono (Y.mono<|s1.trans s2).same,yv,l,λM hn=>?_]]]];refine mP (nk 7 yd<|Zn Za) #[mQ,λl3 o s3 l e3=>?_];have A9:=s1.trans<|s2.trans s3;have D6:=Y.mono A9;let I24:IC:=λz H'=>∃(l4:lU)(C:lS (lS S4)),z=[some (.ref x),some<|.ref tr,some<|.str nm,some<|.int cell,some<|.ref dt,some<|.ref tq,some<|.str M,some<|.ref l4,none]/\mF H H'/\qI (ps.map snd) H' l4 M C/\(∀r∈C,wQ r)/\(C≠[]->∃e:Zh,((M,e):lT×lT×lT)∈sg)
  refine qh I24 (qf (Zu (qU I (pv 6) Zg) Zo Zj)<|.inl #[rfl,Yf (λy=>?_) λ_=>#[l3,[],rfl,A9,#[[],e3,.nil],(λ_ y=>nomatch y),λy=>absurd rfl y]]) ?_
  ·have y:M≠ "":=λu=>by
    rw[u]at y;show absurd y (by left)
   rcases hn with⟨o,_,_⟩|⟨o,_⟩
   ·obtain⟨g,hg,l⟩:=mZ.mp o;have hg:((M,(N.1,N.2.2.1)):lT×lT×lT)∈sg:=(show g=(M,N.1,N.2.2.1)from l) ▸ hg;show mS (nk 7 yd<|Zv (SL T) I<|Zb (pv 1)<|Zb (pv 6) Za) #[tr,(M,(N.1,N.2.2.1)),ps,js,sg,rfl,ht.mono D6.same,yv,hg,λl4 C H4 s4 c r4 G ok=>#[l4,C,rfl,A9.trans s4,r4,ok,λ_=>#[_,hg]]]
   ·show absurd o y
  rintro z H4 ⟨l4,C,rfl,s4,⟨us,e4,r4⟩,okr,hsg⟩;have F2:=nJ r4;refine mP (Zu (W0 I (pv 7)<|Zn Za) Zo Zj) #[mQ,λc G B n5 l=>.inr<|.inl #[3,.lst<|C.map<|Fw M,.lst [],by lk,.inr #[_,_,rfl,rfl],vK (mU<|B.at e4)<|Yex<|nO r4 λ_ _ r=>r.mono B,vK (mU l) .nil,Yf (λy=>mS (Zl<|Zi<|Zb Zg<|Zb Zg Za) #[mQ,λt6 g o _ _=>q _ g F ad lw val (λb y=>.inl y) (vt<|s4.trans<|B.trans o) rfl rfl (λ_ y=>y)<|Y.mono<|s4.trans<|B.trans o]) λy=>?_]];have O3:C≠[]:=λu=>y (by rw[u];show nZ rfl)
  obtain⟨e,hg⟩:=hsg O3;have Q7:=s4.trans B;have hw5:=Y.mono Q7;have M8:0<us.length:=by rw[F2];show GD λu=>O3<|Ah.mp u
  obtain⟨j,hj,x9⟩:=uc (a:=cell) (n:=us.length) M8;obtain⟨p,hu⟩:∃p,us[j]? =some p:=#[_,oE x9]
  obtain⟨qs,hqs,ru⟩:=oQ r4 hu;refine mP (nk 8 yd<|nq (pv 7)<|Zq Yn (pv 3)<|pI T.bw<|pv 7)<|.inl #[.inl<|mU<|B.at e4,(by rw[mO];change(0:Int)<_;lia),.inl #[mU<|B.at e4,(show oJ _ (cell%(((us.map V.ref).length:Nat):Int))=some (.ref p)from by rw[mO,hj];show Zm<|by rw[nR,hu];rfl),?_]];have tb5:=tb.mono hw5.same;refine mS (Zl<|Zi<|Zb (pv 8)<|Zb (yM (X8 T) I.m (λ_=>rfl) rfl T.am.m T.am.F.kp T.am.b<|Zb (xV (Pt:=T.cA) rfl hL) Za) Za) #[_,tb5._law_led,oM,λl g s7 n7 o=>yC T o (fs:=["_law_keeper","_law_name","_law_way","_law_seen"]) (fvs:=[.ref x,.str nm,.ref p,.ref dt]) (.cons #[0,_,rfl,rfl,rfl,rfl,rfl,rfl]<|.cons #[2,_,rfl,rfl,rfl,rfl,rfl,rfl]<|.cons #[8,_,rfl,rfl,rfl,rfl,rfl,rfl]<|.cons #[4,_,rfl,rfl,rfl,rfl,rfl,rfl] .nil) ?_ ?_ ?_ (λ_ _ _=>rfl) (by left) (by left) rfl rfl rfl λG c A mD s E sG qe I=>rc (Z5 (pv 0) T.ae T.eU (UW T) I.m T.bu.b .nil xZ<|Zb (pv 1)<|Zb (pv 2)<|Zb (pv 3) Za) ?_]
  ·simp
  ·simp;decide +kernel
  ·simp;lia
  have M7:=Q7.trans s7;have L:=M7.trans sG;have hwG:=Y.mono L;refine#[hwG.obj,rfl,H0,F,x,tr,p,dt,ad,lw,val,ln,ps,js,sg,nm,(M,e),qs,rfl,hwG,E6,ht,yv,tb,hm,w4,hg,ru.mono<|B.trans<|s7.trans sG,okr _<|pE hqs,L.at hdt,λc F8 ad8 lw8 V3 f8 off8 ns8 sd8 ne8 k8 H9 bk=>#[mQ,λd U J _ _=>?_],λr G dx c o l s8 g=>qe r G dx c o l s8 g λH9 s9=>?_]
  ·have k9:=(k8.back bk<|Y.same.trans M7).mono J;refine q _ U _ ad8 lw8 V3 (λb y=>?_) (λb o l y=>?_) ns8 sd8 ne8 k9
   ·rcases f8 b y.1 with u|u
    ·show .inl u
    ·show .inr<|L.free u
   ·show J.at<|bk.old _ _ _ (M7.at y)<|off8 _ _ l<|L.at y
  ·have fin:∀d U,mF H9 U->Q (.ref d) U:=λd U J=>q _ U F ad lw val (λb y=>.inl y) (vt<|M7.trans<|s9.trans J) rfl rfl (λ_ y=>y)<|Y.mono<|M7.trans<|s9.trans J
   show#[λ_=>#[mQ,λd U J _ _=>fin d U J],λo _ t _=>#[mQ,λd U J _ _=>fin d U J]]
section
variable {U:Tx K mg} {H0 H H':Hp} {F:lU->Prop} {x tr kd:lU} {ad:pA} {lw:lS (lT×lT)} {val:lT->lS Zs} {ln:lS (lT×Nat)}
def nM.setU{u o:HO}(h:nM U H0 H F x tr ad lw val ln)(s:H kd=some u)(r:∀xs,u≠.tup xs)(he:∀e∈ad.es,e.2≠kd)(q:¬F kd)(p:kd≠ad.ld)(ns:kd≠ad.sd)(n0:H0 kd=none):nM U H0 (mM H kd o) F x tr ad lw val ln:=by
 have f:∀{b:lU},F b->b≠kd:=λz y=>q<|y ▸ z
 have u:∀{b:lU}{v:HO},b≠kd->H b=some v->mM H kd o b=some v:=λn z=>by rw[Zd n];show z
 show#[u (f h.fx) h.obj,u p.symm h.lies,u ns.symm h.sti,u (f h.fn) h.lens,h.pth.offC (f h.fp) he s r,h.nm,h.lnd,h.len,h.vl,h.ok,h.fx,h.fn,h.fp,h.ne,h.nl,h.ns,h.ni,h.free,λb v e=>u (Zf e n0)<|h.same.at e,(λb z=>let⟨v,y,n⟩:=h.live b z;#[v,u (f z) y,n]),h.kx]
def nM.setK{o:HO}{kvs:lS (nj×V)}(h:nM U H0 H F x tr ad lw val ln)(u:H kd=some (.dK kvs))(s:¬F kd)(r:kd≠ad.ld)(ns:kd≠ad.sd)(n0:H0 kd=none):nM U H0 (mM H kd o) F x tr ad lw val ln :=
 h.setU u (λ_ z=>nomatch z) (λe he z=>by obtain⟨q,y,_⟩:=h.pth.2 e he;rw[z,u]at y;cases y) s r ns n0
def nM.keepP{ss:lS Zs}{l:lU}(h:nM U H0 H F x tr ad lw val ln)(k:∀b o,¬F b->H b=some o->H' b=some o)(z:¬F l)(p:Yj H l ss):Yj H' l ss :=
 let⟨y,u,s⟩:=p
 #[y,k _ _ z u,nO s λt _ r=>k _ _ (λf=>by obtain⟨o,e,n⟩:=h.live t f;show n _<|oF<|e.symm.trans r) r]
end
def Va{val:lT->lS Zs}{nm t:lT}(h:val t≠[]):qW val nm t≠[]:=by
 unfold qW;split
 ·rename_i e;rw[e]at h;intro z;rw[List.map_eq_nil_iff,List.reverse_eq_nil_iff]at z;show h z
 ·show h
inductive QE:Sp
 | mk (H0) (F:lU->Prop) (x tr) (ad:pA) (lw:lS (lT×lT)) (val:lT->lS Zs) (ln:lS (lT×Nat)) (ps js) (sg:lS (lT×lT×lT)) (nm:lT):vs=[.ref x,.ref tr,.str nm]->nM T H0 H F x tr ad lw val ln->Z4 T H0 tr ps js sg->Xe ps js sg->qD T H0->(∀t∈ln.map fst,val t≠[])->(∀p∈ln,p.2<=4)->(∀(H':Hp)(F':lU->Prop)(z7:pA)(D8:lT->lS Zs),(∀b,F' b->F b\/H b=none)->uv F H H'->z7.ns=ad.ns->z7.st=ad.st->(∀t,val t≠[]->D8 t≠[])->nM T H0 H' F' x tr z7 lw D8 ln->Q (.bl true) H')->QE vs H Q E
def Tu(hb:∃mm,mG.Ns sysModules mm):T.dv.O P w mg mG 11 (QE T):=by
 refine T.dv.F.okL T.er Bh λcdc A mD s H vs Q E hL g h=>?_
 ·obtain⟨H0,F,x,tr,ad,lw,val,ln,ps,js,M,nm,rfl,a,ht,yv,tb,w4,h4,q⟩:=h;intro X D;obtain⟨z,_,_,_,_,_,_,_,_,N3,_⟩:=(ht.mono a.same).ex;refine mP (nk 3 Bh<|Yi (pv 0) T.ae T.ci (Wf T) g.m T.aY.b .nil Z0) #[a.obj,rfl,H0,F,x,tr,ad,lw,val,ln,rfl,a,λz D d u p1 r s1 n1 e1 f1 g1=>?_];refine mP (nk 4 Bh<|Zv (Ql T hb) g<|Zb (pv 0) Za) #[H0,F,x,tr,ad,lw,val,ln,rfl,a.mono s1,h4,λz0 H2 s2 tk=>?_];have N:=s1.trans s2;have J5:=a.mono N;have e2:=e1.mono s2;have esn:(d.map fst).Nodup:=by rw[f1];show p1.nodup_iff.mpr a.lnd
  have fin:∀L,mF H L->Q (.bl true) L:=λL s'=>q L F ad val (λb y=>.inl y) (vt s') rfl rfl (λ_ y=>y)<|a.mono s'
  by_cases hm:nm∈ln.map fst
  ·obtain⟨l,hl⟩:∃l,(nm,l)∈d:=by
    obtain⟨e,he,y⟩:=mZ.mp (show nm∈d.map fst by rw[f1];show p1.mem_iff.mpr hm);show#[e.2,y ▸ he]
   have hv:Y7 (Zz V.ref d) (Xa nm)=some (.ref l):=vp esn hl;refine mP (Zu (rK g (pv 2)<|pv 3) Zo Zj)<|.inr<|.inl #[D,_,rfl,X0.k (k:=Xa nm) e2.1,?_];rw[hv];obtain⟨n,Zt,hq0⟩:∃n Zt,val nm=n ::Zt:=List.exists_cons_of_ne_nil<|w4 nm hm;obtain⟨ts,hts1,R3⟩:=e2.2 (nm,l) hl;obtain⟨t0,Q0,r0⟩:∃t0,ts[0]? =some t0/\pF H2 t0 n:=by
    have R3:rA H2 ts (val nm):=R3;rw[hq0]at R3;cases R3 with
    | cons r _=>show#[_,rfl,r]
   refine mP (nk 5 Bh<|nq (tS (Xy g) (pv 3) (pv 2) λ_ _=>rfl) Ze)<|zp.mk (v:=.ref l) (by rw[<-hv];show X0.k (k:=Xa nm) e2.1)<|.inl #[mU hts1,Zm (j:=0) (by rw[nR,Q0];rfl),?_];have hse:∀{sn:lT},(((sn,(n.1,n.2.1))∈qS M/\Xb sn/\((n.1,n.2.1):Zh)∈M.map snd)\/(sn =""/\((n.1,n.2.1):Zh)∉M.map snd))->decide (V.str sn=V.str "")=!decide (((n.1,n.2.1):Zh)∈M.map snd):=λy=>Hz yv y
   have tb2:=tb.mono J5.same
   by_cases he:vf M (rT n)=true
   ·let I25:IC:=λz L=>z=[some (.ref x),some<|.ref tr,some<|.str nm,some<|.ref D,some<|.str z0,some<|.ref t0]/\mF H2 L
    refine qh I25 (qf (Zu (pN<|uC (qU g (nq (pv 5) Ze) Zg)<|vc<|W0 g (Z5 (pv 1) T.ak T.aK (Yx T) g.m T.ar.b .nil Z0<|Zb (Zi<|Zb (nq (pv 5) Ze)<|Zb (nq (pv 5) Ze) Za) Za) Zg) Zo Zj)<|.inr<|.inl #[mW r0,Zm (j:=1) rfl,.inl #[rfl,Yf (λy=>#[N.at N3,rfl,.inr<|.inl #[mW r0,Zm (j:=0) rfl,.inr<|.inl #[mW r0,Zm (j:=1) rfl,mQ,λt3 H3 s3 n3 e3=>#[tr,t3,(n.1,n.2.1),ps,js,M,rfl,ht.mono (J5.mono s3).same,yv,e3,λsn hn=>.inl #[rfl,Yf (λu=>?_) λ_=>#[rfl,s3]]]]]]) λy=>#[rfl,pO _]]]) ?_
    ·exfalso
     rw[hse hn]at u;have he:(decide (n.2.1 ="") || decide (((n.1,n.2.1):Zh)∈M.map snd))=true:=he;rcases(An _ _).mp he with k|k
     ·rw[pD k]at y;show absurd y (by left)
     ·rw[k]at u;cases u
    rintro z H3 ⟨rfl,s23⟩;have A9:=N.trans s23;have D6:=a.mono A9;refine mP (Zu (qU g (yM (X8 T) g.m (λ_=>rfl) rfl T.am.m T.am.F.kp T.am.b<|Zb (xV (Pt:=T.bd) rfl hL) Za) Zg) Zo Zj) #[_,tb2.mono s23|>._law_about,pe _ (pe _ oM),λfl H4 U n4 cl=>yC T cl (fs:=["_law_keeper","_law_name"]) (fvs:=[.ref x,.str nm]) (.cons #[0,_,rfl,rfl,rfl,rfl,rfl,rfl]<|.cons #[2,_,rfl,rfl,rfl,rfl,rfl,rfl] .nil) ?_ ?_ ?_ (λ_ _ _=>rfl) (by left) (by left) rfl rfl rfl λG c A' L0 s' E' sG qe E7=>rc (Z5 (pv 0) T.ae T.de (Gv T) E7 T.aO.b .nil xZ<|Zb (pv 1) Za) #[(D6.mono<|U.trans sG).obj,rfl,.mk H0 F x tr ad lw val ln ps js M nm n Zt rfl (D6.mono<|U.trans sG) ht yv hm hq0 (λ_ H5 ad5 off5 ns5 z8 ld5 sd5 k5 H6 bk=>.inl #[rfl,?_]) λu=>absurd he<|by rw[u];decide]]
    ·simp
    ·simp;decide +kernel
    ·simp
    have K5:=A9.trans U;have k6:=k5.back bk<|a.same.trans K5;have J:∀b o,¬F b->H4 b=some o->H6 b=some o:=λb o nb y=>bk.old _ _ _ y<|off5 _ _ nb<|sG.at y
    have nD:¬F D:=a.neF n1;have B3:H6 D=some (.dK<|Zz V.ref d):=J _ _ nD<|(s23.trans U).at e2.1;have p6:∀e∈d,Yj H6 e.2 (val e.1):=λe C7=>(a.mono K5).keepP J (a.neF<|g1 e C7) ((e2.2 e C7).mono (s23.trans U))
    obtain⟨ts6,h6,r6⟩:Yj H6 l (val nm):=p6 (nm,l) hl;have r6l:=nJ r6;have O4:=a.vl nm;refine mP (ua (Xy g) (pv 3) (pv 2) (IJ (ops:=λl r=>[l,r]) (pH ["_law_step"] (ph 1 [] rfl) (Yl<|tS (Xy g) (pv 3) (pv 2) λ_ _=>rfl) (oK 0) X5 (Zi<|Zb (Wx (K:=K) rfl (pv 0) Ze)<|Zb (Wx (K:=K) rfl (pv 0) Ze)<|Zb (Wx (K:=K) rfl (pv 0) Ze)<|Zb (Wx (K:=K) rfl (pv 0) Ze) Za)) (We<|xg wV Ze) λ_ _=>by with_unfolding_all rfl) rfl)<|zp.mk (v:=.ref l) (by rw[<-hv];show X0.k (k:=Xa nm) B3) #[mU h6,λC hC=>Yy (K:=K) (xs:=ts6.map V.ref) (λi ys L=>(∃us:lS lU,ys=us.map V.ref/\Paired (pF L) us (((val nm).take i).map rT))/\L C=some (.lst ys)/\mF H6 L) #[#[[],rfl,.nil],Zc,oU hC] ?_ ?_ ?_]
    ·rintro i ys L _ ⟨_,_,sm⟩;show mU<|sm.at h6
    ·rintro i v ys H7 hi ⟨⟨us,rfl,j7⟩,I,s7⟩;rw[nR]at hi;obtain⟨t,D3,rfl⟩:=nW.mp hi;obtain⟨q4,hq,P4⟩:=oQ r6 D3;have P4:pF H7 t q4:=s7.at P4;have F2:=nJ j7;rw[mO,oy]at F2;refine#[oR rfl,.inr<|.inl #[mW P4,Zm (j:=0) rfl,.inr<|.inl #[mW P4,Zm (j:=2) rfl,.inr<|.inl #[mW P4,Zm (j:=1) rfl,.inr<|.inl #[mW P4,Zm (j:=3) rfl,mQ,λt8 H8 s8 n8 e8=>#[s8.at I,by rw[mO];show Zp (by lia),#[us++[t8],by rw[nw];rfl,?_],Zc,λb o y=>?_]]]]]]
     ·rw[ou,hq,nw];show pj (nO j7 λ_ _ r=>(r.mono s8).off (s8.at I))<|.cons (pF.off (q:=rT q4) e8<|s8.at I) .nil
     ·rw[Zd (Zf y hC)];show s8.at<|s7.at y
    rintro ys H7 ⟨⟨us,rfl,j7⟩,I,s7⟩;rw[mO,r6l,pq]at j7;refine#[C,_,rfl,rfl,mU I,λY H8 s8 n8 e8=>#[qR.k (k:=Xa nm) ((s7.trans s8).at B3) ?_,?_]]
    ·have:=oN List.length f1;rw[mO,p1.length_eq,mO]at this;have:=a.len;rw[show(Zz V.ref d).length=d.length from mO ..];show Zp (by lia)
    have ee:Wk (Zz V.ref d) (Xa nm) (V.ref Y)=Zz V.ref (pp d nm Y):=CF _ _ _;rw[ee];have B:=s7.trans s8;have p8:Yj H8 Y ((val nm).reverse.map rT):=#[us.reverse,by rw[e8,zE],by
     have:=Hm<|nO j7 λ_ _ r=>r.mono s8;rw[zE];show this]
    have k8:=k6.mono B;have nD6:H D=none:=n1;have k9:=k8.setK (o:=.dK<|Zz V.ref<|pp d nm Y) (B.at B3) (λy=>nD y.1) (λy=>by rw[ld5]at y;rw[y,a.lies]at n1;cases n1) (λy=>by rw[sd5]at y;rw[y,a.sti]at n1;cases n1) (by
     cases u:H0 D with
     | none=>rfl
     | some o=>rw[a.same.at u]at n1;cases n1)
    have l8D:Y≠D:=λy=>by rw[y,s7.at B3]at n8;cases n8
    have offD:∀{c:lU}{xs:lS Zs},c≠D->Yj H8 c xs->Yj (mM H8 D<|.dK<|Zz V.ref<|pp d nm Y) c xs:=λ{c xs} nc y=>y.off nc λws u=>by rw[B.at B3]at u;cases u
    have p9:∀e∈pp d nm Y,Yj (mM H8 D<|.dK<|Zz V.ref<|pp d nm Y) e.2 (qW val nm e.1):=λe C7=>by
     rcases OQ C7 with rfl|⟨y,u⟩
     ·change Yj _ Y (qW val nm nm);unfold qW;rw[mY rfl];show offD l8D p8
     ·unfold qW;rw[mV u];refine offD (λk=>?_)<|(p6 e y).mono B;obtain⟨ws,k1,_⟩:=p6 e y;rw[k,B3]at k1;cases k1
    generalize hH9:mM H8 D (.dK<|Zz V.ref<|pp d nm Y)=H9 at k9 p9;have hD9:H9 D=some (.dK<|Zz V.ref<|pp d nm Y):=by rw[<-hH9];show Zc
    refine mS (Zl<|vA g (Yi (pv 0) T.ae T.ci (Wf T) g.m T.aY.b .nil Z0)<|pv 3) #[k9.obj,rfl,H0,_,x,tr,ad5,lw,qW val nm,ln,rfl,k9,λU3 D' i9 K0 p1' p2' w6 n10 jh f10 g10=>.inr<|.inr #[D',D,_,_,rfl,rfl,.inl jh.1,.inl<|w6.at hD9,?_,λkv B8=>?_,?_]]
    ·rw[show(Zz V.ref i9).length=i9.length from mO ..,show(Zz V.ref<|pp d nm Y).length=(pp d nm Y).length from mO ..];have a1:=oN List.length f10;have a2:=oN List.length<|Dc d nm Y;rw[mY (by rw[f1];show p1.mem_iff.mpr hm),f1]at a2;rw[mO]at a1 a2;rw[a1,a2,p1'.length_eq,p1.length_eq]
    ·obtain⟨e,C7,rfl⟩:=mZ.mp B8;have hme:e.1∈(pp d nm Y).map fst:=by
      rw[Dc,mY (by rw[f1];show p1.mem_iff.mpr hm),f1];show p1.mem_iff.mpr<|p1'.mem_iff.mp<|f10 ▸ mZ.mpr #[e,C7,rfl]
     obtain⟨e',he2,y⟩:=mZ.mp hme;refine#[.ref e'.2,?_,.inr #[2,.lst<|(qW val nm e.1).map wA,by lk,(jh.2 e C7).im,?_]]
     ·have:=vp (f:=V.ref) (EF (v:=Y) (x:=nm) esn) he2;rw[y]at this;show this
     ·have:=(p9 e' he2).mono w6;rw[y]at this;show this.im
    ·refine q K0 _ ad5 (qW val nm) (λb y=>.inl y.1) (λb o nb y=>?_) ns5 z8 (λt y=>Va y)<|k9.mono w6;have nbD:b≠D:=λu=>by rw[u,n1]at y;cases y
     refine w6.at ?_;rw[<-hH9,Zd nbD];show B.at<|J _ _ nb<|K5.at y
   ·have o:vf M (rT n)=false:=by simpa using he
    have z:(decide (n.2.1 ="") || decide (((n.1,n.2.1):Zh)∈M.map snd))=false:=o;rw[Bool.or_eq_false_iff]at z;refine mP (Zu (pN<|uC (qU g (nq (pv 5) Ze) Zg)<|vc<|W0 g (Z5 (pv 1) T.ak T.aK (Yx T) g.m T.ar.b .nil Z0<|Zb (Zi<|Zb (nq (pv 5) Ze)<|Zb (nq (pv 5) Ze) Za) Za) Zg) Zo Zj) (.inr (.inl #[mW r0,Zm (j:=1) rfl,.inl #[rfl,Yf (λy=>#[N.at N3,rfl,.inr<|.inl #[mW r0,Zm (j:=0) rfl,.inr<|.inl #[mW r0,Zm (j:=1) rfl,mQ,λt3 H3 s3 n3 e3=>#[tr,t3,(n.1,n.2.1),ps,js,M,rfl,ht.mono (J5.mono s3).same,yv,e3,λsn hn=>.inl #[rfl,Yf (λu=>?_) λu=>absurd (by rw[hse hn,z.2];rfl) u]]]]]) (λy=>absurd (by
     change(!decide (V.str n.2.1=V.str ""))=true;rw[ow λu=>of_decide_eq_false z.1<|V.str.inj u]
     rfl) y)]]))
    have A9:=N.trans s3;have D6:=a.mono A9;refine mS (Zl<|xt (vA g (yM (X8 T) g.m (λ_=>rfl) rfl T.am.m T.am.F.kp T.am.b<|Zb (xV (Pt:=T.bd) rfl hL) Za) Zg)<|xX<|vA g (Zv (Ql T hb) g<|Zb (pv 0) Za)<|pv 4) #[_,tb2.mono s3|>._law_about,pe _ oM,λfl H4 U n4 cl=>yC T cl (fs:=["_law_keeper","_law_name"]) (fvs:=[.ref x,.str nm]) (.cons #[0,_,rfl,rfl,rfl,rfl,rfl,rfl]<|.cons #[2,_,rfl,rfl,rfl,rfl,rfl,rfl] .nil) ?_ ?_ ?_ (λ_ _ _=>rfl) (by left) (by left) rfl rfl rfl λG c A' L0 s' E' sG qe E7=>rc (Z5 (pv 0) T.ae T.de (Gv T) E7 T.aO.b .nil xZ<|Zb (pv 1) Za) #[(D6.mono<|U.trans sG).obj,rfl,.mk H0 F x tr ad lw val ln ps js M nm n Zt rfl (D6.mono<|U.trans sG) ht yv hm hq0 (λu=>absurd u he) λ_ H5 s5=>qe 3 none none H5 (by lk) rfl s5 rfl λH6 s6=>#[λ_=>.inl #[rfl,oB.t (by left) #[H0,F,x,tr,ad,lw,val,ln,rfl,D6.mono<|U.trans s6,h4,λY H7 s7 i=>.inl #[rfl,?_]]],λp y=>nomatch y]]]
    ·simp
    ·simp;decide +kernel
    ·simp
    rw[Az.one i tk rfl,nZ rfl];show fin H7<|A9.trans<|U.trans<|s6.trans s7
  ·have hv:Y7 (Zz V.ref d) (Xa nm)=none:=X1 (by rw[f1];show λy=>hm<|p1.mem_iff.mp y);refine mP (Zu (rK g (pv 2)<|pv 3) Zo Zj)<|.inr<|.inl #[D,_,rfl,X0.k (k:=Xa nm) e2.1,?_];rw[hv];refine mS (Zl<|vA g (yM (X8 T) g.m (λ_=>rfl) rfl T.am.m T.am.F.kp T.am.b<|Zb (xV (Pt:=T.bd) rfl hL) Za) Zg) #[_,(tb.mono J5.same)._law_about,oM,λfl H4 U n4 cl=>yC T cl (fs:=["_law_keeper","_law_name"]) (fvs:=[.ref x,.str nm]) (.cons #[0,_,rfl,rfl,rfl,rfl,rfl,rfl]<|.cons #[2,_,rfl,rfl,rfl,rfl,rfl,rfl] .nil) ?_ ?_ ?_ (λ_ _ _=>rfl) (by left) (by left) rfl rfl rfl λG c A' L0 s' E' sG qe E7=>rc (Z5 (pv 0) T.ae T.de (Gv T) E7 T.aO.b .nil xZ<|Zb (pv 1) Za) #[(J5.mono<|U.trans sG).obj,rfl,.no #[H0,F,x,tr,ad,lw,val,ln,.str nm,rfl,J5.mono<|U.trans sG,Ybx hm,λH5 s5=>qe 1 none none H5 (by lk) rfl s5 rfl λH6 s6=>#[λ_=>.inl #[rfl,?_],λp y=>nomatch y]]]]
   ·simp
   ·simp;decide +kernel
   ·simp
   show fin H6<|N.trans<|U.trans s6
def vP(val:lT->lS Zs)(ts:lS lT):lS Zh:=ts.flatMap λt=>(val t).dropLast.map wR
theorem Qm{val:lT->lS Zs}(h:∀t,(val t).length<=100):∀ts:lS lT,(vP val ts).length<=100 * ts.length
 | []=>pJ _
 | t ::ts=>by
  have:=Qm h ts;have k:=h t;unfold vP at this ⊢;rw[BM,oj,mO,vD,pi];lia
theorem TU(T:Tx K mg){ps u y}(s:Xe ps u y)(r:("zz":lT)∉y.map fst):∀j,j<4->∃v b,[V.str "",.str "zz",.non,.int 5][j]? =some v/\(∀H,xq K H v b)/\∀nm:lT,v=.str nm->nm∉y.map fst
 | 0,_=>#[_,false,rfl,λH=>.inl #["",rfl,by left,by left,by left],λnm e x=>by
  cases e;obtain⟨q,p,z⟩:=mZ.mp x;show xS (s.sigs.name q p) z]
 | 1,_=>#[_,true,rfl,λH=>.inl #["zz",rfl,by left,by left,by left],λnm e x=>by
  cases e;show r x]
 | 2,_=>#[_,false,rfl,λH=>.inr #[rfl,_,.non,T.kg],λnm e=>nomatch e]
 | 3,_=>#[_,false,rfl,λH=>.inr #[rfl,_,.int 5,T.kq],λnm e=>nomatch e]
 | _+4,z=>absurd z (by lia)
inductive PC:Sp
 | mk (H0) (F:lU->Prop) (x tr) (ad:pA) (lw:lS (lT×lT)) (val:lT->lS Zs) (ln:lS (lT×Nat)) (ps js) (sg:lS (lT×lT×lT)) (cell:Int):vs=[.ref x,.ref tr,.int cell]->nM T H0 H F x tr ad lw val ln->Z4 T H0 tr ps js sg->Xe ps js sg->qD T H0->("zz":lT)∉sg.map fst->(∀H',mF H H'->Q (.bl true) H')->PC vs H Q E
def Znz:T.dw.O P w mg mG 11 (PC T):=by
 refine T.dw.F.okL T.et Xn λcdc A mD s H vs Q E hL L h=>?_
 ·obtain⟨H0,F,x,B,ad,lw,val,ln,ps,js,sg,cell,rfl,J,ht,yv,tb,zz,q⟩:=h;intro X D;obtain⟨dxt,_,_,_,_,_,_,_,_,N3,_⟩:=(ht.mono J.same).ex;have g8:=J.len;refine mP (nk 3 Xn<|Zn Za) #[mQ,λl0 H1 s1 n1 e1=>?_];have u0:=J.mono s1;refine mP (Xh pG rfl (Yl<|Yi (pv 0) T.ae T.ba (Xc T) L.m T.aF.b .nil Z0) (oq 4 Xn) Zo) #[u0.obj,rfl,H0,F,x,B,ad,lw,val,ln,rfl,u0,λI p1 p2 l2 H2 s2 n2 e2=>#[mU e2,Wr (K:=K) (xs:=I.map V.str) (λi z M=>∃(o4:lX V)(l3:lU)(us:lS lU),z=[some (.ref x),some<|.ref B,some<|.int cell,some<|.ref l3,o4,none,none,none,none]/\mF H2 M/\M l3=some (.lst<|us.map V.ref)/\Paired (Zr M) us (vP val<|I.take i)) #[none,l0,[],rfl,pO _,s2.at e1,.nil] ?_ ?_ ?_]]
  ·rintro i z M _ ⟨_,_,_,_,sm,_⟩;show mU<|sm.at e2
  ·rintro i v z H3 hi ⟨o4,l3,us,rfl,s3,h3,j7⟩;rw[nR]at hi;obtain⟨t,D3,rfl⟩:=nW.mp hi;have D6:=u0.mono<|s2.trans s3;have O4:=J.vl t;have T8:=Qm J.vl<|I.take i;have K4:I.length<=10:=by rw[p1.length_eq,mO];show g8
   have F2:=nJ j7;rw[oy]at T8;refine mS (nk 3 Xn<|Zq Wl (pv 3)<|pH ["_law_step"] (ph 1 [] rfl) (Yl<|X6 (r:=rY K) sI (Z5 (pv 0) T.ae T.bP (Wn T) L.m T.ax.b .nil Z0<|Zb (pv 4) Za) Wu<|We<|xg wV Ze) (oK 0) X5 (Zi<|Zb (Wx (K:=K) rfl (pv 0) Ze)<|Zb (Wx (K:=K) rfl (pv 0) Ze) Za)) #[D6.obj,rfl,H0,F,x,B,ad,lw,val,ln,t,rfl,D6,p1.mem_iff.mp<|pE D3,λl4 H4 s4 n4 ⟨ts,hl,j8⟩=>.inr<|.inl<|Dw.mk (mU hl) λl5 H5 U n5 e5=>?_];have E1:=nJ j8;have e5:H5 l5=some (.lst<|qF (ts.map V.ref) none<|some (-1)):=e5;rw[ID,<-List.map_dropLast]at e5;refine#[mU e5,λD hD=>Yy (K:=K) (xs:=ts.dropLast.map V.ref) (λj ys M=>(∃ws:lS lU,ys=ws.map V.ref/\Paired (Zr M) ws (((val t).dropLast.map wR).take j))/\M D=some (.lst ys)/\mF H5 M) #[#[[],rfl,.nil],Zc,oU hD] ?_ ?_ ?_]
   ·rintro j ys M _ ⟨_,_,sm⟩;show mU<|sm.at e5
   ·rintro j v ys H6 C ⟨⟨ws,rfl,Y⟩,B3,N⟩;rw[nR]at C;obtain⟨t0,Q0,rfl⟩:=nW.mp C;rw[DC]at Q0;split at Q0
    ·rename_i d9;obtain⟨q4,hq,P4⟩:=oQ j8 Q0;have P4:pF H6 t0 q4:=(U.trans N).at P4;have hwl:=nJ Y;rw[oy,mO,vD]at hwl;refine#[oR rfl,.inr<|.inl #[mW P4,Zm (j:=0) rfl,.inr<|.inl #[mW P4,Zm (j:=2) rfl,mQ,λt7 H7 d n7 e7=>#[d.at B3,by rw[mO];show Zp (by lia),#[ws++[t7],by rw[nw];rfl,?_],Zc,λb o y=>?_]]]]
     ·rw[ou,nR,DC,mY (by lia),hq];have off:∀{c:lU}{p:Zh}{u:HO},Zr H7 c p->Zr (mM H7 D u) c p:=λ{c p u} y=>(Zd λr=>by rw[Zr,r,d.at B3]at y;cases y).trans y
      show pj (nO Y λ_ _ l=>off<|l.mono d)<|.cons (off e7) .nil
     ·rw[Zd (Zf y hD)];show d.at<|N.at y
    ·cases Q0
   ·rintro ys H6 ⟨⟨ws,rfl,Y⟩,B3,N⟩;rw[tF (by rw[mO,mO,vD,vD];lia)]at Y;have hwl:=nJ Y;rw[mO,vD]at hwl;have s36:=s4.trans<|U.trans N;refine .inr<|.inr #[s36.at h3,B3,?_,λl7 H7 d n7 e7=>#[_,l7,us++ws,rfl,s3.trans<|s36.trans d,by rw[e7,nw],?_]]
    ·rw[mO,mO];have e0:sizeLine=16777216:=rfl;lia
    ·have:vP val (I.take<|i+1)=vP val (I.take i)++(val t).dropLast.map wR:=by
      unfold vP;rw[ou,D3,yQ];simp
     rw[this];show pj (nO j7 λ_ _ l=>l.mono<|s36.trans d)<|nO Y λ_ _ l=>l.mono d
  rintro z H3 ⟨o4,l3,us,rfl,s3,h3,j7⟩;rw[mO,pq]at j7;have A9:=s1.trans<|s2.trans s3;have D6:=J.mono A9;refine mP (nk 5 Xn<|Yi (pv 1) T.ak T.dg (PL T) L.m T.bt.b .nil Z0) #[A9.at N3,rfl,B,ps,js,sg,rfl,ht.mono D6.same,yv,λl4 ts sg' H4 s4 n4 e4 r4 p4=>?_];have E1:=nJ r4;have K4:=yv.sigs.len;have u6:=p4.length_eq;have K5:=A9.trans s4;let I26:IF:=λi z M=>(∃o6 o7,z=[some (.ref x),some<|.ref B,some<|.int cell,some<|.ref l3,o4,some<|.ref l4,o6,o7,none])/\mF H4 M
  refine mP (Xh pG rfl (Gi rfl T.dz<|Zb (pI T.bw<|pv 5) Za) (oq 6 Xn) Zo)<|.inl #[.inl<|mU e4,_,rfl,?_,?_,wX (lo:=0) (n:=(ts.map V.ref).length) I26 #[#[none,none,rfl],pO _] ?_ ?_]
  ·lia
  ·rw[mO];have e0:sizeLine=16777216:=rfl;lia
  ·rintro i z H5 hi ⟨⟨o6,o7,rfl⟩,U⟩;rw[mO]at hi;obtain⟨j,C,x9⟩:=uc (a:=(0+(i:Int))+cell) (n:=ts.length) (by lia);obtain⟨u,hu⟩:∃u,ts[j]? =some u:=#[_,oE x9]
   obtain⟨g,hg,ru⟩:=oQ r4 hu;have ru:H5 u=some (.tup [.str g.1,.str g.2.1,.str g.2.2]):=U.at ru;have hgm:g∈sg:=p4.mem_iff.mp<|pE hg;have hw5:=J.mono<|K5.trans U;refine mP (nk 7 Xn<|nq (pv 5)<|Zq Yn (Zq Wl (pv 6)<|pv 2)<|pI T.bw<|pv 5)<|.inl<|.inl #[.inl<|mU<|U.at e4,(by rw[mO];change(0:Int)<_;lia),.inl #[mU<|U.at e4,(show oJ _ (((0+(i:Int))+cell)%(((ts.map V.ref).length:Nat):Int))=some (.ref u)from by rw[mO,C];show Zm<|by rw[nR,hu];rfl),?_]];refine mS (Zu (qU L (Z5 (pv 0) T.ae T.dO (Sw T) L.m T.aH.b .nil Z0<|Zb (nq (pv 7) Ze) Za)<|HK L (Zi<|Zb (nq (pv 7) Ze)<|Zb (nq (pv 7) Ze) Za)<|pv 3) Zo Zj) #[hw5.obj,rfl,.inr<|.inl #[mW ru,Zm (j:=0) rfl,H0,F,x,B,ad,lw,val,ln,ps,js,sg,(g.1,(g.2.1,g.2.2)),rfl,hw5,ht,yv,hgm,λb H6 N hb=>.inr<|.inl #[mW<|N.at ru,Zm (j:=1) rfl,.inr<|.inl #[mW<|N.at ru,Zm (j:=2) rfl,mQ,λt7 H7 d n7 e7=>.inr<|.inr<|.inr #[l3,1,oS (g.2.1,g.2.2),_,us,rfl,mU<|(s4.trans<|U.trans<|N.trans d).at h3,by lk,yg e7,BY<|nO j7 λ_ _ l=>l.mono<|s4.trans<|U.trans<|N.trans d,.inl #[rfl,?_]]]]]];have e:(if false=true then !decide (oS (g.2.1,g.2.2)∈(vP val I).map oS)else decide (oS (g.2.1,g.2.2)∈(vP val I).map oS))=b:=by
    rw[mV (by lk),rF,hb,decide_eq_true_iff]
    constructor
    ·intro y;obtain⟨e',C7,h'⟩:=mZ.mp y;rw[Hv h']at C7;obtain⟨t,D3,k⟩:=ui.mp C7;show#[t,p1.mem_iff.mp D3,k]
    ·rintro⟨t,D3,k⟩;show mZ.mpr #[_,ui.mpr #[t,p1.mem_iff.mpr D3,k],rfl]
   rw[e];refine oB.f (by rw[nZ rfl];rfl) ?_;show#[#[_,_,rfl],U.trans<|N.trans d]
  rintro z H5 ⟨⟨o6,o7,rfl⟩,U⟩;have Q7:=K5.trans U;refine mP (nk 8 Xn<|Zn<|Zb Zg<|Zb Zg<|Zb rV<|Zb Ze Za) #[mQ,λl6 H6 N n6 e6=>?_];have s06:=Q7.trans N;have hw6:=J.mono s06;obtain⟨j,C,hj4⟩:=uc (a:=cell) (n:=4) (by lk);have C:cell%4=(j:Int):=C;obtain⟨v,b,hv,hA,hn⟩:=TU T yv zz j hj4;refine mS (Zl<|vA L (yM (X8 T) L.m (λ_=>rfl) rfl T.am.m T.am.F.kp T.am.b<|Zb (xV (Pt:=T.bH) rfl hL) Za) Zg) #[_,(tb.mono hw6.same)._law_shown,oM,λfl H7 d n7 cl=>yC T cl (fs:=["_law_keeper","_law_some","_law_cell"]) (fvs:=[.ref x,.ref l6,.int cell]) (.cons #[0,_,rfl,rfl,rfl,rfl,rfl,rfl]<|.cons #[8,_,rfl,rfl,rfl,rfl,rfl,rfl]<|.cons #[2,_,rfl,rfl,rfl,rfl,rfl,rfl] .nil) ?_ ?_ ?_ (λ_ _ _=>rfl) (by left) (by left) rfl rfl rfl λG c A' L0 s' E' sG qe E7=>rc (Z5 (pv 0) T.ae T.dO (Uy T) E7 T.aH.b .nil xZ<|Zb (nq (pv 1)<|Zq Yn (pv 2) Ze) Za) #[(hw6.mono<|d.trans sG).obj,rfl,(by change(0:Int)<4;decide),.inl #[mU<|(d.trans sG).at e6,(show oJ _ (cell%4)=some v from by rw[C];show Zm hv),H0,F,x,B,ad,lw,val,ln,ps,js,sg,v,b,rfl,hw6.mono<|d.trans sG,ht,yv,hA G,hn,λH8 s8=>qe 0 none none H8 (by lk) rfl s8 rfl λH9 s9=>#[λ_=>.inl #[rfl,?_],λp y=>nomatch y]]]]
  ·simp
  ·simp;decide +kernel
  ·simp;lia
  show q H9<|s06.trans<|d.trans s9
def qo.offL(h:qo H C x nm)(y:H c=some (.lst xs)):qo (mM H c o) C x nm:=by
 obtain⟨u,h⟩:=h;show#[u,(Zd λz=>by rw[z,y]at h;cases h).trans h]
def Nr(H:Hp)(t:lU)(ps:lS Zh)(u:lS (Zh×Zh))(s:lS (lT×lT×lT)):Prop:=∃z y x,H t=some (.tup [.ref z,.ref y,.ref x])/\Zw H z ps/\Yp H y u/\uq H x s
inductive Kr:Sp
 | mk (t ps js sg):vs=[.ref t]->Nr H t ps js sg->Xe ps js sg->(∀x H',mF H H'->H x=none->Z4 T H' x ps js sg->Q (.ref x) H')->Kr vs H Q E
def Rv:T.ef.O P w mg mG 7 (Kr T):=by
 refine T.ef.F.okA ?_;rfl'
 ·obtain⟨t,U,js,sg,rfl,⟨z,jl,sl,N,⟨ts,M,L⟩,x9,K4⟩,a,q⟩:=h;intro X D;have E1:=nJ L;have J:=a.len;refine mS (Zl<|wc (MG T) T.iH (Rj T) hr.m rfl T.iU T.bQ.b .nil Z0 (Rh T)<|Zb (pH ["_law_kind","_law_name"] (ph 2 [] rfl) (Yl<|nq (pv 0) Ze) (AU (K:=K) (n:=2) rfl rfl<|Z3 (oK 0)<|Z3 (oK 1) Xz) X5 (Zv (Tk T) hr<|Zb (pv 0)<|Zb (pv 1) Za))<|Zb (nq (pv 0) Ze)<|Zb (nq (pv 0) Ze) Za)<|.inr<|.inl #[mW N,Zm (j:=0) rfl,mU M,λD I=>Yy (K:=K) (xs:=ts.map V.ref) (λi d Y=>(∃l:lS lU,d=l.map V.ref/\Paired (PO T Y) l (U.take i))/\Y D=some (.lst d)/\mF H Y) #[#[[],rfl,.nil],Zc,oU I] ?_ ?_ ?_]
  ·rintro i d Y _ ⟨_,_,z⟩;show mU<|z.at M
  ·rintro i v d H1 G ⟨⟨l,rfl,y⟩,c,r⟩;rw[nR]at G;obtain⟨u,hu,rfl⟩:=nW.mp G;obtain⟨p,B,g⟩:=oQ L hu;have g:H u=some (.tup [.str p.1,.str p.2]):=g;have hm:p∈U:=pE B;have hxl:l.length<=100:=by
    have:=nJ y;rw[oy]at this;lia
   refine#[mW<|r.at g,rfl,rfl,(oR rfl).trans (oR rfl),p.1,p.2,rfl,a.net.kind p hm,(a.name p hm).2.1,λx C H2 e n2 hC hO=>#[e.at c,by rw[mO];show Zp (by lia),#[l++[x],by rw[nw];rfl,?_],Zc,λb o z=>?_]]
   ·rw[ou,B];show pj (nO y λ_ _ ⟨C,o,z2⟩=>#[C,o,(z2.mono e).offL (e.at c)])<|.cons #[C,hC,hO.offL<|e.at c] .nil
   ·rw[Zd (Zf z I)];show e.at<|r.at z
  ·rintro d H1 ⟨⟨l,rfl,y⟩,c,r⟩;rw[mO,E1,pq]at y;show(.inr<|.inl #[mW<|r.at N,Zm (j:=1) rfl,.inr<|.inl #[mW<|r.at N,Zm (j:=2) rfl,D,jl,sl,l,U,js,sg,rfl,c,y,x9.mono r,K4.mono r,a,λx H2 e n2 z=>q x H2 (r.trans e) (r.free n2) z]])
def sw(f:lT->Bool)(ps:lS Zh):lS lT:=(ps.filter λp=>f p.1).map snd
def Lg(f:lT->Bool)(ps:lS Zh):(sw f ps).length<=ps.length:=by
 unfold sw;rw[mO];show xx _ _
def SG{f:lT->Bool} :n∈sw f ps↔∃k,((k,n):Zh)∈ps/\f k=true:=by
 unfold sw
 constructor
 ·intro h;obtain⟨p,x,rfl⟩:=mZ.mp h;obtain⟨z,y⟩:=tY.mp x;show#[p.1,z,y]
 ·rintro⟨k,z,y⟩;show mZ.mpr #[_,tY.mpr #[z,y],rfl]
def SV{f:lT->Bool}(U:r pl=some (.lst<|ts.map V.ref))(d:Paired (Zr r) ts ps)(C:ps.length<=100)(c:r D=none)(q:∀u,mF r u->u D=some (.lst<|(sw f ps).map V.str)->Q (.ref D) u){fr:St->St}(N:fr z=[none,none])(h:∀z H Q s,z[0]? =some (some<|V.str s)->Q (f s) H->M z H Q)(L:J=ro 1) :
  rW (tV K pl) fr (EO K 2<|Fk (qX 0)<|Fk (qX 1) Op) M J Q z r D:=by
 refine Yy (xs:=ts.map V.ref) (λi p u=>p=(sw f<|ps.take i).map V.str/\u D=some (.lst p)/\mF r u) #[rfl,Zc,oU c] ?_ ?_ ?_
 ·rintro i p u _ ⟨_,_,n⟩;show mU<|n.at U
 ·rintro j v p u a ⟨rfl,Y,n⟩;rw[nR]at a;obtain⟨t,g,rfl⟩:=nW.mp a;obtain⟨⟨s,e⟩,I,G⟩:=oQ d g;have E:=Lg f<|ps.take j;rw[oy]at E;have l:sw f (ps.take<|j+1)=sw f (ps.take j)++if f s=true then[e]else[]:=by
   unfold sw;rw[ou,I,wn,nw,show(some ((s,e):Zh)).toList=[(s,e)]from rfl,rS];split<;>rfl
  unfold qu;rw[N,L];refine#[mW<|n.at G,rfl,rfl,(oR rfl).trans (oR rfl),h _ _ _ s rfl<|Yf (λy=>?_) λy=>?_]
  ·rw[l,mY y];refine#[Y,by rw[mO];show Zp (by lia),by rw[nw];rfl,Zc,λb o x=>?_];rw[Zd (Zf x c)];show n.at x
  ·rw[l,mV y,qj];show#[rfl,Y,n]
 ·rintro p y ⟨rfl,x,o⟩;refine q y o ?_;rw[x,mO,nJ d,pq]
def xY{H:Hp}{l:lU}{ss:lS lT}(h:H l=some (.lst<|ss.map V.str)):Im K H 1 (.lst<|ss.map Tr.str) (.ref l):=vK (n:=0) (mU h)<|Paired.strs _
def zc(k:lT):Bool:=decide<|V.str k=V.str "points"
def Zu2:n∈sw zc ps↔(("points",n):Zh)∈ps:=by
 rw[SG]
 constructor
 ·rintro⟨k,z,y⟩;rw[V.str.inj (pD y)]at z;show z
 ·show λh=>#[_,h,by left]
structure Kp(Hs:Hp)(Fs:Addr->Prop)(sd:Addr)(H:Hp)(F:Addr->Prop):Prop where
 at':∀b o,Hs b=some o->¬Fs b->b≠sd->H b=some o
 fr:∀b,F b->Fs b\/Hs b=none
def Kp.on{s H q:Hp}{r F p:lU->Prop}{x:lU}{u:HO}(h:Kp s r x H F)(l:H x=some u)(off:uv F H q)(j:∀b,p b->F b\/H b=none):Kp s r x q p where
 at':=λb o e n i=>off b o (λf=>(h.fr b f).elim n (λz=>by rw[e]at z;cases z)) (h.at' b o e n i)
 fr:=λb f=>(j b f).elim (h.fr b) λz=>by
  cases y:s b with
  | none=>show .inr rfl
  | some o =>
   by_cases k:r b
   ·show .inl k
   ·by_cases m:b=x
    ·rw[m,l]at z;cases z
    ·rw[h.at' b o y k m]at z;cases z
def Kp.mono{z H y:Hp}{x F:lU->Prop}{u:lU}(h:Kp z x u H F)(s:mF H y):Kp z x u y F:=#[λb o e n r=>s.at<|h.at' b o e n r,h.fr]
structure wH(T:Tx K mg)(H0 Hs:Hp)(Fs:Addr->Prop)(sd x tr:Addr)(ps:List Zh)(i:Nat)(H:Hp)(F:Addr->Prop)(ad:pA)(lw:List (Str×Str))(val:Str->List Zs)(ln:List (Str×Nat)):Prop where
 k:nM T H0 H F x tr ad lw val ln
 kp:Kp Hs Fs sd H F
 sd':ad.sd=sd
 ns:ad.ns=ps.map snd
 ne:∀t∈ln.map fst,val t≠[]
 l4:∀p∈ln,p.2<=4
 nm:∀t∈ln.map fst,t∈([("ta":Str),"b","t2"]:List Str).take i
 ll:ln.length<=i
def wH.mono{T:Tx K mg}{z y H u:Hp}{r F:lU->Prop}{q x p:lU}{ps:lS Zh}{i:Nat}{ad:pA}{o:lS (lT×lT)}{val:lT->lS Zs}{n:lS (lT×Nat)}(h:wH T z y r q x p ps i H F ad o val n)(s:mF H u):wH T z y r q x p ps i u F ad o val n:=#[h.k.mono s,h.kp.mono s,h.sd',h.ns,h.ne,h.l4,h.nm,h.ll]
def wH.next{T:Tx K mg}{z y H:Hp}{u F:lU->Prop}{s x r:lU}{ps:lS Zh}{i:Nat}{ad:pA}{q:lS (lT×lT)}{val:lT->lS Zs}{p:lS (lT×Nat)}(h:wH T z y u s x r ps i H F ad q val p):wH T z y u s x r ps (i+1) H F ad q val p:=#[h.k,h.kp,h.sd',h.ns,h.ne,h.l4,λt o=>by
 have:=h.nm t o;show(List.take_subset_take_left _<|sQ i) this,Nat.le_succ_of_le h.ll]
inductive Lf:Sp
 | mk (t cl) (ps:lS Zh) (js) (sg:lS (lT×lT×lT)) (cs:lS Int):vs=[.ref t,.ref cl]->Nr H t ps js sg->Xe ps js sg->qD T H->H cl=some (.lst<|cs.map V.int)->cs.length<=3->(∀(tp x tr:lU)(H0 H':Hp)(F:lU->Prop)(ad:pA)(lw:lS (lT×lT)) (val:lT->lS Zs) (ln:lS (lT×Nat)),mF H H0->H' tp=some (.tup [.ref x,.ref tr])->Z4 T H0 tr ps js sg->nM T H0 H' F x tr ad lw val ln->ad.ns=ps.map snd->(∀t∈ln.map fst,val t≠[])->(∀p∈ln,p.2<=4)->ln.length<=3->Q (.ref tp) H')->Lf vs H Q E
inductive zv(T:Tx K mg)(H0 Hs:Hp)(Fs:Addr->Prop)(sd x tr:Addr)(ps:List Zh)(i:Nat)(ln:List (Str×Nat))(H:Hp):Prop
 | mk (F ad lw val):wH T H0 Hs Fs sd x tr ps i H F ad lw val ln->zv T H0 Hs Fs sd x tr ps i ln H
inductive CA(T:Tx K mg)(H0 Hs:Hp)(Fs:Addr->Prop)(sd x tr:Addr)(ps:List Zh)(t cl lg lp:Addr)(i:Nat):St->Hp->Prop
 | mk (a4 a5 a7 a8 a9 a10 a11 a13 ln):zv T H0 Hs Fs sd x tr ps i ln H->CA T H0 Hs Fs sd x tr ps t cl lg lp i [some (.ref t),some<|.ref cl,some<|.ref tr,some<|.ref lg,a4,a5,some<|.ref lp,a7,a8,a9,a10,a11,some<|.ref x,a13] H
def Zoh:T.du.O P w mg mG 12 (Lf T):=by
 refine T.du.F.okL T.em Yk λcdc A mD s H vs Q E hL I h=>?_
 ·obtain⟨t,cl,Y,js,sg,cs,rfl,ya,yv,tb,w9,N2,q⟩:=h;intro X D;refine mP (nk 2 Yk<|Zv (Rv T) I<|Zb (pv 0) Za) #[t,Y,js,sg,rfl,ya,yv,λN L s1 n1 M=>?_];refine mP (nk 12 Yk<|wc (OK T) T.iJ (QP T) I.m rfl T.iW T.bS.b .nil Z0 (Zw9 T)<|Zb (pv 2) Za) #[N,Y,js,sg,rfl,M,yv,λx H2 F ad lw nx E6 hlw k2=>?_];refine mP (nk 3 Yk<|Zn Za) #[mQ,λC H3 s3 n3 e3=>?_];obtain⟨pl,jl,sl,y1,⟨ts,y2,y3⟩,_⟩:=ya;have E1:=nJ y3;have ylen:=yv.len;have v6:=k2.same.trans s3;have A9:=s1.trans v6;have g1:L C=none:=k2.same.free n3;obtain⟨dxt,_,_,_,_,_,_,_,_,N3,_⟩:=M.ex;let I27:IF:=λi z J=>(∃o4 o5,z=[some (.ref t),some<|.ref cl,some<|.ref N,some<|.ref C,o4,o5,none,none,none,none,none,none,some<|.ref x,none])/\(∀b o,b≠C->H3 b=some o->J b=some o)/\∃B:lS lT,J C=some (.lst<|B.map V.str)/\B.length<=i/\∀g∈B,(("gate",g):Zh)∈Y/\((g,"a"):Zh)∈sg.map snd
  refine mP (Xh pG rfl (Yl<|nq (pv 0) Ze) (tL rfl<|Z3 (oq 4 Yk)<|Z3 (oq 5 Yk) Xz) Zo)<|.inr<|.inl #[mW<|A9.at y1,Zm (j:=0) rfl,mU<|A9.at y2,Wr (K:=K) (xs:=ts.map V.ref) I27 #[#[none,none,rfl],λ_ _ _ y=>y,[],e3,nH _,λ_ y=>nomatch y] ?_ ?_ ?_]
  ·rintro i z J _ ⟨_,d,_⟩;show mU<|d _ _ (λy=>by rw[y]at y2;rw[s1.at y2]at g1;cases g1)<|A9.at y2
  ·rintro i v z H4 hi ⟨⟨o4,o5,rfl⟩,d,B,eg,hgl,hgs⟩;rw[nR]at hi;obtain⟨u,hu,rfl⟩:=nW.mp hi;obtain⟨p,hp,hpu⟩:=oQ y3 hu;have D5:i<ts.length:=(pr.mp hu).1;have hpm:p∈Y:=pE hp;have sm:mF L H4:=λb o e=>d b o (λy=>by rw[y,g1]at e;cases e)<|v6.at e
   have hpu:H4 u=some (.tup [.str p.1,.str p.2]):=sm.at<|s1.at hpu;refine#[mW hpu,rfl,rfl,?_];refine mS (Zu (pN<|uC (W0 I (pv 4) Zg)<|vc<|qU I (Z5 (pv 2) T.ak T.aK (Yx T) I.m T.ar.b .nil Z0<|Zb (Zi<|Zb (pv 5)<|Zb Zg Za) Za) Zg) Zo Zj)<|.inl #[rfl,Yf (λy=>#[sm.at N3,rfl,mQ,λt5 H5 s5 n5 e5=>#[N,t5,(p.2,"a"),Y,js,sg,rfl,M.mono<|sm.trans s5,yv,e5,λsn hn=>.inl #[rfl,Yf (λr=>?_) λ_=>#[#[_,_,rfl],λb o nb e=>s5.at<|d b o nb e,B,s5.at eg,by lia,hgs]]]]) λ_=>#[#[_,_,rfl],d,B,eg,by lia,hgs]];have hk:p.1 ="gate":=V.str.inj<|pD y;have hse:((p.2,"a"):Zh)∈sg.map snd:=by
    rcases hn with⟨_,_,m⟩|⟨m,_⟩
    ·show m
    ·rw[m]at r;show absurd r (by left)
   refine mS (Z1<|rB (pv 3)<|pv 5) #[.inl #[rfl,_,mU<|s5.at eg],s5.at eg,?_,#[_,_,rfl],λb o nb e=>?_,B++[p.2],?_,?_,?_]
   ·rw[mO];show Zp (by lia)
   ·rw[Zd nb];show s5.at<|d b o nb e
   ·rw[Zc,nw];rfl
   ·rw[oj,DD];lia
   ·intro g hg;rcases oA.mp hg with m|m
    ·show hgs g m
    ·rw[pQ.mp m];show#[by rw[<-hk];show hpm,hse]
  rintro z H4 ⟨⟨o4,o5,rfl⟩,d,B,eg,hgl,hgs⟩;rw[mO]at hgl;have sm:mF L H4:=λb o e=>d b o (λy=>by rw[y,g1]at e;cases e)<|v6.at e
  have K5:=s1.trans sm;have y1':=K5.at y1;have y2':=K5.at y2;let I28:IC:=λz J=>∃lp,z=[some (.ref t),some<|.ref cl,some<|.ref N,some<|.ref C,o4,o5,some<|.ref lp,none,none,none,none,none,some<|.ref x,none]/\mF H4 J/\H4 lp=none/\J lp=some (.lst<|(sw zc Y).map V.str)
  refine qh I28 (qf (Ap 6 ["_law_kind","_law_one"] Yk (ph 2 [] rfl) (Yl<|nq (pv 0) Ze) (AU (K:=K) (n:=2) rfl rfl<|Z3 (oK 0)<|Z3 (oK 1) Xz) (uH<|Ye (r:=Ax K) (CV I) (pv 0) Zg<|Yq _) (pv 1))<|.inr<|.inl #[mW y1',Zm (j:=0) rfl,mU y2',λD hD=>SV (f:=zc) y2' (nO y3 λ_ _ n=>n.mono K5) (by lia) hD (λHD sD eD=>#[D,rfl,sD,hD,eD]) ?aa (λ_ _ _ _ e h=>oV.of e<|.inl #[rfl,h]) ?cc]) ?_
  case aa=>rfl
  case cc=>rfl
  rintro z H5 ⟨lp,rfl,s5,nlp,elp⟩;have hpn:∀l∈sw zc Y,(("points",l):Zh)∈Y:=λl hn=>Zu2.mp hn
  have u6:=Lg zc Y;generalize sw zc Y=pn at elp hpn u6;have s24:mF H2 H4:=λb o e=>d b o (λy=>by rw[y,n3]at e;cases e)<|s3.at e
  have B4:=s24.trans s5;have k5:=k2.mono B4;have b5:wH T L H5 F ad.sd x N Y 0 H5 F ad lw (λ_=>[]) []:=#[k5,#[λ_ _ e _ _=>e,λ_ y=>.inl y],rfl,E6,(λ_ y=>nomatch y),(λ_ y=>nomatch y),(λ_ y=>nomatch y),nH _]
  have glg:¬F C/\C≠ad.sd:=#[k2.neF n3,λy=>by rw[y,k2.sti]at n3;cases n3]
  have glp:¬F lp/\lp≠ad.sd:=#[(k2.mono s24).neF nlp,λy=>by rw[y,(k2.mono s24).sti]at nlp;cases nlp]
  have gcl:¬F cl/\cl≠ad.sd:=#[(λy=>by have:=k2.free cl y;rw[s1.at w9]at this;cases this),(λy=>by have:=k2.kx.s0;rw[<-y,s1.at w9]at this;cases this)]
  have elg:=s5.at eg;have ecl:=(K5.trans s5).at w9;refine mP (Xh pG rfl (Ao rfl T.cR<|Zb (pv 1) Za) (tL rfl<|Z3 (oq 7 Yk)<|Z3 (oq 10 Yk) Xz) Zo) #[mU ecl,AV (K:=K) (xs:=cs.map V.int) (CA T L H5 F ad.sd x N Y t cl C lp) (.mk _ _ _ _ _ _ _ _ _<|.mk _ _ _ _ b5) ?_ ?_ ?_]
  ·rintro i z J _ ⟨_,_,_,_,_,_,_,_,_,⟨_,_,_,_,b⟩⟩;show mU<|b.kp.at' _ _ ecl gcl.1 gcl.2
  ·rintro i v z H6 hi ⟨a4,a5,a7,a8,a9,a10,a11,a13,ln6,⟨F6,ad6,lw6,val6,b6⟩⟩ tp H7 s7 n7 e7;rw[nR]at hi;obtain⟨c,hc,rfl⟩:=nW.mp hi;have D5:i<3:=pM (pr.mp hc).1 N2;refine#[mW e7,rfl,rfl,?_];obtain⟨nm,F1,hnv,z9,hnin⟩:∃nm:lT,([V.str "ta",.str "b",.str "t2"])[i]? =some (.str nm)/\Xb nm/\nm∉([("ta":lT),"b","t2"]:lS lT).take i/\nm∈([("ta":lT),"b","t2"]:lS lT).take (i+1):=by
    match i,D5 with
    | 0,_=>show#[_,rfl,by unfold Xb;decide +kernel,by left,by left]
    | 1,_=>show#[_,rfl,by unfold Xb;decide +kernel,by left,by left]
    | 2,_=>show#[_,rfl,by unfold Xb;decide +kernel,by left,by left]
   refine mP (nk 13 Yk<|nq (Zn<|Zb Zg<|Zb Zg<|Zb Zg Za)<|pv 7) #[mQ,λl8 H8 s8 n8 e8=>.inl #[mU e8,Zm F1,?_]];have b8:=b6.mono<|s7.trans s8;let I29:IC:=λz J=>z=[some (.ref t),some<|.ref cl,some<|.ref N,some<|.ref C,a4,a5,some<|.ref lp,some<|.int (i:Int),a8,a9,some<|.int c,a11,some<|.ref x,some<|.str nm]/\∃ln',zv T L H5 F ad.sd x N Y i ln' J
   refine qh I29 (qf (Zu (pN<|uC (qU I (pv 6)<|Zn Za)<|vc<|W0 I (Zq Yn (Zq Ys (pv 10) Ze) Ze) Ze) Zo Zj) #[mQ,λl9 H9 s9 n9 e9=>.inr<|.inl #[1,_,.lst [],by lk,.inr #[_,_,rfl,rfl],xY<|(b8.mono s9).kp.at' _ _ elp glp.1 glp.2,vK (mU e9) .nil,Yf (λw4=>#[#[by lk,by lk],(by change(0:Int)<3;decide),.inl #[rfl,Yf (λy=>?_) λ_=>#[rfl,_,.mk _ _ _ _<|b8.mono s9]]]) λ_=>#[rfl,_,.mk _ _ _ _<|b8.mono s9]]]) ?_
   ·have U:=b8.mono s9;have ep9:=U.kp.at' _ _ elp glp.1 glp.2;have M8:0<pn.length:=GD λr=>by
     rw[Ah.mp r]at w4;simp at w4
    obtain⟨j,hj,x9⟩:=uc (a:=c / 27) (n:=pn.length) M8;obtain⟨pt,S2⟩:∃u,pn[j]? =some u:=#[_,oE x9]
    refine mS (Z1<|Z5 (pv 12) T.ae T.eV (Zg4 T) I.m T.cw.b .nil Z0<|Zb (nq (pv 6)<|Zq Yn (Zq Ys (pv 10) Ze)<|pI T.bw<|pv 6) Za) #[U.k.obj,rfl,#[by lk,by lk],.inl #[.inl<|mU ep9,(by rw[mO];change(0:Int)<_;lia),.inl #[mU ep9,(show oJ _ ((c / 27)%(((pn.map V.str).length:Nat):Int))=some (.str pt)from by rw[mO,hj];show Zm<|by rw[nR,S2];rfl),L,F6,x,N,ad6,lw6,val6,ln6,Y,js,sg,pt,rfl,U.k,M,yv,hpn pt<|pE S2,U.ns,λHA adA kA sA nA aA=>#[rfl,ln6,.mk F6 adA lw6 val6 #[aA,#[λb o e l ns=>kA b o (by rw[U.sd'];show ns)<|U.kp.at' b o e l ns,U.kp.fr],sA.trans U.sd',nA.trans U.ns,U.ne,U.l4,U.nm,U.ll]]]]]
   rintro z HB ⟨rfl,lnB,⟨FB,adB,lwB,valB,bB⟩⟩;refine mP (nk 8 Yk Zg) ?_;have tb1:=tb.mono s1;let I30:IC:=λz J=>∃cv b11 ln',z=[some (.ref t),some<|.ref cl,some<|.ref N,some<|.ref C,a4,a5,some<|.ref lp,some<|.int (i:Int),some cv,a9,some<|.int c,b11,some<|.ref x,some<|.str nm]/\zv T L H5 F ad.sd x N Y (i+1) ln' J/\(cv=.str "none"\/(cv=.str "done"/\nm∈ln'.map fst)\/∃u y p,cv=.ref u/\J u=some (.tup [y,p]))
   refine qh I30 (qf (Zu (qU I (pv 3)<|Zn Za) Zo Zj) #[mQ,λl9 H9 s9 n9 e9=>.inr<|.inl #[1,_,.lst [],by lk,.inr #[_,_,rfl,rfl],xY<|(bB.mono s9).kp.at' _ _ elg glg.1 glg.2,vK (mU e9) .nil,Yf (λw4=>?_) λ_=>#[_,_,_,rfl,.mk _ _ _ _ (bB.mono s9).next,.inl rfl]]]) ?_
   ·have U:=bB.mono s9;have eg9:=U.kp.at' _ _ elg glg.1 glg.2;have M8:0<B.length:=GD λr=>by
     rw[Ah.mp r]at w4;simp at w4
    obtain⟨j,hj,x9⟩:=uc (a:=c / 81) (n:=B.length) M8;obtain⟨g,hg⟩:∃u,B[j]? =some u:=#[_,oE x9]
    obtain⟨gp,gsg⟩:=hgs g<|pE hg;obtain⟨m,hm,hm4⟩:=uc (a:=c) (n:=4) (by lk);have hm:(1:Int)+c%4=((m+1:Nat):Int):=by
     have:c%4=(m:Int):=hm;lia
    have hnl:nm∉lnB.map fst:=λy=>z9<|U.nm nm y
    refine mP (nk 11 Yk<|nq (pv 3)<|Zq Yn (Zq Ys (pv 10) Ze)<|pI T.bw<|pv 3) #[#[by lk,by lk],.inl #[.inl<|mU eg9,(by rw[mO];change(0:Int)<_;lia),.inl #[mU eg9,(show oJ _ ((c / 81)%(((B.map V.str).length:Nat):Int))=some (.str g)from by rw[mO,hj];show Zm<|by rw[nR,hg];rfl),?_]]];have tb9:=tb1.mono U.k.same;refine mS (nk 8 Yk<|yM (X8 T) I.m (λ_=>rfl) rfl T.am.m T.am.F.kp T.am.b<|Zb (xV (Pt:=T.bF) rfl hL) Za) #[_,tb9._law_begun,oM,λfl HL sL nL cl'=>yC T cl' (fs:=["_law_keeper","_law_name","_law_cell","_law_gate"]) (fvs:=[.ref x,.str nm,.int c,.str g]) (.cons #[12,_,rfl,rfl,rfl,rfl,rfl,rfl]<|.cons #[13,_,rfl,rfl,rfl,rfl,rfl,rfl]<|.cons #[10,_,rfl,rfl,rfl,rfl,rfl,rfl]<|.cons #[11,_,rfl,rfl,rfl,rfl,rfl,rfl] .nil) ?_ ?_ ?_ (λ_ _ _=>rfl) (by left) (by left) rfl rfl rfl λG c' A' L0 s' E' sG qe E7=>?_]
    ·simp
    ·simp;decide +kernel
    ·simp;lia
    have bL:=U.mono sL;have bG:=bL.mono sG
    by_cases hh:CI lnB valB g
    ·refine rc (Z5 (pv 0) T.ae T.ei (VE T) E7 T.aG.b .nil xZ<|Zb (pv 1)<|Zb (Zq Wl Ze<|Zq Yn (pv 2) Ze)<|Zb (pv 3)<|Zb Ww Za) #[bG.k.obj,rfl,(by change(0:Int)<4;decide),.inl λdt HD sD nD eD=>#[L,FB,x,N,dt,adB,lwB,valB,lnB,[],Y,js,sg,.str nm,.int ((m+1:Nat):Int),.str g,T.aZ,some g,by rw[<-hm];rfl,bG.k.mono sD,M,yv,tb1,eD,.inr #[nm,rfl,hnv,hnl,.inr #[g,rfl,gp,.inr #[gsg,.inr #[m+1,rfl,by lia,by lia,rfl,.inl #[rfl,hh]]]]],#[(λy=>nomatch y),λp hp dx HE sE nE eE=>qe 4 (some p) (some dx) HE (by lk) rfl (sD.trans sE) #[dx,rfl,eE] λJ s'=>#[(λy=>nomatch y),λp' _ u hu=>#[_,_,_,rfl,.mk _ _ _ _ (bL.mono s').next,.inr<|.inr #[u,_,_,rfl,hu]]]]]]
    ·refine rc (Z5 (pv 0) T.ae T.ei (Zom T) E7 T.aG.b .nil Z0<|Zb (pv 1)<|Zb (Zq Wl Ze<|Zq Yn (pv 2) Ze)<|Zb (pv 3)<|Zb Ww Za) #[bG.k.obj,rfl,(by change(0:Int)<4;decide),.inl λdt HD sD nD eD=>#[L,FB,x,N,dt,adB,lwB,valB,lnB,[],Y,js,sg,nm,g,m+1,by rw[<-hm];rfl,bG.k.mono sD,bG.ns,M,yv,tb1,eD,bG.k.neF nD,#[hnv,hnl,gp,gsg,by lia,by lia,hh,rfl,by have:=U.ll;lia],λHC FC adC sub fr off kC on H3 bk=>#[_,_,_,rfl,.mk _ adC lwB _ #[kC.back bk bL.k.same,bL.kp.on (by rw[<-bL.sd'];show bL.k.sti) (λb o l y=>bk.old _ _ _ y<|off _ _ l<|(sG.trans sD).at y) λb y=>(fr b y.1).imp id λr=>(sG.trans sD).free r,on.2.1.trans bG.sd',on.2.2.2.1.trans bG.ns,λt' D3=>?_,λp hp=>?_,λt' D3=>?_,?_],.inr<|.inl #[rfl,by simp]]]]
     ·unfold qt;split
      ·show λy=>absurd (Nt.mp y).2 (by simp)
      ·rename_i ne;rw[nw,oA]at D3;rcases D3 with y|y
       ·show bG.ne t' y
       ·show absurd (pQ.mp y) ne
     ·rcases oA.mp hp with y|y
      ·show bG.l4 p y
      ·rw[pQ.mp y];change m+1<=4;lia
     ·rw[nw,oA]at D3;rcases D3 with y|y
      ·show U.next.nm t' y
      ·rw[pQ.mp y];show hnin
     ·rw[oj,DD];have:=U.ll;lia
   rintro z HC ⟨cv,b11,lnC,rfl,⟨FC,adC,lwC,valC,bC⟩,hcv⟩;obtain⟨m3,hm3,hm33⟩:=uc (a:=c / 1000) (n:=3) (by lk);have hm3:c / 1000%3=(m3:Int):=hm3;refine mS (Xh pG rfl (Gi rfl T.dz<|Zb (Zq wS (Zq Yn (Zq Ys (pv 10) Ze) Ze)<|Y5 Qf (by rfl) T.fV wT<|Zb (yZ (r:=KO K) (Yi8 I) (pv 8) Zg<|Yq _) Za) Za) (oq 9 Yk) Zo) #[#[by lk,by lk],(by change(0:Int)<3;decide),?_];rcases hcv with rfl|⟨rfl,hmem⟩|⟨u,y,p,rfl,hu⟩
   ·refine .inl<|.inl #[rfl,.inr #[_,rfl,?_]];refine#[?cm,_,rfl,?lo,?hi,?fr]
    case fr =>
     rw[show c / 1000%3 * (if decide (V.str "none"=V.str "done")=true then 1 else 0)=((0:Nat):Int)from by rw[mV (by left)];lia];show wX (lo:=0) (n:=0) (λ_=>CA T L H5 F ad.sd x N Y t cl C lp<|i+1) (.mk _ _ _ _ _ _ _ _ _<|.mk _ _ _ _ bC) (λ_ _ _ y=>absurd y<|Cz _) λ_ _ y=>y
    case cm=>show .inl #[by change -(2 ^ 64)<c / 1000%3;lia,by change c / 1000%3<2 ^ 64;lia]
    case lo=>rw[mV (by left)];lia
    case hi=>rw[mV (by left)];lia
   ·refine .inl<|.inl #[rfl,.inr #[_,rfl,?_]];refine#[?cm,_,rfl,?lo,?hi,?fr]
    case fr =>
     rw[show c / 1000%3 * (if decide (V.str "done"=V.str "done")=true then 1 else 0)=((m3:Nat):Int)from by rw[mY (by left)];lia];let I31:IF:=λ_ z J=>(∃c9,z=[some (.ref t),some<|.ref cl,some<|.ref N,some<|.ref C,a4,a5,some<|.ref lp,some<|.int (i:Int),some<|.str "done",c9,some<|.int c,b11,some<|.ref x,some<|.str nm])/\zv T L H5 F ad.sd x N Y (i+1) lnC J
     refine wX (lo:=0) (n:=m3) I31 #[#[_,rfl],.mk _ _ _ _ bC] ?_ ?_
     ·rintro k z HD hk ⟨⟨c9,rfl⟩,⟨FD,adD,lwD,valD,bD⟩⟩;refine mS (Z1<|Zv (Ly T) I<|Zb (pv 12)<|Zb (pv 2)<|Zb (pv 13)<|Zb (Xv (Af T) I rfl T.ap.m T.ap.F.kp T.ap.b .nil Z0<|Zb (pv 10)<|Zb (pv 9) Za)<|Zb Ww Za) #[_,_,rfl,λdt HE sE nE eE=>?_];have bE:=bD.mono sE;refine#[L,FD,x,N,dt,adD,lwD,valD,lnC,Y,js,sg,nm,_,rfl,bE.k,bE.ns,M,yv,tb1,hmem,bE.ne nm hmem,eE,λv HF FF adF lwF valF frF offF nsF sdF neF kF=>#[#[_,rfl],.mk FF adF lwF valF #[kF,bE.kp.on (by rw[<-bE.sd'];show bE.k.sti) offF frF,sdF.trans bE.sd',nsF.trans bE.ns,λt' D3=>neF t'<|bE.ne t' D3,bE.l4,bE.nm,bE.ll]]]
     ·rintro z HD ⟨⟨c9,rfl⟩,bD⟩;show .mk _ _ _ _ _ _ _ _ _ bD
    case cm=>show .inl #[by change -(2 ^ 64)<c / 1000%3;lia,by change c / 1000%3<2 ^ 64;lia]
    case lo=>rw[mY (by left)];lia
    case hi=>rw[mY (by left)];lia
   ·refine .inr #[u,_,_,rfl,rfl,mW hu,.inr #[_,rfl,?_]];refine#[?cm,_,rfl,?lo,?hi,?fr]
    case fr =>
     rw[show c / 1000%3 * (if false=true then 1 else 0)=((0:Nat):Int)from by rw[mV (by left)];lia];show wX (lo:=0) (n:=0) (λ_=>CA T L H5 F ad.sd x N Y t cl C lp<|i+1) (.mk _ _ _ _ _ _ _ _ _<|.mk _ _ _ _ bC) (λ_ _ _ y=>absurd y<|Cz _) λ_ _ y=>y
    case cm=>show .inl #[by change -(2 ^ 64)<c / 1000%3;lia,by change c / 1000%3<2 ^ 64;lia]
    case lo=>rw[mV (by left)];lia
    case hi=>rw[mV (by left)];lia
  ·rintro z HZ ⟨a4,a5,a7,a8,a9,a10,a11,a13,lnZ,⟨FZ,adZ,lwZ,valZ,bZ⟩⟩;rw[mO]at bZ;show mS (Zl<|Zi<|Zb (pv 12)<|Zb (pv 2) Za) #[mQ,λtp HY sY nY eY=>q tp x N L HY FZ adZ lwZ valZ lnZ s1 eY M (bZ.k.mono sY) bZ.ns bZ.ne bZ.l4<|oo bZ.ll N2]
def Zwu{H:Hp}{a b:lU}{z:lS (lT×lT)}(y:H a=some (.dK<|Zz V.str z))(x:H b=some (.dK<|Zz V.str z))(u:(z.map fst).Nodup):AN K H (.ref a) (.ref b) :=
 .inr #[a,b,_,_,rfl,rfl,.inl y,.inl x,rfl,λkv s=>by
  obtain⟨p,r,rfl⟩:=mZ.mp s;show#[.str p.2,vp u r,.inl #[rfl,rfl,by(delta rM;simp)]]]
def Zwt{H:Hp}{a b:lU}{ss:lS lT}(z:H a=some (.lst<|ss.map V.str))(y:H b=some (.lst<|ss.map V.str)):AN K H (.ref a) (.ref b):=.inl<|.inr #[1,_,by lk,xY z,xY y]
def tE(H:Hp)(F:lU->Prop)(u y:lU)(s:lS (lT×lT))(st:lS (lT×Bool)):Prop:=∃(rd z:lU)(x:lS lT),H y=some (.lst [.ref rd,.ref z])/\H rd=some (.dK<|Zz V.str s)/\H z=some (.lst<|x.map V.str)/\x.Perm (st.map fst)/\PyProof.Rows.sortedS x=true/\(¬F y/\¬F rd/\¬F z)/\y≠u/\z≠u
def tE.on{F z:lU->Prop}(h:tE H F j i g st)(off:uv F H d)(f:∀b,z b->F b\/H b=none):tE d z j i g st:=by
 obtain⟨rd,c,a,s,r,q,Y,U,⟨p,o,l⟩,Q⟩:=h;have x:∀{b:lU}{u:HO},¬F b->H b=some u->¬z b:=λn e y=>(f _ y).elim n λw=>by rw[e]at w;cases w
 show#[rd,c,a,off _ _ p s,off _ _ o r,off _ _ l q,Y,U,#[x p s,x o r,x l q],Q]
def tE.put{F:lU->Prop}{o:HO}{xs:lS V}(h:tE H F x r q st)(e:H x=some (.lst xs)):tE (mM H x o) F x r q st:=by
 obtain⟨rd,p,n,l,u,j,i,g,d,s,y⟩:=h;show#[rd,p,n,by rw[Zd s];show l,by rw[Zd λz=>by rw[z,e]at u;cases u];show u,by rw[Zd y];show j,i,g,d,s,y]
def tE.made{T:Tx K mg}{F:lU->Prop}{val:lT->lS Zs}{ss:lS lT}{xs:lS V}(y:nM T Q G F x N ad n val M)(l:G d=some (.lst xs))(z:mF G u)(c:G rd=none)(a:u rd=some (.dK<|Zz V.str n))(s:mF u r)(j:u o=none)(Y:r o=some (.lst<|ss.map V.str))(i:mF r h)(g:r e=none)(U:h e=some (.lst [.ref rd,.ref o]))(p:ss.Perm (ad.st.map fst))(q:PyProof.Rows.sortedS ss=true):tE h F d e n ad.st :=
 #[rd,o,ss,U,i.at<|s.at a,i.at Y,p,q,#[y.neF<|(z.trans s).free g,y.neF c,y.neF<|z.free j],(Zf ((z.trans s).at l) g).symm,(Zf (z.at l) j).symm]
structure LK(T:Tx K mg)(H0:Hp)(x tr:Addr)(ps:List Zh)(hl:Addr)(n:Nat)(H:Hp)(F:Addr->Prop)(ad:pA)(lw:List (Str×Str))(val:Str->List Zs)(ln:List (Str×Nat)):Prop where
 k:nM T H0 H F x tr ad lw val ln
 ns:ad.ns=ps.map snd
 ne:∀t∈ln.map fst,val t≠[]
 l4:∀p∈ln,p.2<=4
 nF:¬F hl
 n0:H0 hl=none
 held:zO H (λb=>F b\/b=hl) hl n
def LK.next{T:Tx K mg}{F s:lU->Prop}{val r:lT->lS Zs}(h:LK T i x g ps q n H F ad U val Q)(k:nM T i o s x g d l r ln')(f:∀b,s b->F b\/H b=none)(off:uv F H o)(ns:d.ns=ad.ns)(a:∀t∈ln'.map fst,r t≠[])(Y:∀p∈ln',p.2<=4):LK T i x g ps q n o s d l r ln':=by
 obtain⟨y,j,_⟩:=id h.held;have e:o q=H q:=by rw[j];show off _ _ h.nF j
 refine#[k,ns.trans h.ns,a,Y,(λz=>(f _ z).elim h.nF λw=>by rw[j]at w;cases w),h.n0,h.held.on (λc u e z=>off c u (λy=>z<|.inl y) e) (λc z=>?_) e];rcases z with z|z
 ·show(f c z).imp .inl id
 ·show .inl<|.inr z
def LK.mono{T:Tx K mg}{F:lU->Prop}{val:lT->lS Zs}(h:LK T y x u ps r n H F ad q val p)(s:mF H o):LK T y x u ps r n o F ad q val p:=h.next (h.k.mono s) (λ_ z=>.inl z) (vt s) rfl h.ne h.l4
def LK.he{T:Tx K mg}{F:lU->Prop}{val:lT->lS Zs}(h:LK T Y x U ps j n H F ad Q val N):∀e∈ad.es,e.2≠j:=λe he z=>by
 obtain⟨s,i,_,g⟩:=id h.held;obtain⟨c,y,q⟩:=h.k.pth.2 e he;have p:=h.ne e.1<|h.k.nm ▸ mZ.mpr #[e,he,rfl];rw[z,i]at y;have y:s.map V.ref=c.map V.ref:=HO.lst.inj<|oF y;generalize val e.1=M at q p;cases q with
 | nil=>show p rfl
 | cons r _ =>
  cases s with
  | nil=>cases y
  | cons u s =>
   obtain⟨l,d,o,_⟩:=g u oM;have a:u=_:=V.ref.inj (ED y).1;rw[a]at o;have:=(HG o).1.symm.trans r;cases this
inductive LR(T:Tx K mg)(H0:Hp)(x tr:Addr)(ps:List Zh)(hl:Addr)(n:Nat)(ln:List (Str×Nat))(rl:Addr)(H:Hp):Prop
 | mk (Fr ad lw val):LK T H0 x tr ps hl n H Fr ad lw val ln->tE H Fr hl rl lw ad.st->LR T H0 x tr ps hl n ln rl H
inductive JL(T:Tx K mg)(H0:Hp)(x tr:Addr)(ps:List Zh)(hl:Addr)(n:Nat)(a t tp:Addr):St->Hp->Prop
 | mk (o2 o8 o9 Q9 rl ln):LR T H0 x tr ps hl n ln rl H->JL T H0 x tr ps hl n a t tp [some (.ref a),some<|.ref t,o2,some<|.ref tp,some<|.ref x,some<|.ref tr,some<|.ref hl,some<|.ref rl,o8,o9,Q9] H
inductive JQ(hl a t tp x tr:Addr):St->Hp->Prop
 | mk (o2 o7 o8 o9 Q9) (Z:Addr->Prop):zO H Z hl 10->JQ hl a t tp x tr [some (.ref a),some<|.ref t,o2,some<|.ref tp,some<|.ref x,some<|.ref tr,some<|.ref hl,o7,o8,o9,Q9] H
def QQ(F:qN K "law" "law" vF f fd)(T:Tx K mg)(hb:∃mm,mG.Ns sysModules mm):Y6 P w K mg mG oP 13 f fd ["_law_script"] (ze K T.tabs):=by
 refine F.okW sZ ?_;rfl'
 ·obtain⟨a,ns,rfl,hS,E6,htb,q⟩:=h;intro X D;have tb:=qD.of htb;refine mP (nk 1 sZ<|Zv (Vu T) hr<|Zb (Zv (XD T) hr<|Zb (pv 0)<|Zb Ze<|Zb Ze Za)<|Zb (Xv (Ff T) hr rfl T.az.m T.az.F.kp T.az.b .nil Z0<|Zb (pv 0)<|Zb Ze Za) Za) #[a,ns,15,29,rfl,hS,E6,by lk,by lk,λu H1 cs s1 n1 e1 hc w9=>#[a,ns,0,rfl,s1.seq hS,u,_,cs,rfl,mU e1,λc h=>(hc c h).1,w9,λt pl jl gl H2 ps js sg s2 ht hP hJ hG yo=>?_]];have B9:=s1.trans s2;have yv:=yo.v;have zz:=Yek yo;clear hc w9 e1 n1;refine mP (nk 3 sZ<|Zv (Zoh T) hr<|Zb (pv 1)<|Zb (pH ["_law_k","_law_script"] (ph 1 [0] rfl) (Di rfl T.dz<|Zb Ze<|Zb Ze Za) (oK 0) X5 (Xv (Ff T) hr rfl T.az.m T.az.F.kp T.az.b .nil Z0<|Zb (pv 1)<|Zb (pv 0) Za)) Za) #[1,4,rfl,by lk,λD hD=>Iz (lo:=1) (n:=3) (λk ys I=>(∃cs:lS Int,ys=cs.map V.int/\cs.length=k)/\I D=some (.lst ys)/\mF H2 I) #[#[[],rfl,rfl],Zc,oU hD] ?_ ?_]
  ·rintro k ys H3 hk ⟨⟨cs,rfl,w9⟩,hD3,s3⟩;unfold qu;refine#[oR rfl,a,ns,1+k,rfl,(B9.trans s3).seq hS,hD3,?_,#[cs++[zJ ns (1+k)],?_,?_],Zc,λb o e=>?_]
   ·rw[mO];show Zp (by lia)
   ·rw[nw];rfl
   ·rw[oj,w9];rfl
   ·rw[Zd (Zf e hD)];show s3.at e
  rintro ys H3 ⟨⟨cs,rfl,w9⟩,hD3,s3⟩;refine#[t,D,ps,js,sg,cs,rfl,#[pl,jl,gl,s3.at ht,hP.mono s3,hJ.mono s3,hG.mono s3],yv,tb.mono<|B9.trans s3,hD3,by lia,λtp x N J H4 Fr ad L val U s0 etp Q0 k4 ns4 ne4 l44 ll4=>?_];have hS0:=(B9.trans<|s3.trans s0).seq hS;have tb0:=tb.mono<|B9.trans<|s3.trans s0;clear hS tb htb hD3 hP hJ hG ht w9 s3 s0 B9 s1 s2 hD E6 yo;refine mP (nk 4 sZ<|nq (pv 3) Ze)<|.inr<|.inl #[mW etp,Zm (j:=0) rfl,?_];refine mP (nk 5 sZ<|nq (pv 3) Ze)<|.inr<|.inl #[mW etp,Zm (j:=1) rfl,?_];refine mP (nk 6 sZ<|Zn Za) #[mQ,λM H5 s5 n5 e5=>?_];have k5:=k4.mono s5;refine mP (nk 7 sZ<|Zn<|Zb (Yi (pv 4) T.ae T.cQ (Dy T) hr.m T.bo.b .nil Z0)<|Zb (Yi (pv 4) T.ae T.cK (W9 T) hr.m T.bf.b .nil Z0) Za) #[k5.obj,rfl,J,Fr,x,N,ad,L,val,U,rfl,k5,λrd H6 s6 n6 e6=>#[(k5.mono s6).obj,rfl,J,Fr,x,N,ad,L,val,U,rfl,k5.mono s6,λss B hs rs H7 s7 n7 e7=>#[mQ,λG H8 s8 n8 e8=>?_]]];have R8:=tE.made k5 e5 s6 n6 e6 s7 n7 e7 s8 n8 e8 B hs;have s58:=s6.trans<|s7.trans s8;have Y:LK T J x N ps M 0 H8 Fr ad L val U:=#[k5.mono s58,ns4,ne4,l44,k4.neF n5,k4.same.free n5,[],s58.at e5,nH _,λ_ y=>nomatch y]
  clear k4 k5 s5 n5 e5 s6 n6 e6 s7 n7 e7 s8 n8 e8 B hs s58 etp ns4 ne4 l44 ll4;refine qh (JQ M a t tp x N) ?_ ?_
  ·refine qf (Xh pG rfl (Di rfl T.dz<|Zb Ze<|Zb Ze Za) (oq 2 sZ) Zo) #[4,14,rfl,by lk,wX (lo:=4) (n:=10) (λi=>JL T J x N ps M i a t tp) (.mk _ _ _ _ _ _<|.mk _ _ _ _ Y R8) ?_ ?_]
   ·clear Y R8;rintro i z H1 hi ⟨o2,o8,o9,Q9,G,U,⟨Fr,ad,L,val,hk,hR⟩⟩;refine mP (nk 8 sZ<|Xv (Ff T) hr rfl T.az.m T.az.F.kp T.az.b .nil Z0<|Zb (pv 0)<|Zb (pv 2) Za) #[a,ns,4+i,rfl,hk.k.same.seq hS0,?_];generalize zJ ns (4+i)=cell;refine mP (nk 9 sZ<|Zq Wl (Yi (pv 4) T.ae T.ba (Xc T) hr.m T.aF.b .nil Z0)<|Zn<|Zb Zg Za) #[hk.k.obj,rfl,J,Fr,x,N,ad,L,val,U,rfl,hk.k,λts B hs b1 H2 s2 n2 e2=>#[mQ,λb2 H3 s3 n3 e3=>.inr<|.inr #[s3.at e2,e3,?_,λb4 H4 s4 n4 e4=>?_]]]
    ·have:=hk.k.len;rw[mO,B.length_eq,mO];show uI (Zp<|by simp;lia)
    have e4:H4 b4=some (.lst<|(ts++[("no":lT)]).map V.str):=by rw[nw];show e4
    obtain⟨j,hj,x9⟩:=uc (a:=cell / 8) (n:=(ts++[("no":lT)]).length) (by simp);obtain⟨nm,F1⟩:∃nm,(ts++[("no":lT)])[j]? =some nm:=#[_,oE x9]
    have T0:nm≠ "no"->nm∈U.map fst:=λy=>by
     rcases oA.mp (pE F1)with u|u
     ·show B.subset u
     ·show absurd (pQ.mp u) y
    refine mP (nk 10 sZ<|nq (pv 9)<|Zq Yn (Zq Ys (pv 8) Ze)<|pI T.bw<|pv 9) #[#[by lk,by lk],.inl #[.inl<|mU e4,(by rw[mO,oj];change(0:Int)<_;simp),.inl #[mU e4,(show oJ _ (cell / 8%((((ts++[("no":lT)]).map V.str).length:Nat):Int))=some (V.str nm)from by rw[mO,hj];show Zm<|by rw[nR,F1];rfl),?_]]];have y9:=s2.trans<|s3.trans s4;have L4:=hk.mono y9;have R4:=hR.on (vt y9) λ_ y=>.inl y
    clear hk hR F1 x9 hj e4 n4 e3 n3 e2 n2 s2 s3 s4 y9 B hs;let I32:IC:=λz I=>(∃o2,z=[some (.ref a),some<|.ref t,o2,some<|.ref tp,some<|.ref x,some<|.ref N,some<|.ref M,some<|.ref G,some<|.int cell,some<|.ref b4,some<|.str nm])/\LR T J x N ps M i U G I
    refine qh I32 ?_ ?_
    ·show qf (Zu (pN<|uC (Ye wr (Zq Yn (pv 8) Ze) Ze<|Yq _)<|vc<|Y9<|Yo<|Zv (Tu T hb) hr<|Zb (pv 4)<|Zb (pv 5)<|Zb (pv 10) Za) Zo Zj) #[(by change(0:Int)<8;decide),Yf (λ_=>#[J,Fr,x,N,ad,L,val,U,ps,js,sg,nm,rfl,L4.k,Q0,yv,tb0,L4.ne,L4.l4,λH5 F5 ad5 val5 f5 off5 ns5 z8 ne5 k5=>#[#[_,rfl],.mk F5 ad5 L val5 (L4.next k5 f5 off5 ns5 (λt ht=>ne5 t<|L4.ne t ht) L4.l4)<|z8 ▸ R4.on off5 f5]]) λ_=>#[#[_,rfl],.mk Fr ad L val L4 R4]]
    clear L4 R4;rintro z H5 ⟨⟨o2,rfl⟩,⟨Fr,ad,L,val,L5,R5⟩⟩;let I33:IC:=λz I=>∃G,z=[some (.ref a),some<|.ref t,o2,some<|.ref tp,some<|.ref x,some<|.ref N,some<|.ref M,some<|.ref G,some<|.int cell,some<|.ref b4,some<|.str nm]/\LR T J x N ps M i U G I
    refine qh I33 ?_ ?_
    ·refine qf (Zu (pN<|uC (vq hr (Zq Yn (pv 8) Ze)<|Zi<|Zb Ze<|Zb Ze Za)<|vc<|qU hr (pv 10) Zg) Zo Zj) #[(by change(0:Int)<8;decide),mQ,λt6 H6 s6 n6 e6=>?_];have c:=L5.mono s6;have no6:LR T J x N ps M i U G H6:=.mk _ _ _ _ c<|R5.on (vt s6) λ_ y=>.inl y;refine .inl #[.inr<|mW e6,rfl,rfl,Yf (λ_=>.inl #[rfl,Yf (λy=>?_) λ_=>#[G,rfl,no6]]) λ_=>#[G,rfl,no6]];have hm:=T0 λu=>by
      rw[u]at y;show absurd y (by left)
     clear no6 R5 L5;refine mP (Z1<|Zv (Ly T) hr<|Zb (pv 4)<|Zb (pv 5)<|Zb (pv 10)<|Zb (Zq Ys (pv 8) Ze)<|Zb Ww Za) #[#[by lk,by lk],λdt H7 s7 n7 e7=>#[J,Fr,x,N,dt,ad,L,val,U,ps,js,sg,nm,_,rfl,c.k.mono s7,c.ns,Q0,yv,tb0,hm,c.ne nm hm,e7,λv H8 F8 ad8 lw8 V3 f8 off8 ns8 sd8 ne8 k8=>?_]];have Y:=(c.mono s7).next k8 f8 off8 ns8 (λt ht=>ne8 t<|c.ne t ht) c.l4;obtain⟨us,hh,_⟩:=id Y.held;show mS (nk 7 sZ<|Zn<|Zb (Yi (pv 4) T.ae T.cQ (Dy T) hr.m T.bo.b .nil Z0)<|Zb (Yi (pv 4) T.ae T.cK (W9 T) hr.m T.bf.b .nil Z0) Za) #[k8.obj,rfl,J,F8,x,N,ad8,lw8,V3,U,rfl,k8,λrd H9 s9 n9 e9=>#[(k8.mono s9).obj,rfl,J,F8,x,N,ad8,lw8,V3,U,rfl,k8.mono s9,λss B hs rs G1 t1 m1 f1=>#[mQ,λG G2 t2 m2 f2=>#[G,rfl,.mk F8 ad8 lw8 V3 (Y.mono<|s9.trans<|t1.trans t2)<|tE.made k8 hh s9 n9 e9 t1 m1 f1 t2 m2 f2 B hs]]]]
    clear L5 R5;rintro z H6 ⟨G,rfl,⟨Fr,ad,L,val,c,R6⟩⟩;let I34:IC:=λz I=>∃U,z=[some (.ref a),some<|.ref t,o2,some<|.ref tp,some<|.ref x,some<|.ref N,some<|.ref M,some<|.ref G,some<|.int cell,some<|.ref b4,some<|.str nm]/\LR T J x N ps M i U G I
    refine qh I34 ?_ ?_
    ·refine qf (Zu (pN<|uC (W0 hr (Zq Yn (pv 8) Ze) Ze)<|uC (qU hr (pv 10) Zg)<|vc<|Ye NW (Z5 (pv 4) T.ae T.fS (Zke T) hr.m T.cI.b .nil Z0<|Zb (pv 10) Za) rV<|Yq _) Zo Zj) #[(by change(0:Int)<8;decide),.inl #[rfl,Yf (λ_=>.inl #[rfl,Yf (λy=>?_) λ_=>#[U,rfl,.mk _ _ _ _ c R6]]) λ_=>#[U,rfl,.mk _ _ _ _ c R6]]];have hm:=T0 λu=>by
      rw[u]at y;show absurd y (by left)
     refine#[c.k.obj,rfl,J,Fr,x,N,ad,L,val,U,nm,rfl,c.k,hm,λH7 ad7 off7 k7 on7=>#[rfl,?_]];rw[nZ rfl];refine(pz rfl<|.mk Fr ad7 _ _ (c.next k7 (λ_ y=>.inl y) off7 on7.2.2.2.1 (λt ht=>c.ne t ?_) λp B=>c.l4 p (tY.mp B).1)<|on7.2.2.1 ▸ R6.on off7 λ_ y=>.inl y);obtain⟨p,B,rfl⟩:=mZ.mp ht;show mZ.mpr #[p,(tY.mp B).1,rfl]
    clear c R6 T0;rintro z H7 ⟨U,rfl,⟨Fr,ad,L,val,L7,R7⟩⟩;let I35:IC:=λz I=>z=[some (.ref a),some<|.ref t,o2,some<|.ref tp,some<|.ref x,some<|.ref N,some<|.ref M,some<|.ref G,some<|.int cell,some<|.ref b4,some<|.str nm]/\LK T J x N ps M i I Fr ad L val U/\tE I Fr M G L ad.st
    refine qh I35 ?_ ?_
    ·refine qf (Zu (pN<|qp (Y9<|Yo<|Zv (Znz T) hr<|Zb (pv 4)<|Zb (pv 5)<|Zb (Zq Ys (pv 8) Ze) Za)<|rJ<|Ye (r:=MY K) (WB hr.units) (pv 7) (Zn<|Zb (Yi (pv 4) T.ae T.cQ (Dy T) hr.m T.bo.b .nil Z0)<|Zb (Yi (pv 4) T.ae T.cK (W9 T) hr.m T.bf.b .nil Z0) Za)<|Yq _) Zo Zj) #[#[by lk,by lk],J,Fr,x,N,ad,L,val,U,ps,js,sg,_,rfl,L7.k,Q0,yv,tb0,zz,λH8 s8=>?_];have Y:=L7.mono s8;obtain⟨rd,rs,ss,h1,h2,h3,h4,h5,_⟩:=R7.on (vt s8) λ_ y=>.inl y
     refine#[Y.k.obj,rfl,J,Fr,x,N,ad,L,val,U,rfl,Y.k,λrd' H9 s9 n9 e9=>#[(Y.k.mono s9).obj,rfl,J,Fr,x,N,ad,L,val,U,rfl,Y.k.mono s9,λU3 B hs S3 G1 t1 m1 f1=>#[mQ,λl2 G2 t2 m2 f2=>?_]]];obtain rfl:=yi hs h5<|B.trans h4.symm;have s0:=s9.trans<|t1.trans t2;show#[G,l2,_,_,rfl,rfl,mU<|s0.at h1,mU f2,.cons (Zwu (s0.at h2) (t2.at<|t1.at e9) Y.k.kx.lok.1)<|.cons (Zwt (s0.at h3)<|t2.at f1) .nil,rfl,Y.mono s0,R7.on (vt<|s8.trans s0) λ_ y=>.inl y]
    clear L7 R7;rintro z H8 ⟨rfl,Y,R8⟩;obtain⟨us,V6,hu2,hu3⟩:=id Y.held;refine mS (Z1<|rB (pv 6)<|Zi<|Zb (Yi (pv 4) T.ae T.ci (Wf T) hr.m T.aY.b .nil Z0)<|Zb (Yc (r:=Ag) (Ci hb hr.gd hr.units) (by rfl) T.gN Cw<|Zb (Yi (pv 4) T.ae T.ci (Wf T) hr.m T.aY.b .nil Z0) Za) Za) #[.inl #[rfl,_,mU V6],Y.k.obj,rfl,J,Fr,x,N,ad,L,val,U,rfl,Y.k,λss D es H9 p9 q9 s9 n9 P9 m9 f9=>#[(Y.k.mono s9).obj,rfl,J,Fr,x,N,ad,L,val,U,rfl,Y.k.mono s9,λU3 D' i9 G1 p1 q1 t1 n1 P1 m1 _=>?_]];obtain rfl:=yi q1 q9<|p1.trans p9.symm;have sh:=Mb (val:=val) (ns:=ad.ns) (λt ht=>by obtain⟨p,B,rfl⟩:=mZ.mp<|p1.subset ht;show Y.k.ok p B) (by rw[p1.length_eq,mO];show Y.k.len) Y.k.kx.nok Y.k.kx.pok;have rp:=P1.rp;rw[m1]at rp;have s81:=s9.trans t1;refine#[D',_,rfl,rp,sh.1,oo sh.2.2.1 (by lk),sh.shown (by lk),mQ,λt6 G2 t2 n2 e2=>#[t2.at<|s81.at V6,by rw[mO];show Zp (by lia),?_]];have C:=s81.trans t2;have O8:=C.at V6;have lne:∀{l:lU},H8 l=none->l≠M:=λy u=>by rw[u,V6]at y;cases y
    have dne:∀{l:lU},H8 l=none->¬(Fr l\/l=M):=λy u=>u.elim (Y.k.neF y)<|lne y
    have at7:∀{b:lU}{o:HO},b≠M->H8 b=some o->mM G2 M (.lst<|us.map V.ref++[.ref t6]) b=some o:=λnb y=>by rw[Zd nb];show C.at y
    have tne:∀{l:lU}{xs:lS V},G2 l=some (.tup xs)->¬(Fr l\/l=M):=λ{l xs} y u=>by
     rcases u with u|u
     ·obtain⟨o,h1,h2⟩:=Y.k.live l u;rw[C.at h1]at y;show h2 xs<|oF y
     ·rw[u,O8]at y;cases y
    have P2:=P9.mono<|t1.trans t2;have nt:=s81.free n2;refine .mk _ _ _ _ G U<|.mk Fr ad L val #[(Y.k.mono C).setU O8 (λ_ y=>nomatch y) Y.he Y.nF (λy=>?_) (λy=>?_) Y.n0,Y.ns,Y.ne,Y.l4,Y.nF,Y.n0,us++[t6],by rw[Zc,nw];rfl,by rw[oj];simp;lia,λg hu=>?_]<|(R8.on (vt C) λ_ y=>.inl y).put O8
    ·have:=Y.k.lies;rw[<-y,V6]at this;cases this
    ·have:=Y.k.sti;rw[<-y,V6]at this;cases this
    rcases oA.mp hu with y|y
    ·obtain⟨l,d,x1,x2,x3⟩:=hu3 g y;have sm:mF (uh (λb=>Fr b\/b=M) H8) (uh (λb=>Fr b\/b=M)<|mM G2 M<|.lst<|us.map V.ref++[.ref t6]):=Pe (λb o e w=>at7 (λu=>w<|.inr u) e) λb w=>.inl w
     show#[l,d,sm.at x1,CL sm x2,x3]
    ·rw[pQ.mp y];refine#[D,_,Am (by rw[Zd (lne nt)];show e2)<|dne nt,?_,sh];have:Yv (uh (λb=>Fr b\/b=M)<|mM G2 M<|.lst<|us.map V.ref++[.ref t6]) D es val:=#[Am (by rw[Zd (lne n9)];show P2.1)<|dne n9,λe he=>by
      obtain⟨ts,w1,w2⟩:=P2.2 e he;show#[ts,Am (by rw[Zd (lne<|f9 e he)];show w1)<|dne<|f9 e he,nO w2 λa _ w=>Am (by rw[Zd λu=>tne w<|.inr u];show w)<|tne w]]
     have:=this.rp;rw[m9]at this;show this
   ·rintro z I ⟨o2,o8,o9,Q9,G,U,⟨Fr,ad,L,val,hk,_⟩⟩;show .mk _ _ _ _ _ _ hk.held
  clear Y R8;rintro z H9 ⟨o2,u,o8,o9,Q9,Z9,us,eh,p,j7⟩;refine mS (Zl<|vA hr (pH ["_law_pair"] (ph 1 [] rfl) (Yl<|pv 6) (oK 0) (uH<|Ye (r:=uj K) (wC hr) (Yc (r:=Ag) (Ci hb hr.gd hr.units) (by rfl) T.gN Cw<|Zb (Wx (K:=K) rfl (pv 0) Ze) Za) (Wx (K:=K) rfl (pv 0) Ze)<|Yq _) (pv 0))<|Zn Za) #[mU eh,λC u=>Yy (xs:=us.map V.ref) (λi ys I=>ys=[]/\I C=some (.lst ys)/\mF H9 I) #[rfl,Zc,oU u] ?_ ?_ ?_]
  ·rintro i ys I _ ⟨_,_,sm⟩;show mU<|sm.at eh
  ·rintro i v ys I hi ⟨rfl,hC',sm⟩;rw[nR]at hi;obtain⟨g,hu,rfl⟩:=nW.mp hi;obtain⟨l,d,x1,x2,x3⟩:=j7 g<|pE hu;have s9:mF (uh Z9 H9) I:=λb o e=>sm.at (HG e).1
   have x1:=s9.at x1;have x2:=CL s9 x2;unfold qu;refine#[oR rfl,.inr<|.inl #[mW x1,Zm (j:=0) rfl,l,d,rfl,x2,x3.1,oo x3.2.2.1 (by lk),x3.shown (by lk),.inr<|.inl #[mW x1,Zm (j:=1) rfl,.inl #[rfl,?_]]]];rw[nZ rfl];show#[rfl,hC',sm]
  ·rintro ys I ⟨rfl,hC',sm⟩;refine#[mQ,λle H2 s2 n2 e2=>.inr<|.inl #[1,.lst [],.lst [],by lk,.inr #[_,_,rfl,rfl],?_,?_,?_]]
   ·show xY (ss:=[])<|s2.at hC'
   ·show xY (ss:=[]) e2
   ·rw[nZ rfl];show q H2
end
end K65
end
namespace K65
open PySem L2 NM YM
def UX{z:Type}{us:lS z}(h:us.length=2):∃a b,us=[a,b]:=by
 rcases us with _|⟨a,_|⟨b,_|_⟩⟩<;>first|show#[_,_,rfl]|cases h
def Iy{z:Type}{us:lS z}(h:us.length=3):∃a b c,us=[a,b,c]:=by
 rcases us with _|⟨a,_|⟨b,_|⟨c,_|_⟩⟩⟩<;>first|show#[_,_,_,rfl]|cases h
def Vl{z:Type}{us:lS z}(h:us.length=4):∃a b c d,us=[a,b,c,d]:=by
 rcases us with _|⟨a,_|⟨b,_|⟨c,_|⟨d,_|_⟩⟩⟩⟩<;>first|show#[_,_,_,_,rfl]|cases h
def Yeg{us:lS lV}{n:Nat}(h:us.length=n):us=(List.range n).map (λi=>us.getD i .none):=by
 subst h;apply List.ext_getElem?;intro i
 by_cases h:i<us.length<;>simp[h]
def mR{K:lY}{f:lU}{x q:lT}{st:lZ}{s kV r z u y:lV}{od w:lX lU}{p:Array (lX lV)}{ps:lS lT}(l:K.lookup f=some #[s,od,.func<|fnOf x q (Wv st) (Y4 st) (Zk st) .none kV r z w u y,p])(e:codeIn K u q=true)(k:keepIn K (.ref f)=true)(b:∀kV o z w n y (v:Nat->lV),bindArgs (fnOf x q (Wv st) (Y4 st) (Zk st) .none kV o z w n y) #[(List.range ps.length).map v,[]]=pure (ps.zip<|(List.range ps.length).map v)):Dn K x q st ps:=#[f,_,DU l e k,(DU l e k).binds λ_ _ _ _ _ _ j h=>by rw[Yeg h];show b ..]
def DF{K:lY}{f u:lU}{p kV o n r j i:lV}{od h y:lX lU}{g x:Array (lX lV)}{d:Nat}{w:Tok}(l:K.lookup f=some #[p,od,.func<|fnOf "leads" "Part.leads" (Wv Wc) (Y4 Wc) (Zk Wc) (.ref u) kV o n h r j,g])(ld:K.lookup u=some #[i,y,.seq (List.toArray [.str "" w]) d,x])(e:codeIn K r "Part.leads"=true)(k:keepIn K (.ref f)=true):xM K "leads" "Part.leads" Wc ["self","end","lie"] (.str "") :=
 #[f,_,_,KA (st:=Wc) l e k,λs q KX z=>by
   rw[qj]at z ⊢;obtain⟨_,_,_,rfl⟩:=Iy z;show DM rfl (KX _ _ ld) rfl rfl rfl,.str "" w,#[w,rfl],λs q KX z=>by
   have c:q.length=2:=by simpa using z
   obtain⟨_,_,rfl⟩:=UX c;show DM rfl (KX _ _ ld) rfl rfl rfl]
def Df{K:lY}{f w:lU}{q kV p o u n j:lV}{od i y:lX lU}{h x:Array (lX lV)}{g:Nat}(l:K.lookup f=some #[q,od,.func<|fnOf "__init__" "Tracks.__init__" (Wv Y2) (Y4 Y2) (Zk Y2) (.ref w) kV p o i u n,h])(ld:K.lookup w=some #[j,y,.seq (List.toArray [.none]) g,x])(e:codeIn K u "Tracks.__init__"=true)(k:keepIn K (.ref f)=true):xM K "__init__" "Tracks.__init__" Y2 ["self","parts","joins","signals"] .non :=
 #[f,_,_,KA (st:=Y2) l e k,λs r KX z=>by
   rw[qj]at z ⊢;obtain⟨_,_,_,_,rfl⟩:=Vl z;show DM rfl (KX _ _ ld) rfl rfl rfl,.none,rfl,λs r KX z=>by
   have d:r.length=3:=by simpa using z
   obtain⟨_,_,_,rfl⟩:=Iy d;show DM rfl (KX _ _ ld) rfl rfl rfl]
def XS{K:lY}{C Y f z:lU}{x nm qn:lT}{bs sub:lS lV}{sn:lS lT}{ab:Bool}{col:lX Bool}{dd:lX lU}{k0 k1 k2 k3 k5:lX lV}(lk:K.lookup C=some (excClassObj nm qn C z bs (.ref Y ::vX) true sn sub ab col dd k0 k1 k2 k3 k5 "ValueError.__new__"))(y:keepIn K (.ref C)=true)(w:findIn K (.ref C) "__init__"=some (some<|.ref f))(fn:PySem.W.typeIn K (.ref f)=some (.type "function"))(u:findIn K (.ref C) "__setattr__"=some (some<|.builtin "object.__setattr__"))(s:findIn K (.ref C) x=some none)(g:XG K C):XI K C Y f x:=#[#[_,_,_,_,_,_,_,_,_,_,_,_,_,_,lk],y,w,fn,u,g.xa,s]
def MK(vs:Array lV)(p:lU):Prop:=vs[11]? =some (.ref p)
def mL{K:lY}{fd:mj}{c p:lU}{od:lX lU}{vs:Array lV}{z:Array (lX lV)}(e:fd.code=.ref c)(_:K.lookup c=some #[.type "code",od,.fields vs,z])(_:MK vs p)(h:PySem.W.codeHdIn K c p=true):tT K fd p:=#[c,e,h]
abbrev Tx.pts{K:lY}{mg:lT->lX lV}(T:Tx K mg):lS lU:=[T.cj,T.bA,T.bn,T.ck,T.bF,T.cA,T.bd,T.bH]
def sM{K:lY}{a:lU}{od:lX lU}{z:Array (lX lV)}{n:Nat}{y x:Tok}(h:K.lookup a=some #[.type "tuple",od,.seq (List.toArray [.str "" y,.str "" x]) n,z])(H:Hp):SqT K H a ([.str "",.str ""]:lS V):=.inr #[_,_,_,h,rfl,rfl,by simp[sO],.cons #[_,rfl]<|.cons #[_,rfl] .nil]
def mE{z:Type}{p:z->Prop}{a:z}(h:p a):∃x,p x:=#[a,h]
def fin{l:PySem.W.OpenLaw}{w:md}{K:lY}{h:ma}{x:lT->lX lV}{q f:lU}{g kV o n u j:lV}{od i:lX lU}{d:Array (lX lV)}(X:K.In h)(G:h.Ns mainGlobals x)(r:x "law"=some (.ref q))(T:Tx K x)(a:nsIn K mainGlobals "law"=some (some<|.ref f))(lk:K.lookup f=some #[g,od,.func<|fnOf "law" "law" (Wv vF) (Y4 vF) (Zk vF) .none kV o n i u j,d])(e:codeIn K u "law"=true)(k:keepIn K (.ref f)=true)(y:∀p∈T.pts,h.get? p=some (PySem.W.tabObj #[]))(c:T.pts.Nodup)(Y:PySem.W.noTabs K=true)
  :∃(fd:mj)(tabs:lS (lU×Array lV)),Cn K h tabs/\(∀(s:lW)(v:lV),BindsTo s fd #[[v],[]] [("_law_script",v)])/\∀mG:ma,K.In mG->mG.Ns mainGlobals x->(∃U,mG.Ns sysModules U)->Y6 l.prog w K x mG oP 13 q fd ["_law_script"] (ze K tabs):=by
 have e:=r.symm.trans<|mg_of X G a;cases e;show#[fnOf "law" "law" (Wv vF) (Y4 vF) (Zk vF) .none kV o n i u j,T.tabs,#[pP.mpr #[T.eR.imp λ_ z=>z.2,pP.mpr #[T.ej.imp λ_ z=>z.2,pP.mpr #[T.ek.imp λ_ z=>z.2,pP.mpr #[T.eS.imp λ_ z=>z.2,pP.mpr #[T.em.imp λ_ z=>z.2,pP.mpr #[T.ft.imp λ_ z=>z.2,pP.mpr #[T.er.imp λ_ z=>z.2,pP.mpr #[T.et.imp λ_ z=>z.2,λ_ z=>nomatch z]]]]]]]],pP.mpr #[y T.cj (by simp[Tx.pts]),pP.mpr #[y T.bA (by simp[Tx.pts]),pP.mpr #[y T.bn (by simp[Tx.pts]),pP.mpr #[y T.ck (by simp[Tx.pts]),pP.mpr #[y T.bF (by simp[Tx.pts]),pP.mpr #[y T.cA (by simp[Tx.pts]),pP.mpr #[y T.bd (by simp[Tx.pts]),pP.mpr #[y T.bH (by simp[Tx.pts]),λ_ z=>nomatch z]]]]]]]],pP.mpr #[#[_,rfl,by lk],pP.mpr #[#[_,rfl,by lk],pP.mpr #[#[_,rfl,by lk],pP.mpr #[#[_,rfl,by lk],pP.mpr #[#[_,rfl,by lk],pP.mpr #[#[_,rfl,by lk],pP.mpr #[#[_,rfl,by lk],pP.mpr #[#[_,rfl,by lk],λ_ z=>nomatch z]]]]]]]],c,Y],λs v=>.of_eq rfl,λmG _ _=>QQ (DU (st:=vF) lk ‹_› k) T]
def uf{K:Params->lY}{as:lS lU}{e:∀P,as=(K P).map (·.1)}{ts ps:lS lU}{w:md}{h:ma}(Y:(PySem.W.kmHook K as e ts).says w h)(i:(ps.all λp=>ts.contains p)=true:=by lk):∀p∈ps,h.get? p=some (PySem.W.tabObj #[]):=λp z =>
 PySem.W.km_tabs_of Y p (ON.mp<|wE.mp i p z)
def walk{l:PySem.W.OpenLaw}{q:mh}{o:lS lT}{n:(lT->lX lV)->ma->Prop}{y:md->ma->Prop}{d:DefRec}{K:Params->lY}(j:l.most=some 63)(r:d.params.defaults=[])
  (i:∀(w:md)(h:ma),y w h->(K w.params).In h)
  (F:∀(w:md)(z:lT->lX lV)(p:lU)(h:ma),y w h->(K w.params).In h->h.Ns mainGlobals z->z d.name=some (.ref p)->
   ∃(fd:mj)(tabs:lS (lU×Array lV)),Cn (K w.params) h tabs/\(∀(s:lW)(u:lV),BindsTo s fd #[[u],[]] [("_law_script",u)])/\∀mG:ma,(K w.params).In mG->mG.Ns mainGlobals z->(∃g,mG.Ns sysModules g)->Y6 l.prog w (K w.params) z mG oP 13 p fd ["_law_script"] (ze (K w.params) tabs)) (e:PyProof.Rows.importsNone q=true) :
  PySem.W.WalkO q o n y l.row.toRowW d [] (λf vs=>PySem.call f vs):=L2.walk_ofS (k:=13) (x :="_law_script") j r #[rfl,by lk,by lk,rfl] i F e
end K65
end
namespace PySem.W.Fast
def tw7725946900903627753:=True
lay_quick env_41 heap_1118 heap_39 heap_46 sts_101 sts_1077 sts_116 sts_131 sts_153 sts_175 sts_197 sts_212 sts_232 sts_291 sts_306 sts_335 sts_350 sts_393 sts_443 sts_49 sts_494 sts_556 sts_601 sts_656 sts_71 sts_732 sts_769 sts_86 sts_994 tree_100 tree_1076 tree_1117 tree_115 tree_130 tree_152 tree_174 tree_196 tree_211 tree_231 tree_290 tree_305 tree_334 tree_349 tree_392 tree_442 tree_47 tree_493 tree_555 tree_600 tree_655 tree_70 tree_731 tree_768 tree_85 tree_906 tree_990 view_39
end PySem.W.Fast
open PySem PySem.W PyProof.Rows L2 K65
set_option maxRecDepth 100000 in
set_option maxHeartbeats 0 in
theorem PySem.Challenge.cw_yardkeep_k65_turned_and_shown_holds : PySem.Challenge.rw_yardkeep_k65_turned_and_shown.Holds := by
  w_on; o_law; k_head; (case hw=>w_witness2)
  k_fill
  refine K65.walk (l:=PySem.Challenge.rw_yardkeep_k65_turned_and_shown) rfl rfl (fun w h Y=>km_in_of Y) ?F ?Qz
  case Qz=>kernel_rfl
  case F=>
   intro w mg fa h Y X G hm
   have g:=fun{n v}=>@mg_of _ _ mg n v X G
   have n:=fun{n}=>@mg_none_of _ _ mg n X G
   refine' K65.fin X G hm ?T ?_ ?_ ?_ ?_ ?tm ?tn ?tq
   case' T=>apply Tx.mk
   all_goals try first|refine' mR ?_ ?_ ?_ ?_|refine' ⟨mR ?_ ?_ ?_ ?_,g ?_⟩|refine' DF ?_ ?_ ?_ ?_|refine' Df ?_ ?_ ?_ ?_
   all_goals try (intro _ _ _ _ _ _ u;rfl)
   all_goals try (refine g ?_;k_is)
   all_goals try (refine n ?_;k_is)
   all_goals try refine' mE (g ?_)
   all_goals try refine' tO (g ?_) ?_
   all_goals try refine' XS ?_ ?_ ?_ ?_ ?_ ?_ ?_
   all_goals try refine' mL ?_ ?_ ?_ ?_
   all_goals try refine' sM ?_
   all_goals try k_is
   all_goals try (refine ⟨?_,?_,?_,?_⟩<;>(try dsimp only [mR,DF,Df])<;>k_is)
   all_goals try (refine ⟨?_,?_,?_⟩<;>(try dsimp only [mR,DF,Df])<;>k_is)
   all_goals try dsimp only [mR,DF,Df,mX,kB,cB]
   all_goals try k_is
   all_goals try kit_is
   all_goals try k_exc
   all_goals try (refine ⟨⟨?_,?_,?_⟩,?_,?_,?_,?_,?_⟩<;>first|k_is|(show isClsIn _ _=true;k_is))
   all_goals try k_is
   all_goals try (delta MK;rfl)
   all_goals try first|kernel_rfl|rfl
   case tm=>dsimp only [Tx.pts];exact uf Y
   case tn=>dsimp only [Tx.pts];decide
