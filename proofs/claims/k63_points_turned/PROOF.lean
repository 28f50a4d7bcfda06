import PyProof.Rows.All
import Wide.All
import OpenK.AllK
import PySem.Challenge.RW_yardkeep_k63_points_turned
set_option Elab.async false
set_option linter.all false
set_option maxRecDepth 100000
set_option maxHeartbeats 4000000
open PySem.W (Frag kitOne keepIn findIn nsIn mg_of fnOf codeIn)
set_option compiler.extract_closed false
set_option genSizeOf false
set_option hygiene false
local macro_rules|`(tactic|and_intros)=>`(tactic|first|exact .inl rfl|exact .inr rfl|assumption)
local macro_rules|`(tactic|bv_omega)=>`(tactic|(rintro _ _ _ _ ⟨⟩<;>subst_vars<;>first|rfl|(rename_i h;cases h;subst_vars;rfl)))
local macro_rules|`(tactic|subst_eqs)=>`(tactic|first|exact λ_ _ q=>q|(intro b o q;rw[Zd (Ze q<|by assumption)];exact q))
set_option hygiene true
set_option hygiene false
local macro_rules|`(∅)=>`(wpAny (model X.prog X.w) X.A)
local macro_rules|`(~~~$x)=>`(($x :lY)++".<locals>."++"<lambda>")
local macro_rules|`(tactic|rfl')=>`(tactic|intro d6 A mJ s H vs Q E hr h)
set_option hygiene true
local macro_rules|`(tactic|lk)=>`(tactic|decide)
local macro_rules|`(tactic|left)=>`(tactic|decide +kernel)
open Lean in
local macro_rules|`(lay_quick $i*)=>do
 let g s:=mkIdent (.mkSimple s!"tw{(Name.str `PySem.Challenge.cw_yardkeep_k63_points_turned_holds s).hash}")
 return mkNullNode (<-(i.map (g ·.getId.toString)++(Array.range 1073).map fun k=>g s!"o_{k+43}").mapM fun x=>`(def $x :=True))
local macro_rules(kind:=Lean.Parser.Command.declaration)|x=>do
 if x.getPos?.isNone then Lean.Macro.throwUnsupported
 let n<-`(noncomputable def a:=1)
 return (if [`Lean.Parser.Command.definition,`Lean.Parser.Command.abbrev].contains x[1].getKind&&x[0].getArgs.all (·.isNone) then x.setArg 0 n.raw[0] else x).rewriteBottomUp (·.setInfo .none)
set_option bootstrap.genMatcherCode false
abbrev lX:=@List
abbrev lY:=PySem.Str
abbrev lZ:=PySem.Addr
abbrev ma:=PySem.Value
abbrev md:=PySem.Shared
abbrev me:=@Option
abbrev mf:=PySem.W.Frag
abbrev mh:=PySem.Stmt
abbrev mi:=PySem.Heap
abbrev mj:=PySem.World
abbrev ml:=PySem.Expr
abbrev mn:=PySem.Program
abbrev mo:=PySem.Around
abbrev mq:=PySem.FuncData
def mV:=@List.length_map
def mU:=@PySem.wpAny_bind
def nZ:=@PySem.Heap.get?_push_of_some
def nJ:=@List.map_append
def nU:=@List.getElem?_map
def oo:=@Option.map_eq_some_iff
def nH:=@List.mem_map
def nk:=@PySem.wpAny_pure
def oj:=@List.length_append
def nK:=@Nat.le_refl
def oR:=@List.getElem?_eq_getElem
def nW:=@PySem.Paired.length
def og:=@decide_eq_true
def nS:=@PySem.Heap.lt_size
def pz:=@List.getElem?_eq_some_iff
def oG:=@PySem.Heap.get?_push_size
def oh:=@List.mem_cons
def oK:=@Bool.false_ne_true
def oN:=@List.mem_cons_self
def oZ:=@List.mem_cons_of_mem
def oH:=@List.take_add_one
def pi:=@List.mem_of_getElem?
def oM:=@List.size_toArray
def ow:=@decide_eq_false
def oq:=@List.map_cons
def oF:=@List.length_take
def oi:=@Nat.ne_of_lt
def nO:=@PyProof.Rows.wpS_bind
def ng:=@if_neg
def qc:=@PySem.Str.length_append
def oO:=@List.mem_append
def pp:=@List.append_assoc
def pF:=@Nat.lt_of_lt_of_le
def nj:=@if_pos
def pP:=@List.forall_mem_cons
def nR:=@PyProof.Rows.wpS_pure
def pc:=@Option.some.inj
def oy:=@Nat.le_trans
def pD:=@List.take_length
def pK:=@List.mem_singleton
def pL:=@of_decide_eq_true
def se:=@PyProof.Rows.boot_isinstance
def pJ:=@List.length_cons
def qr:=@Int.emod_lt_of_pos
def oU:=@List.map_map
def pM:=@PySem.PassesOwn.never
def qK:=@Array.length_toList
def rF:=@List.mem_append_right
def pO:=@List.append_nil
def rV:=@PySem.Heap.get?_update_other
def qF:=@Bool.false_eq_true
def qu:=@List.nodup_append
def pZ:=@List.nodup_cons
def ua:=@List.getD_eq_getElem?_getD
def qk:=@Bool.and_eq_true
def qd:=@Int.emod_nonneg
def ui:=@List.length_eq_zero_iff
def sX:=@Array.getElem?_toList
def qm:=@List.Perm.refl
def sO:=@beq_eq_false_iff_ne
def sy:=@PySem.mem_of_lookup
def qt:=@PySem.wpAny_holding
def uC:=@List.take_of_length_le
def rB:=@List.filter_cons
def pU:=@Nat.le_of_lt
def ux:=@PySem.Heap.get?_update_self
def rH:=@List.lookup_cons
def tE:=@PySem.wpAny_newObj_type
def tz:=@Array.getElem_mem
def rN:=@PySem.W.kia_one
def uZ:=@List.getElem?_eq_none
def oY:=@congrArg
def rf:=@Nat.lt_irrefl
def sU:=@List.not_mem_nil
def su:=@Bool.eq_iff_iff
def wb:=@PyProof.Rows.boot_sorted
def rS:=@PySem.Heap.size_push
def uE:=@PySem.wpAny_Call_Name_kw
def pX:=@PySem.wpAny_mono
def uI:=@Array.toList_append
def xl:=@List.extract_eq_take_drop
def uX:=@PySem.Obj.data_mapFields
def uM:=@List.filter_append
def yJ:=@PyProof.Rows.callWith_type1
def qT:=@Nat.le_succ
def tW:=@List.of_mem_zip
def wD:=@List.perm_append_comm
def wx:=@PyProof.Rows.boot_str
def uW:=@PySem.wpAny_truthy_bool
def yM:=@List.getElem?_append_right
def oW:=@Ne.symm
def xD:=@PySem.Calls.callWith_builtin
def wR:=@PyProof.Rows.boot_dict
def za:=@List.drop_eq_getElem_cons
def uV:=@List.mem_nil_iff
def qN:=@beq_iff_eq
def vG:=@Int.toNat_natCast
def wW:=@List.length_filter_le
def vo:=@decide_eq_true_eq
def xh:=@PySem.Obj.isFreed_of_fields
def xG:=@List.take_append_drop
def sv:=@PyProof.Rows.wpS_forRange
def vi:=@PySem.wpAny_setState_of
def uw:=@List.nodup_nil
def rR:=@Nat.zero_le
def wk:=@PySem.Calls.spliced_cons
def xR:=@PySem.F.plainAttrs_list
def wK:=@PySem.F.called_set
def xz:=@Array.toList_extract
def vI:=@List.mem_flatMap
def pW:=@if_false
def Bs:=@Array.getElem?_eq_some_iff
def Af:=@PySem.F.excBase_ValueError
def xN:=@PyProof.Rows.boot_list
def xH:=@PySem.Heap.SameBut.update
def Bm:=@List.getElem?_append_left
def uh:=@PySem.codeAny_mono
def rL:=@True.intro
def xC:=@Nat.pos_of_ne_zero
def wv:=@PySem.wpAny_call_entry
def wo:=@List.all_eq_true
def yN:=@PySem.Around.under_plainId
def Bu:=@PySem.F.plainAttrs_dict
def DU:=@PyProof.Rows.slot_tuple_getitem
def uq:=@Nat.lt_trans
def Fh:=@PyProof.Rows.F.plain_set_update_loop
def xJ:=@PySem.wpAny_pyIter_list
def tR:=@PySem.sizeLine_eq
def wm:=@PySem.codeAny_builtin
def yH:=@PySem.W.KT.app_list
def zi:=@List.flatMap_append
def AF:=@PyProof.Rows.boot_repr
def tF:=@PySem.wpAny_rule
def zL:=@List.length_singleton
def uS:=@List.map_nil
def yb:=@PySem.tupleKind_room_in1
def yp:=@PySem.Code.quiet_builtin
def vS:=@PySem.wpAny_setField
def Dh:=@PySem.Calls.call_function_entry
def BH:=@Array.getElem?_eq_getElem
def Bh:=@PySem.Heap.get?_none_of_le
def zM:=@List.mem_append_left
def Bi:=@Array.mem_toList_iff
def Ai:=@PySem.W.looks_findIn
def zR:=@PySem.Calls.evalArgs_plain
def Be:=@PySem.codeAny_call_builtin
def Aj:=@List.mem_of_mem_take
def qU:=@or_false
def At:=@List.getElem?_of_mem
def wO:=@List.mem_filter
def xA:=@PySem.wpAny_passesOwn
def yj:=@PySem.Calls.spliced_nil
def Ec:=@PySem.F.slot_list_getattribute
def yW:=@List.foldl_append
def vK:=@Nat.ne_of_gt
def DL:=@PySem.wpAny_getItem_str_slice
def AM:=@Option.some_ne_none
def AR:=@List.getElem_of_mem
def wc:=@List.map_take
def AE:=@List.map_congr_left
def CD:=@List.eraseIdx_cons_succ
def xW:=@Nat.lt_succ_self
def yC:=@List.length_drop
def Br:=@PySem.F.slot_list_pop
def ul:=@PySem.wpAny_call
def CY:=@List.Perm.append_right
def AQ:=@PySem.W.callWith_K
def Ej:=@List.dropLast_concat_getLast
def yG:=@List.find?_cons
def BF:=@PySem.builtinLookup_eq_fast
def CK:=@List.Perm.append_left
def yd:=@List.filter_nil
def xF:=@List.any_cons
def Bt:=@PySem.wpAny_loadPart_at
def Ae:=@Nat.lt_succ_of_lt
def AB:=@Array.toList_push
def Bj:=@List.length_range
def yk:=@List.mem_range
def yf:=@List.Perm.swap
def Pc:=@PyProof.Rows.F.entry_set_update_loop
def GP:=@Classical.byContradiction
def AY:=@beq_self_eq_true
def sW:=@PyProof.Rows.wpS_mono
def wl:=@Sum.inr.inj
def CJ:=@PySem.BindsTo.of_defaults
def xr:=@Nat.le_of_eq
def Gg:=@Option.isSome_iff_exists
def xq:=@PySem.wpAny_typeOf
def wS:=@Nat.lt_or_ge
def AC:=@List.nil_append
def AU:=@List.cons.injEq
def BP:=@PySem.W.of_hideAll
def zv:=@PySem.wpAny_execs_nil
def CP:=@List.mem_filterMap
def FV:=@List.getElem?_replicate
def rP:=@if_true
def FK:=@PySem.wpAny_callSpecial?_slot
def Bp:=@Bool.or_eq_true
def GO:=@PySem.wpAny_Call_method0_late
def yz:=@Prod.mk.injEq
def zw:=@PySem.wpAny_ite_split
def En:=@List.getElem?_set_self
def Hk:=@PySem.W.cellsFrom_some
def LD:=@PySem.plainObj_wpAny_Assign_Attribute
def wX:=@PySem.wpAny_field
def Nm:=@List.eraseIdxIfInBounds_toArray
def De:=@bne_self_eq_false
def BB:=@List.ext_getElem?
def Ce:=@PySem.Obj.cls_mapFields
def LX:=@Array.getElem?_setIfInBounds_ne
def Ci:=@List.reverse_cons
def Bz:=@List.reverse_perm
def EK:=@PySem.W.methodCall_KW
def Lm:=@PyProof.Rows.callWith_builtin1
def zd:=@PySem.call_meetsIn
def FT:=@PySem.F.slot_dict_get
def Gu:=@List.getElem?_toArray
def EO:=@PySem.wpAny_notOrdered_dict
def EW:=@PySem.F.type_list_pop
def Hi:=@PyProof.Rows.boot_int
def Dp:=@PySem.wpAny_eqBool_str
def BR:=@PySem.wpAny_execs_cons
def DS:=@Nat.succ_le_succ
def BU:=@List.getElem_mem
def Dg:=@List.nil_sublist
def Ep:=@List.getElem?_set_ne
def GN:=@PySem.SeqAt.EqAt.bool_bool
def Ib:=@PySem.F.slot_dict_update
def FL:=@Array.toList_reverse
def Ag:=@PySem.wpAny_standAt
def Ay:=@PySem.plainId_quiet
def xj:=@PySem.typeIs_str
def Hx:=@PySem.W.hideAll_get
def Gn:=@List.filterMap_cons
def Ix:=@PySem.W.plainGet_of
def Fq:=@PySem.W.looks_clsIn
def DY:=@PySem.SeqAt.EqAt.same
def CL:=@List.length_nil
def DH:=@PySem.post_val_or_str
def Fo:=@PySem.evalArgs_none
def Cf:=@PySem.typeLookup_type
def Gp:=@PySem.W.codeHd_of_K
def CC:=@List.Perm.trans
def CS:=@List.range_succ
def Dx:=@Nat.not_lt_zero
def GE:=@Nat.mul_le_mul_left
def Kn:=@PySem.Calls.Name_function_global
def Kj:=@PySem.wpAny_newFunctionEnv_cells
def Lw:=@Array.toList_setIfInBounds
def Oz:=@Array.perm_iff_toList_perm
def Kf:=@List.length_eraseIdx_of_lt
def Fy:=@Nat.lt_of_le_of_lt
def Iq:=@Option.isNone_none
def Cw:=@PySem.isSubtype_type
def Ql:=@PySem.F.plain_extend_loop
def KI:=@List.getLast?_eq_some_iff
def KF:=@List.getLast?_eq_getElem?
def FS:=@List.flatMap_cons
def HJ:=@PySem.slot_list_getitem
def Oi:=@PySem.wpAny_getItem_list_slice
def zf:=@PySem.call_meets
def FQ:=@Option.isSome_map
def Fg:=@PySem.wpAny_Call_method
def MX:=@PySem.F.slot_dict_values
def FR:=@Bool.eq_false_iff
def Ff:=@List.Pairwise.map
def Qn:=@PySem.F.args_tuple_add_2
def Rb:=@List.length_erase_of_mem
def IV:=@List.sublist_append_left
def QW:=@PySem.F.args_dict_get_3
def NX:=@PySem.F.slot_dict_items
def Cs:=@PySem.wpAny_newList
def Lq:=@PySem.F.attr_ValueError
def Do:=@PySem.wpAny_attempt
def MN:=@decide_eq_false_iff_not
def zE:=@List.not_lt
def QT:=@PySem.F.entry_tuple_add
def uG:=@PyProof.Rows.wpS_get
def CA:=@Bool.not_true
def Ou:=@List.pairwise_singleton
def JY:=@PySem.F.plain_list_iadd
def MB:=@PyProof.Rows.boot_tuple
def IG:=@decide_eq_decide
def Fi:=@Option.bind_some
def Eg:=@List.drop_length
def Gj:=@PySem.W.kat_cons
def Ee:=@PySem.wpAny_isInstance
def Hh:=@PySem.wpAny_askSetting
def HX:=@List.any_eq_true
def Mh:=@PySem.F.entry_dict_get
def Mc:=@PySem.W.funFrames_hide
def Rh:=@PySem.F.slot_tuple_add
def Jd:=@Array.getElem?_eq_none
def Pe:=@List.append_eq_nil_iff
def IT:=@List.length_replicate
def KZ:=@PySem.F.slot_list_append
def Hv:=@PySem.wpAny_specialOf
def Co:=@PySem.Txt.slice_le
def Pz:=@List.mem_iff_getElem?
def EH:=@PySem.codeAny_of_tree
def Da:=@Nat.zero_add
def CO:=@Nat.add_zero
def KL:=@List.contains_iff_mem
def GK:=@PySem.W.kat_yes
def Ka:=@PySem.F.slot_tuple_lt
def Pu:=@PySem.F.plain_set_new
def JL:=@PySem.F.slot_set_iter
def Jc:=@PySem.F.slot_dict_pop
def GZ:=@List.sum_append
def GA:=@List.length_zip
def Az:=@PySem.Walks.list
def AV:=@PyProof.Rows.wpS_modify
def xu:=@PyProof.Rows.wpS_lift
def Pp:=@PySem.W.hideAll_none
def Qq:=@PySem.W.KatTups.cons
def Ri:=@List.mem_erase_of_ne
def MW:=@Nat.mul_le_mul_right
def Ii:=@PySem.wpAny_loadPart
def GF:=@Bool.and_false
def EU:=@PySem.boot_len
def FO:=@PySem.W.kat_go
def GV:=@PySem.W.kat_no
def PY:=@PySem.W.findObj_own
def Cb:=@PySem.Paired.snoc
def Kv:=@PySem.W.KeqHits.hit
def Qi:=@PySem.W.looks_mroIn
def Jv:=@List.take_succ_cons
def OJ:=@List.filter_eq_self
def OL:=@PySem.W.KatTups.nil
def Js:=@List.filter_sublist
def Qt:=@List.map_eq_nil_iff
def Lc:=@PySem.W.codeRec_of
def EE:=@List.all_cons
def FY:=@Bool.false_or
def OB:=@PySem.W.check_slot
def Hl:=@List.take_add
def Jl:=@Array.size_extract
def EL:=@List.map_drop
def HM:=@getElem?_pos
def wH:=@not_or
def Et:=@Prod.mk.inj
def Ig:=@List.map_id
def yP:=@Or.inl
def zk:=@Or.inr
open Prod(fst snd)
section
local macro_rules|`(tactic|show $t)=>`(tactic|exact $t)
local macro_rules|`(#v[$a])=>`(($a).heap.objs.size)
local macro_rules|`(#[$a])=>`(⟨$a⟩)|`(#[$a,$b,*])=>`(⟨$a,$b,*⟩)
namespace L2
open PySem PySem.Spec PyProof.Rows
abbrev nI:=Sum Int lY
def vR:nI->ma->Bool
 | .inl k,v=>Value.isInt k v
 | .inr x,v=>Value.isStrOf x v
def Vv(w:mj):nI->Int
 | .inl k=>hashInt k
 | .inr x=>hashStr w x
theorem Xb:∀{k:nI}{v:ma},vR k v=true->(∃i t,k=Sum.inl i/\v=Value.int i t)\/(∃x t,k=Sum.inr x/\v=Value.str x t)
 | .inl i,v,h=>by
  obtain⟨t,e⟩:=Value.isInt_shape (k:=i) (v:=v) h;show .inl #[i,t,rfl,e]
 | .inr x,v,h=>by
  obtain⟨t,e⟩:=Value.isStrOf_shape (x:=x) (v:=v) h;show .inr #[x,t,rfl,e]
def Zws(i:Int)(t:Tok):vR (.inl i) (.int i t)=true:=by simp[vR,Value.isInt]
def Zw0(x:lY)(t:Tok):vR (.inr x) (.str x t)=true:=by simp[vR,Value.isStrOf]
def ZH(a b:Int):decide ((Sum.inl a:nI)=Sum.inl b)=(a ==b):=by
 by_cases e:a=b
 ·subst e;simp
 ·have h:¬(Sum.inl a:nI)=Sum.inl b:=λq=>e<|Sum.inl.inj q
  rw[ow h];show(sO.mpr e).symm
def WT(a b:lY):decide ((Sum.inr a:nI)=Sum.inr b)=decide (a=b):=by
 by_cases e:a=b
 ·subst e;simp
 ·have h:¬(Sum.inr a:nI)=Sum.inr b:=λq=>e<|wl q
  rw[ow h,ow e]
def Vq(a:Int)(b:lY):decide ((Sum.inl a:nI)=Sum.inr b)=false:=ow (λq=>nomatch q)
def Vj(a:lY)(b:Int):decide ((Sum.inr a:nI)=Sum.inl b)=false:=ow (λq=>nomatch q)
def Z4(prog:mn)(w:mj):PySem.KeyKind prog w nI where
 is:=vR
 hash:=Vv w
 inj:=λv a b q r=>by
  rcases Xb q with⟨i,t,rfl,rfl⟩|⟨x,t,rfl,rfl⟩
  ·rcases Xb r with⟨j,u,rfl,e⟩|⟨y,u,rfl,e⟩
   ·injection e with z _;rw[z]
   ·show nomatch e
  ·rcases Xb r with⟨j,u,rfl,e⟩|⟨y,u,rfl,e⟩
   ·show nomatch e
   ·injection e with z _;rw[z]
 byValue:=λk v h=>by
  rcases Xb h with⟨i,t,rfl,rfl⟩|⟨x,t,rfl,rfl⟩<;>rfl
 pyHash:=λs h=>by
  rcases Xb s with⟨i,t,rfl,rfl⟩|⟨x,t,rfl,rfl⟩
  ·show wpAny_pyHash_int h
  ·show wpAny_pyHash_str h
 eqBool:=λp s h=>by
  rcases Xb p with⟨i,t,rfl,rfl⟩|⟨x,t,rfl,rfl⟩
  ·rcases Xb s with⟨j,u,rfl,rfl⟩|⟨y,u,rfl,rfl⟩
   ·rw[ZH]at h;show wpAny_eqBool_int h
   ·rw[Vq]at h;show SeqAt.EqAt.int_str i t y u _ _ _ _ h
  ·rcases Xb s with⟨j,u,rfl,rfl⟩|⟨y,u,rfl,rfl⟩
   ·rw[Vj]at h;show SeqAt.EqAt.str_int x t j u _ _ _ _ h
   ·rw[WT]at h;show Dp h
 «strs» :=λk x t v h=>by
  rcases Xb h with⟨i,u,rfl,e⟩|⟨y,u,rfl,e⟩
  ·show nomatch e
  ·injection e with z _
   subst z;cases v<;>rfl
def Zs9(prog:mn)(w:mj)(i:Int)(t:Tok):(Z4 prog w).is (.inl i) (.int i t)=true:=Zws i t
def Zrm(prog:mn)(w:mj)(x:lY)(t:Tok):(Z4 prog w).is (.inr x) (.str x t)=true:=Zw0 x t
inductive V where
 | non|bl (b:Bool)|int (i:Int)|str (x:Str)|byt (b:Array UInt8)|flt (b:UInt64)|ref (a:Addr)|ty (n:String)
 deriving DecidableEq
def Yg:V->ma->Prop
 | .non,u=>u=Value.none
 | .bl b,u=>u=Value.bool b
 | .int i,u=>∃t,u=Value.int i t
 | .str x,u=>∃t,u=Value.str x t
 | .byt b,u=>∃t,u=Value.bytes b t
 | .flt b,u=>∃t,u=Value.float b t
 | .ref a,u=>u=Value.ref a
 | .ty n,u=>u=Value.type n
abbrev Ya:lX V->lX ma->Prop:=Paired Yg
def Ya.length(r:Ya xs us):xs.length=us.length:=nW r
theorem Ya.get:∀{xs:lX V}{us:lX ma}{i:Nat}{x:V},Ya xs us->xs[i]? =some x->∃u,us[i]? =some u/\Yg x u
 | _,_,_,_,.nil,e=>by simp at e
 | _,_,0,_,.cons r _,e=>by simp at e;subst e;show#[_,rfl,r]
 | _,_,i+1,x,.cons _ t,e=>by
  obtain⟨u,z,y⟩:=Ya.get (i:=i) (x:=x) t (by simpa using e);show#[u,by simpa using z,y]
theorem Ya.set(r:Yg x u):∀{xs:lX V}{us:lX ma}(i:Nat),Ya xs us->Ya (xs.set i x) (us.set i u)
 | _,_,_,.nil=>.nil
 | _,_,0,.cons _ t=>.cons r t
 | _,_,i+1,.cons q t=>.cons q<|Ya.set r i t
def Ya.append{xs z:lX V}{us y:lX ma}(h:Ya xs us)(s:Ya z y):Ya (xs++z) (us++y):=by
 induction h with
 | nil=>show s
 | cons r _ t=>show .cons r t
theorem Ya.take:∀{xs:lX V}{us:lX ma}(n:Nat),Ya xs us->Ya (xs.take n) (us.take n)
 | _,_,0,_=>.nil
 | _,_,_+1,.nil=>.nil
 | _,_,n+1,.cons r t=>.cons r<|Ya.take n t
theorem Ya.drop:∀{xs:lX V}{us:lX ma}(n:Nat),Ya xs us->Ya (xs.drop n) (us.drop n)
 | _,_,0,r=>r
 | _,_,_+1,.nil=>.nil
 | _,_,n+1,.cons _ t=>Ya.drop n t
def qp:me V->me ma->Prop
 | some v,some u=>Yg v u
 | none,none=>True
 | _,_=>False
def KV{z:Type}:lX (z×V)->lX (z×ma)->Prop:=Paired λ(p:z×V) (q:z×ma)=>p.1=q.1/\Yg p.2 q.2
def kV:nI->V
 | .inl i=>.int i
 | .inr x=>.str x
inductive HO where
  | lst (xs:List V)
  | tup (xs:List V)
  | dK (kvs:List (nI×V))|dT (kvs:List (List nI×V))
  | set (S:Int->Bool) (n:Nat)
  | ins (C dx:Addr) (fs:List (Str×V))
  | own (x:Addr)
  | xd (fs:List (Str×V))
  | met (f x:Addr)
  | rng (lo hi:Int)
  | frz (o:Obj) (u:HO)
  | tbl (ps:Array Value)
  | ext (φ:Heap->Prop)
abbrev Hp:=lZ->me HO
def mT(H:Hp)(a:lZ)(o:HO):Hp:=λb=>if b=a then some o else H b
def Zc :mT H a o a=some o:=by unfold mT;rw[nj rfl]
def Zd(h:b≠a):mT H a o b=H b:=by unfold mT;rw[ng h]
def Ht :mT (mT H a o) a u=mT H a u:=by
 funext b;unfold mT;split<;>rfl
def Nz{H:Hp}{a b:lZ}{o u:HO}(h:H a=some o)(h':H b=some u)(d:o≠u):a≠b:=by
 intro e;subst e;rw[h]at h';show d<|pc h'
def Ze{H:Hp}{a b:lZ}{o:HO}(h:H a=some o)(h':H b=none):a≠b:=by
 intro e;subst e;rw[h]at h';cases h'
def EC(z:Obj)(c y:lZ):Prop:=∀h:mi,h.get? c=some z->PySem.W.CodeHd h c y
def Xi(z:lX (Nat×Nat×lY)):Array ma:=(z.flatMap λp=>[rawInt p.1,rawInt p.2.1,.str p.2.2 0]).toArray
def rQ(fs:lX (Nat×Nat×lY×lZ)):Array ma:=(fs.flatMap λf=>[rawInt f.1,rawInt f.2.1,.ref f.2.2.2]).toArray
def Lx{m n:Nat}(h:rawInt m=rawInt n):m=n:=by
 unfold rawInt at h
 injection h with h
 lia
def Zzc:∀{y z:lX (Nat×Nat×lY)},Xi y=Xi z->y=z:=by
 intro y z h;have h:(y.flatMap λp=>[rawInt p.1,rawInt p.2.1,Value.str p.2.2 0])=z.flatMap λp=>[rawInt p.1,rawInt p.2.1,Value.str p.2.2 0]:=by
  unfold Xi at h;simpa using h
 induction y generalizing z with
 | nil=>cases z with
  | nil=>rfl
  | cons m r=>simp at h
 | cons l r w=>cases z with
  | nil=>simp at h
  | cons m u =>
   simp only[FS,List.cons_append,AC,AU]at h;obtain⟨s,q,o,x⟩:=h;obtain⟨n,j,i⟩:=l;obtain⟨g,e,d⟩:=m;have c:n=g:=Lx s;have a:j=e:=Lx q;have Y:i=d:=by injection o
   have U:r=u:=by first|show w (oY List.toArray x) x|show w<|oY List.toArray x
   rw[c,a,Y,U]
theorem Ybz:∀{z:lX (Nat×Nat×lY)},Xi z≠ (List.toArray [Value.none])
 | [],h=>by simp[Xi]at h
 | _ ::_,h=>by simp[Xi]at h
theorem Ge:∀fs:lX (Nat×Nat×lY×lZ),TriplesOk (rQ fs).toList
 | []=>trivial
 | f ::fs=>by
  have:=Ge fs;unfold rQ at this ⊢;simpa[TriplesOk,rawInt]using this
theorem Nq :∀{fs:lX (Nat×Nat×lY×lZ)},codeAmong pos (rQ fs).toList=some cv->∃f∈fs,cv=.ref f.2.2.2/\f.1=pos.line/\f.2.1=pos.col
 | [],h=>by simp[rQ,codeAmong]at h
 | f ::fs,h=>by
  have e:(rQ<|f ::fs).toList=rawInt f.1 ::rawInt f.2.1 ::Value.ref f.2.2.2 ::(rQ fs).toList:=by simp[rQ]
  rw[e]at h;have h:(if((f.1:Int) ==(pos.line:Int) && (f.2.1:Int) ==(pos.col:Int))=true then some (Value.ref f.2.2.2)else codeAmong pos (rQ fs).toList)=some cv:=h;split at h
  ·rename_i z;simp only[qk,qN]at z;show#[f,oN,(pc h).symm,by lia,by lia]
  ·obtain⟨g,y,r⟩:=Nq h;show#[g,oZ _ y,r]
def UV(fs:lX (Nat×Nat×lY×lZ))(f:Nat×Nat×lY×lZ):rQ (fs++[f])=rQ fs++ (List.toArray [rawInt f.1,rawInt f.2.1,.ref f.2.2.2]):=by
 unfold rQ;simp
section
variable (P:mn) (w:mj)
def Z7(H:Hp)(h:mi)(a:lZ):HO->Prop
 | .lst s=>s.length<=sizeLine/\∃(l:lX ma)(n:Nat),Ya s l/\h.get? a=some {cls:=.type "list",data:=.seq l.toArray n}
 | .tup s=>s.length<=sizeLine/\∃l:lX ma,Ya s l/\IsTup h a l.toArray
 | .dK y=>y.length<=sizeLine/\(a ==sysModules)=false/\∃j,KV y j/\h.DictOf (Z4 P w) a j
 | .dT y=>y.length<=sizeLine/\(a ==sysModules)=false/\∃s:lX (lX nI×lZ×ma),
   Paired (λ(p:lX nI×V) (q:lX nI×lZ×ma)=>p.1=q.1/\H q.2.1=some (.tup<|p.1.map kV)/\Yg p.2 q.2.2) y s/\
   ∃o z x,h.get? a=some o/\o.ExactDict/\o.data=.dict z x/\z.toList=s.map (entryOfKey<|tupleKind<|Z4 P w)/\(s.map (·.1)).Nodup
 | .set S n=>h.SetOf (intKind P w) a S n
 | .ins C z fs=>H z=some (.own a)/\fs.length<=1000/\z≠a/\h.get? a=some (PySem.W.instObj C z)/\
   ∃r,h.Ns1 z r/\(∀f,qp (fs.lookup f)<|r f)/\PySem.Within r (fs.map (·.1))
 | .own _=>∃o,h.get? a=some o
 | .xd fs=>∃r,h.Ns1 a r/\∀f,qp (fs.lookup f) (r f)
 | .rng lo z=>∃t u v,h.get? a=some {cls:=.type "range",data:=.fields (List.toArray [.int lo t,.int z u,.int 1 v])}
 | .frz o u=>h.get? a=some o/\Z7 H h a u
 | .tbl i=>∃z:Array ma,h.get? a=some {cls:=.none,data:=.fields z}/\(i=(List.toArray [.none])/\TriplesOk z.toList\/∃(x:lX (Nat×Nat×lY)) (fs:lX (Nat×Nat×lY×lZ)),i=Xi x/\(x.map λp=>(p.1,p.2.1)).Nodup/\z=rQ fs/\
   ∀f∈fs,((f.1,f.2.1,f.2.2.1):Nat×Nat×lY)∈x/\∃(q:Obj)(j:Array ma)(e:Nat)(g:lZ),H f.2.2.2=some (.frz q<|.own a)/\q.data=.fields j/\j[1]? =some (.str f.2.2.1 e)/\H g=some (.tbl<|List.toArray [.none])/\EC q f.2.2.2 g)
 | .met f x=>h.get? a=some (PySem.W.methodObj (.ref f)<|.ref x)
 | .ext z=>z h/\(∃o,h.get? a=some o)/\∀x q:mi,z x->(∀o,x.get? a=some o->q.get? a=some o)->z q
def oz(H:Hp)(h:mi):Prop:=∀a o,H a=some o->Z7 P w H h a o
end
section
def Z7.lt(x:Z7 P w H h a o):a<h.objs.size:=by
 cases o with
 | lst r=>obtain⟨_,_,_,_,e⟩:=x;show nS e
 | tup r=>obtain⟨_,_,_,p⟩:=x;show p.lt
 | dK s=>obtain⟨_,_,_,_,o,_,_,e,_⟩:=x;show nS e
 | dT s=>obtain⟨_,_,_,_,o,_,_,e,_⟩:=x;show nS e
 | set S n=>obtain⟨o,_,_,_,e,_⟩:=x;show nS e
 | ins C z fs=>obtain⟨_,_,_,e,_⟩:=x;show nS e
 | own y=>obtain⟨_,e⟩:=x;show nS e
 | xd fs=>obtain⟨_,⟨_,_,_,e,_⟩,_⟩:=x;show nS e
 | rng lo z=>obtain⟨_,_,_,e⟩:=x;show nS e
 | frz z u=>obtain⟨e,_⟩:=x;show nS e
 | tbl z =>
  obtain⟨_,e,_⟩:=x;show nS e
 | met f y=>show nS (show h.get? a=some _ from x)
 | ext z=>obtain⟨_,⟨_,e⟩,_⟩:=x;show nS e
def Paired.mapP{z y:Type}{F G:z->y->Prop}{l₁:lX z}{l₂:lX y}(h:Paired F l₁ l₂)(f:∀a b,F a b->G a b):Paired G l₁ l₂:=by
 induction h with
 | nil=>show .nil
 | cons r _ t=>show .cons (f _ _ r) t
def Z7.stay(x:Z7 P w H h a o)(k:∀b u,(b=a\/H b=some (.own a))->h.get? b=some u->h'.get? b=some u)
  (J:∀b,H b=some (.own a)->g b=some (.own a)) (I:∀b xs,H b=some (.tup xs)->g b=some (.tup xs))
  (hz:∀b o,H b=some (.frz o<|.own a)->g b=some (.frz o<|.own a):=by subst_eqs)
  (G:∀b ps,H b=some (.tbl ps)->g b=some (.tbl ps):=by subst_eqs):Z7 P w g h' a o:=by
 induction o with
 | lst xs=>obtain⟨y,Y,n,r,e⟩:=x;show#[y,Y,n,r,k _ _ (.inl rfl) e]
 | tup xs=>obtain⟨y,Y,r,l,e,c⟩:=x;show#[y,Y,r,l,k _ _ (.inl rfl) e,c]
 | dK U=>obtain⟨y,s,Q,r,l,j,i,e,c⟩:=x;show#[y,s,Q,r,l,j,i,k _ _ (.inl rfl) e,c]
 | dT U =>
  obtain⟨y,s,xs,r,l,j,i,e,c⟩:=x;show#[y,s,xs,Paired.mapP r λp q y=>#[y.1,I _ _ y.2.1,y.2.2],l,j,i,k _ _ (.inl rfl) e,c]
 | set S n=>obtain⟨l,j,i,t,e,c⟩:=x;show#[l,j,i,t,k _ _ (.inl rfl) e,c]
 | ins C E fs =>
  obtain⟨d,y,z,e,N,⟨M,j,i,L,c⟩,r⟩:=x;show#[J _ d,y,z,k _ _ (.inl rfl) e,N,#[M,j,i,k _ _ (.inr d) L,c],r]
 | own s=>obtain⟨l,e⟩:=x;show#[l,k _ _ (.inl rfl) e]
 | xd fs=>obtain⟨N,⟨M,j,i,e,c⟩,r⟩:=x;show#[N,#[M,j,i,k _ _ (.inl rfl) e,c],r]
 | rng lo z=>obtain⟨t,u,v,e⟩:=x;show#[t,u,v,k _ _ (.inl rfl) e]
 | frz l u z=>obtain⟨e,q⟩:=x;show#[k _ _ (.inl rfl) e,z q]
 | tbl ps =>
  obtain⟨z,e,q⟩:=x;refine#[z,k a _ (.inl rfl) e,q.imp_right λs=>?_];obtain⟨d,fs,E,L,D,q⟩:=s;refine#[d,fs,E,L,D,λf C=>?_];obtain⟨B,A,Q,tt,Pn,f1,f2,f3,f4,f5⟩:=q f C;show#[B,A,Q,tt,Pn,hz _ _ f1,f2,f3,G _ _ f4,f5]
 | met f s =>
  have e:h.get? a=some (PySem.W.methodObj (.ref f)<|.ref s):=x;change h'.get? a=some (PySem.W.methodObj (.ref f)<|.ref s);show k a _ (.inl rfl) e
 | ext z=>obtain⟨p,⟨o,e⟩,st⟩:=x;show#[st _ _ p λo q=>k _ _ (.inl rfl) q,#[o,k _ _ (.inl rfl) e],st]
def oz.lt(x:oz P w H h)(e:H a=some o):a<h.objs.size:=(x a o e).lt
def oz.fresh(x:oz P w H h)(e:h.objs.size<=a):H a=none:=by
 cases q:H a with
 | none=>rfl
 | some u=>show absurd (pF (x.lt q) e)<|rf _
def oz.kept(x:oz P w H h)(k:∀b u,h.get? b=some u->h'.get? b=some u):oz P w H h':=λa o e =>
 (x a o e).stay (λb u _ q=>k b u q) (λ_ q=>q) λ_ _ q=>q
def oz.laid(x:oz P w H h)(k:∀b u,h.get? b=some u->h'.get? b=some u)(s:h.objs.size<=a)(new:Z7 P w (mT H a o) h' a o):oz P w (mT H a o) h':=λb u e=>by
 have z:=x.fresh s
 by_cases y:b=a
 ·subst y;rw[Zc]at e;cases e;show new
 ·rw[Zd y]at e;show(x b u e).stay (λc v _ q=>k c v q) (λc q=>by rw[Zd (Ze q z)];show q) λc r q=>by rw[Zd (Ze q z)];show q
end
def Rd(H:Hp)(a:lZ)(u:HO):Prop:=H a=some u\/∃o,H a=some (.frz o u)
def Rd.ok(r:Rd H a u)(x:oz P w H h):Z7 P w H h a u:=by
 rcases r with r|⟨o,r⟩
 ·show x a u r
 ·obtain⟨_,q⟩:=x a _ r;show q
def AJ:me HO->Prop
 | some (.lst _)=>True
 | some (.dK _)=>True
 | some (.dT _)=>True
 | some (.set _ _)=>True
 | some (.ins _ _ _)=>True
 | some (.ext _)=>True
 | _=>False
section
def oz.write(ok:oz P w H h)(p:AJ (H x))(Y:e=x\/H e=some (.own x))(k:∀b u,b≠e->h.get? b=some u->h'.get? b=some u)(a:∃u,h'.get? e=some u)
  (new:Z7 P w (mT H x o') h' x o'):oz P w (mT H x o') h':=λb u q=>by
 have n:∀c y,H c=some (.own y)->c≠x:=λc y r z=>by subst z;rw[r]at p;show p
 have l:∀c i,H c=some (.tup i)->c≠x:=λc i r z=>by subst z;rw[r]at p;show p
 have j:∀c o y,H c=some (.frz o<|.own y)->c≠x:=λc o y r z=>by subst z;rw[r]at p;show p
 by_cases g:b=x
 ·subst g;rw[Zc]at q;cases q;show new
 ·rw[Zd g]at q
  by_cases s:b=e
  ·have d:H b=some (.own x):=by
    rcases Y with z|z
    ·show absurd (s.trans z) g
    ·rw[s];show z
   rw[q]at d;cases d;obtain⟨v,U⟩:=a;show#[v,by rw[s];show U]
  ·refine(ok b u q).stay (λc v d r=>k c v ?_ r) (λc r=>by rw[Zd (n c b r)];show r) (λc i r=>by rw[Zd (l c i r)];show r) (λc o r=>by rw[Zd (j c o b r)];show r) (λc U r=>by rw[Zd λz=>by subst z;rw[r]at p;show p];show r);rcases d with rfl|d
   ·show s
   ·rintro rfl;rcases Y with z|z
    ·show n c b d z
    ·rw[d]at z;cases z;show g rfl
end
structure Un(fs ex:List Addr)(H H':Hp)(h h':Heap):Prop where
 keep:∀b o,h.get? b=some o->H b=none->b∉fs->b∉ex->h'.get? b=some o
 slot:∀b o,h.get? b=some o->H b=none->b∈fs->b∉ex->∃sl,h'.get? b=some {o with slots:=sl}
 free:∀b o,h.get? b=some o->H b=none->b∉ex->H' b=none
 there:∀b o,h.get? b=some o->b∉ex->∃o',h'.get? b=some o'
 tups:∀b xs,H b=some (.tup xs)->H' b=some (.tup xs)
 frzs:∀b o u,H b=some (.frz o u)->H' b=some (.frz o u)
 tbls:∀b ps,H b=some (.tbl ps)->∃more,H' b=some (.tbl<|ps++more)
section
def Un.any(u:Un fs x H r h w)(q:h.get? b=some ob)(n:H b=none)(z:b∉x):∃s,w.get? b=some {ob with slots:=s}:=by
 by_cases y:b∈fs
 ·show u.slot b ob q n y z
 ·show#[ob.slots,u.keep b ob q n y z]
def Un.kept(k:∀b u,h.get? b=some u->h'.get? b=some u):Un fs y H H h h' :=
 #[λb z q _ _ _=>k b z q,λb z q _ _ _=>#[z.slots,k b z q],λ_ _ _ n _=>n,λb z q _=>#[z,k b z q],λ_ _ q=>q,λ_ _ _ q=>q,λ_ x q=>#[#[],by rw[q];simp]]
def Un.refl:Un fs z H H h h:=Un.kept λ_ _ q=>q
def Un.laid(k:∀b u,h.get? b=some u->h'.get? b=some u)(y:h.objs.size<=a)(z:H a=none):Un fs w H (mT H a o) h h' where
 keep:=λb u q _ _ _=>k b u q
 slot:=λb u q _ _ _=>#[u.slots,k b u q]
 free:=λb u q n _=>by rw[Zd (oi<|pF (nS q) y)];show n
 there:=λb u q _=>#[u,k b u q]
 tups:=λb x q=>by rw[Zd (Ze q z)];show q
 frzs:=λb u x q=>by rw[Zd (Ze q z)];show q
 tbls:=λb s q=>#[#[],by rw[Zd (Ze q z),q];simp]
def Un.write(w:AJ (H x))(i:e=x\/H e=some (.own x))(k:∀b u,b≠e->h.get? b=some u->h'.get? b=some u)(s:∃u,h'.get? e=some u):Un fs d H (mT H x o) h h':=by
 have l:∀b,H b=none->b≠x:=λb n z=>by subst z;rw[n]at w;show w
 have j:∀b,H b=none->b≠e:=λb n z=>by
  subst z;rcases i with r|r
  ·show l b n r
  ·rw[n]at r;cases r
 have p:∀b u,H b=some u->¬AJ (some u)->b≠x:=λb u q nm z=>by subst z;rw[q]at w;show nm w
 refine#[λb u q n _ _=>k b u (j b n) q,λb u q n _ _=>#[u.slots,k b u (j b n) q],λb u q n _=>by rw[Zd (l b n)];show n,λb u q _=>?_,
  λb g q=>by rw[Zd (p b _ q λz=>z)];show q,λb u g q=>by rw[Zd (p b _ q λz=>z)];show q,λb c q=>#[#[],by rw[Zd (p b _ q λz=>z),q];simp]]
 by_cases y:b=e
 ·subst y;show s
 ·show#[u,k b u y q]
end
def vv(h:mi)(H:Hp):lX lZ:=(List.range h.objs.size).filter λa=>(H a).isSome
def vJ(h:mi)(H:Hp):mi:=PySem.W.hideAll h<|vv h H
def Zyf(h:mi)(H:Hp):(vJ h H).objs.size=h.objs.size:=PySem.W.hideAll_size _ _
def Zy3(e:h.get? b=some o)(n:H b=none):(vJ h H).get? b=some o :=
 Hx _ e λz=>by
  have q:(H b).isSome=true:=(wO.mp z).2;rw[n]at q;simp at q
def RL(e:(vJ h H).get? b=some o):h.get? b=some o/\H b=none:=by
 have y:h.get? b=some o:=BP (vv h H) e;refine#[y,?_];cases q:H b with
 | none=>rfl
 | some x =>
  have w:b∈vv h H:=wO.mpr #[yk.mpr<|nS y,by simp[q]];have z:(vJ h H).get? b=none:=Pp (vv h H) w;rw[z]at e;cases e
def UG(g h:mi)(L:lZ):lX (lZ×Obj):=(List.range h.objs.size).filterMap λa=>if a=L\/(g.get? a).isSome=true then none else(h.get? a).map λo=>(a,o)
def Zr(g h:mi)(L d:lZ):lX (lZ×Obj):=(UG g h L).filter λp=>decide<|p.1≠d
def JV(x:lY->me ma)(h:mi):Prop:=∃y z,x "__builtins__"=some (.ref y)/\y≠builtinsNs/\h.get? y=some z/\z.cls=.type "module"/\z.dict=some builtinsNs/\z.data=.plain
structure Mod(K:Frag)(mg:Str->Option Value)(mM:Heap):Prop where
 kin:K.In mM
 glob:mM.Ns mainGlobals mg
 blt:∃mb,mM.Ns builtinsNs mb/\∀x:Str,x≠ "__name__"->mb x=bootBuiltins x
 nolimit:mM.NoLimit
 bm:JV mg mM
structure Cx where
 prog:Program
 w:World
 K:Frag
 mg:Str->Option Value
 mM:Heap
 A:Around
 N:List Str
 mw:Shared
 mz:Hp
 env:Env
 mJ:List Env
 stack:List Env
 ex:List Addr
 fn:Str->Bool
 calm:Bool
 pn:List (Addr×Obj)
 xe:Value->Shared->Prop
def oS(l:lX Env):lX lZ:=l.filterMap (·.frame)
abbrev Cx.fs(X:Cx):lX lZ:=oS X.mJ
def Df(z:Scope)(x:lY):Prop:=z.names.lookup x=some .local\/z.names.lookup x=some .cell\/z.names.lookup x=some .free
def vO(z:Scope)(x:lY):Prop:=z.names.lookup x=some .local\/z.names.lookup x=some .cell
def YJ(env:Env)(h:mi)(m:lY->me ma)(x:lY)(u:ma):Prop :=
 (env.kindOf x=some .local/\m x=some u)\/((env.kindOf x=some .cell\/env.kindOf x=some .free)/\∃c,env.cells.lookup x=some c/\h.IsCell c (some u))
structure Cx.Ok(X:Cx):Prop where
 mod:Mod X.K X.mg X.mM
 kind:X.env.scope.kind=.function
 glob:X.env.globals=mainGlobals
 blt:X.env.builtins=builtinsNs
 above:X.mw.heap.objs.size<=X.env.locals
 inj:∀x y c,X.env.cells.lookup x=some c->X.env.cells.lookup y=some c->x=y
 has:∀x,(X.env.kindOf x=some .cell\/X.env.kindOf x=some .free)->∃c,X.env.cells.lookup x=some c
 cab:∀x c,X.fn x=true->X.env.cells.lookup x=some c->X.mw.heap.objs.size<=c
 hd:X.calm=true->X.A.handled=none
 frames:X.A.frames=some X.stack
 stk:X.stack=X.mJ\/(X.stack=X.env ::X.mJ/\X.env.frame=some X.env.locals)
 exf:∀b∈X.ex,b≠X.env.locals/\∀x c,X.env.cells.lookup x=some c->c≠b
 bs:∀b o,X.mM.get? b=some o->X.mw.heap.get? b=some o/\X.mz b=none
 bsz:X.mM.objs.size<=X.mw.heap.objs.size
 noex:∀b o,X.mM.get? b=some o->b∉X.ex
 exfs:∀b∈X.ex,b∉X.fs
 funs:X.mw.heap.FunFrames X.mM X.mJ
 frf:∀b∈X.fs,X.mz b=none
structure mS(X:Cx)(c7:List (Addr×Obj))(σ:List (Option V))(H:Hp)(s:Shared):Prop where
 ok:X.Ok
 os:s.os=X.mw.os
 bare:AllBare s.gens
 mM:Un X.fs X.ex X.mz H X.mw.heap s.heap
 loc:∃m,s.heap.Ns X.env.locals m/\∀(i:Nat)(x:Str)(v:V),X.N[i]? =some x->σ[i]? =some (some v)->Df X.env.scope x->∃u,Yg v u/\YJ X.env s.heap m x u
 cell:∀x c,X.env.cells.lookup x=some c->∃v,s.heap.IsCell c v
 free:H X.env.locals=none
 freeC:∀x c,X.env.cells.lookup x=some c->H c=none
 pin:∀p∈X.pn++c7,s.heap.get? p.1=some p.2/\H p.1=none/\p.1≠X.env.locals/\p.1∉X.fs/\∀v,p.2.data≠.cell v
 hok:oz X.prog X.w H s.heap
 len:σ.length=X.N.length
variable {X:Cx}
def Cx.Ok.nofr(ok:X.Ok)(e:X.mM.get? b=some o):b∉X.fs:=λz=>by
 have:=(ok.funs.mem z).1;rw[e]at this;cases this
def mS.bs(I:mS X y z H s):∀b o,X.mM.get? b=some o->s.heap.get? b=some o/\H b=none:=λb o e =>
 #[I.mM.keep b o (I.ok.bs b o e).1 (I.ok.bs b o e).2 (I.ok.nofr e) (I.ok.noex b o e),I.mM.free b o (I.ok.bs b o e).1 (I.ok.bs b o e).2 (I.ok.noex b o e)]
def mS.bk(I:mS X y z H s):∀b o,X.mM.get? b=some o->s.heap.get? b=some o:=λb o e=>(I.bs b o e).1
def mS.mod(I:mS X y z H s):Mod X.K X.mg X.mM:=I.ok.mod
def mS.kIn(I:mS X y z H s):X.K.In s.heap:=I.ok.mod.kin.keeps I.bk
def mS.fr(I:mS X x z H s):∃m,Fr X.mM X.env.locals s.heap m :=
 let⟨m,y,_⟩:=I.loc
 #[m,y,I.bk,oy I.ok.bsz I.ok.above]
def mS.lt(I:mS X x z H s):X.env.locals<#v[s]:=let⟨_,y,_⟩:=I.loc;y.lt
def mS.sz(I:mS X y z H s):X.mw.heap.objs.size<=#v[s]:=oy I.ok.above<|pU I.lt
def mS.nofs(I:mS X w z H s)(h:#v[s]<=a):a∉X.fs:=λy=>by
 obtain⟨_,o,x,_⟩:=I.ok.funs.mem y;show absurd (pF (nS x)<|oy I.sz h)<|rf _
def mS.cne(I:mS X q z H s):∀x c,X.env.cells.lookup x=some c->c≠X.env.locals:=λx c e y=>by
 obtain⟨v,o,u,hd⟩:=I.cell x c e;obtain⟨m,⟨p,o,n,r,w,_⟩,_⟩:=I.loc;rw[y,r]at u;cases u;rw[w]at hd;cases hd
def mS.funs(I:mS X d z H s):s.heap.FunFrames X.mM X.mJ:=by
 have all:∀(l:lX Env),(∀b∈oS l,b∈X.fs)->X.mw.heap.FunFrames X.mM l->s.heap.FunFrames X.mM l:=by
  intro l
  induction l with
  | nil=>intro _ _;trivial
  | cons env r p =>
   intro q n;obtain⟨j,⟨L,o,x,i,h,hd⟩,g⟩:=n;have w:L∈X.fs:=q L (by unfold oS;rw[Gn,x];show oN);obtain⟨c,e⟩:=I.mM.slot L o h (I.ok.frf L w) w λy=>I.ok.exfs L y w
   show#[j,#[L,_,x,i,e,hd],p (λb u=>q b (by unfold oS;rw[Gn,x];show oZ _ u)) g]
 show all X.mJ (λ_ u=>u) I.ok.funs
def mS.stack(I:mS X w z H s):s.heap.FunFrames X.mM X.stack:=by
 rcases I.ok.stk with e|⟨e,y⟩
 ·rw[e];show I.funs
 ·rw[e];obtain⟨m,x,_⟩:=I.loc;refine .cons (by rw[I.ok.kind];decide) y x ?_ I.funs;show Bh<|oy I.ok.bsz I.ok.above
def mS.stkSub(I:mS X w z H s):∀b∈oS X.stack,b∈X.env.locals ::X.fs:=λb y=>by
 rcases I.ok.stk with e|⟨e,x⟩
 ·rw[e]at y;show oZ _ y
 ·rw[e]at y;unfold oS at y;rw[Gn,x]at y;show y
def mS.stkFree(I:mS X u z H s):∀b∈oS X.stack,H b=none:=λb x=>by
 rcases oh.mp (I.stkSub b x)with e|x
 ·rw[e];show I.free
 ·obtain⟨_,o,w,_⟩:=I.ok.funs.mem x;show I.mM.free b o w (I.ok.frf b x) λy=>I.ok.exfs b y x
def mS.step{g':Array GenState}{t':Nat}{d':Drawn}{ch:lX lZ}(I:mS X B z H s)
  (Q:∀b∈ch,(b∈X.ex\/X.mw.heap.objs.size<=b)/\b≠X.env.locals/\(∀x c,X.env.cells.lookup x=some c->c≠b)/\∀p∈X.pn++B,p.1≠b)
  (keep:∀b o,b≠X.env.locals->b∉X.fs->b∉ch->s.heap.get? b=some o->H b=none->h'.get? b=some o)
  (slot:∀b o,b≠X.env.locals->b∈X.fs->b∉ch->s.heap.get? b=some o->H b=none->∃D,h'.get? b=some {o with slots:=D}) (free:∀b o,b∉ch->s.heap.get? b=some o->H b=none->N b=none)
  (there:∀b o,b∉ch->s.heap.get? b=some o->∃o',h'.get? b=some o')
  (M:∀b xs,H b=some (.tup xs)->N b=some (.tup xs)) (L:∀b o u,H b=some (.frz o u)->N b=some (.frz o u)) (J:∀b ps,H b=some (.tbl ps)->∃more,N b=some (.tbl<|ps++more))
  (ns:∀m,s.heap.Ns X.env.locals m->h'.Ns X.env.locals m) (C:oz X.prog X.w N h') (hg:AllBare g') :
  mS X B z N {s with heap:=h',gens:=g',drawn:=d',toks:=t'}:=by
 have G:∀b o,X.mw.heap.get? b=some o->b≠X.env.locals:=λb o e=>oi<|pF (nS e) I.ok.above
 have g:∀b o,X.mw.heap.get? b=some o->b∉X.ex->b∉ch:=λb o e w Y=>by
  rcases(Q b Y).1 with y|y
  ·show w y
  ·show absurd (pF (nS e) y)<|rf _
 have j:∀x c,X.env.cells.lookup x=some c->∀v,s.heap.IsCell c v->h'.IsCell c v:=λx c e v ⟨o,U,hd⟩=>by
  have h:c∉ch:=λy=>(Q c y).2.2.1 x c e rfl
  by_cases A:c∈X.fs
  ·obtain⟨D,q⟩:=slot c o (I.cne x c e) A h U<|I.freeC x c e;show#[_,q,hd]
  ·show#[o,keep c o (I.cne x c e) A h U<|I.freeC x c e,hd]
 refine#[I.ok,I.os,hg,#[λb o e n Y w=>?_,λb o e n Y w=>?_,λb o e n w=>?_,λb o e w=>?_,λb xs e=>M b xs<|I.mM.tups b xs e,λb o xs e=>L b o xs<|I.mM.frzs b o xs e,λb ps e=>?_],?_,λx c e=>?_,?_,λx c e=>?_,λp hp=>?_,C,I.len]
 ·show keep b o (G b o e) Y (g b o e w) (I.mM.keep b o e n Y w)<|I.mM.free b o e n w
 ·obtain⟨D,a⟩:=I.mM.slot b o e n Y w;obtain⟨r,E⟩:=slot b _ (G b o e) Y (g b o e w) a<|I.mM.free b o e n w;show#[r,E]
 ·obtain⟨o',a⟩:=I.mM.there b o e w;show free b o' (g b o e w) a<|I.mM.free b o e n w
 ·obtain⟨o',a⟩:=I.mM.there b o e w;show there b o' (g b o e w) a
 ·obtain⟨r,a⟩:=I.mM.tbls b ps e;obtain⟨q,E⟩:=J b _ a;show#[r++q,by rw[E,Array.append_assoc]]
 ·obtain⟨m,q,d⟩:=I.loc;refine#[m,ns m q,λi x v a E e3=>?_];obtain⟨u,r,l⟩:=d i x v a E e3;refine#[u,r,?_];rcases l with l|⟨k,c,e,y⟩
  ·show .inl l
  ·show .inr #[k,c,e,j x c e _ y]
 ·obtain⟨v,y⟩:=I.cell x c e;show#[v,j x c e v y]
 ·obtain⟨m,⟨o,_,_,U,_⟩,_⟩:=I.loc;show free _ o (λy=>(Q _ y).2.1 rfl) U I.free
 ·obtain⟨v,o,U,hd⟩:=I.cell x c e;show free c o (λy=>(Q c y).2.2.1 x c e rfl) U<|I.freeC x c e
 ·obtain⟨e,n,r,q,d⟩:=I.pin p hp;have h:p.1∉ch:=λy=>(Q p.1 y).2.2.2 p hp rfl
  show#[keep p.1 p.2 r q h e n,free p.1 p.2 h e n,r,q,d]
def mS.un{t':Nat}(I:mS X l z H s)(u:Un X.fs [] H q s.heap h')(x:oz X.prog X.w q h'):mS X l z q {s with heap:=h',toks:=t'}:=by
 obtain⟨m,⟨o,y,i,p,r⟩,_⟩:=id I.loc;obtain⟨y,j⟩:=u.any p I.free (by simp);show I.step (g':=s.gens) (d':=s.drawn) (ch:=[]) (λ_ y=>nomatch y) (λb o _ w _ e n=>u.keep b o e n w<|by simp) (λb o _ w _ e n=>u.slot b o e n w<|by simp) (λb o _ e n=>u.free b o e n<|by simp) (λb o _ e=>u.there b o e<|by simp) u.tups u.frzs u.tbls (λd r=>by
  obtain⟨c,i,h,y,g⟩:=r;rw[p]at y;cases y;show#[_,i,h,j,g]) x I.bare
def mS.call{g':Array GenState}{t':Nat}{d':Drawn}{ch:lX lZ}(I:mS X j z H s)(u:Un (oS X.stack) ch H i s.heap h')(q:oz X.prog X.w i h')(d:AllBare g')
  (h:∀b∈ch,(b∈X.ex\/X.mw.heap.objs.size<=b)/\b≠X.env.locals/\(∀x c,X.env.cells.lookup x=some c->c≠b)/\∀p∈X.pn++j,p.1≠b) :
  mS X j z i {s with heap:=h',gens:=g',drawn:=d',toks:=t'}:=by
 obtain⟨m,⟨o,a,Y,g,r⟩,_⟩:=id I.loc;obtain⟨r,l⟩:=u.any g I.free λy=>(h _ y).2.1 rfl
 show I.step (ch:=ch) h (λb o l r w e n=>u.keep b o e n (λy=>(oh.mp<|I.stkSub b y).elim l r) w) (λb o _ _ w e n=>u.any e n w) (λb o w e n=>u.free b o e n w) (λb o w e=>u.there b o e w) u.tups u.frzs u.tbls (λN a=>by
  obtain⟨M,Y,U,r,Q⟩:=a;rw[g]at r;cases r;show#[_,Y,U,l,Q]) q d
def mS.turned{t':Nat}{it:lZ}(I:mS X j z H s)(k:∀b o,b≠it->s.heap.get? b=some o->h'.get? b=some o)(h:H it=none)(i:it≠X.env.locals)
  (g:it∈X.ex\/X.mw.heap.objs.size<=it) (d:∀x c,X.env.cells.lookup x=some c->c≠it) (a:∀p∈X.pn++j,p.1≠it):mS X j z H {s with heap:=h',toks:=t'}:=by
 have l:∀b u,H b=some u->b≠it:=λb u e y=>by rw[y,h]at e;cases e
 refine I.step (g':=s.gens) (d':=s.drawn) (ch:=[it]) (λb Y=>?_) (λb o _ _ w e _=>k b o (λy=>w<|by simp[y]) e) (λb o _ _ w e _=>#[o.slots,k b o (λy=>w<|by simp[y]) e]) (λ_ _ _ _ n=>n)
  (λb o w e=>#[o,k b o (λy=>w<|by simp[y]) e]) (λ_ _ e=>e) (λ_ _ _ e=>e) (λb r e=>#[#[],by rw[e];simp]) (λm U=>?_) (λb u e=>?_) I.bare
 ·have e:b=it:=by simpa using Y
  subst e;show#[g,i,d,a]
 ·obtain⟨o,q,n,Q,r⟩:=U;show#[o,q,n,k _ o (oW i) Q,r]
 ·refine(I.hok b u e).stay (λc v w q=>k c v ?_ q) (λ_ q=>q) λ_ _ q=>q
  rcases w with y|y
  ·rw[y];show l b u e
  ·show l c _ y
def mS.tok(I:mS X y z H s)(t:Nat):mS X y z H {s with toks:=t}:=I.un (h':=s.heap) (t':=t) Un.refl I.hok
def mS.kept(I:mS X y z H s)(k:∀b u,s.heap.get? b=some u->h'.get? b=some u):mS X y z H {s with heap:=h',toks:=t'}:=I.un (Un.kept k)<|I.hok.kept k
def mS.laid(I:mS X x z H s)(k:∀b u,s.heap.get? b=some u->h'.get? b=some u)(y:#v[s]<=a)(new:Z7 X.prog X.w (mT H a o) h' a o) :
  mS X x z (mT H a o) {s with heap:=h',toks:=t'}:=I.un (Un.laid k y<|I.hok.fresh y)<|I.hok.laid k y new
def mS.write(I:mS X q z H s)(w:AJ (H x))(r:e=x\/H e=some (.own x))(k:∀b u,b≠e->s.heap.get? b=some u->h'.get? b=some u)(y:∃u,h'.get? e=some u)
  (new:Z7 X.prog X.w (mT H x o) h' x o):mS X q z (mT H x o) {s with heap:=h',toks:=t'}:=I.un (Un.write w r k y)<|I.hok.write w r k y new
def mS.weak(I:mS X r z H s)(q:y.length=z.length)(w:∀(i:Nat) v,y[i]? =some (some v)->z[i]? =some (some v)):mS X r y H s :=
 #[I.ok,I.os,I.bare,I.mM,let⟨m,p,u⟩:=I.loc;#[m,p,λi x v o n l=>u i x v o (w i v n) l],I.cell,I.free,I.freeC,I.pin,I.hok,q.trans I.len]
def mS.pins_of(I:mS X u z H s)(h:∀p∈x,s.heap.get? p.1=some p.2/\H p.1=none/\p.1≠X.env.locals/\p.1∉X.fs/\∀v,p.2.data≠.cell v):mS X x z H s :=
 #[I.ok,I.os,I.bare,I.mM,I.loc,I.cell,I.free,I.freeC,λp w=>(oO.mp w).elim (λy=>I.pin p<|zM _ y) (h p),I.hok,I.len]
def QM{N:lX lY}(z:N.Nodup){i j:Nat}{x:lY}(a:N[i]? =some x)(b:N[j]? =some x):i=j:=by
 obtain⟨u,y⟩:=pz.mp a;obtain⟨u,w⟩:=pz.mp b;show(List.getElem_inj z).mp (y.trans w.symm)
def Zxn{M:Model}{A:mo}{E:ma->md->Prop}{i:Nat}{x:lY}{v:V}{u:ma}{Q:Unit->md->Prop}(I:mS X c7 z H s)(hN:X.N.Nodup)(B:X.N[i]? =some x)(U:vO X.env.scope x)(r:Yg v u)
  (h:∀s',mS X c7 (z.set i<|some v) H s'->(∃a,Heap.SameBut a s.heap s'.heap/\(a=X.env.locals\/X.env.cells.lookup x=some a))->Q () s') (hf:X.fn x=true\/X.env.scope.names.lookup x=some .local:=by and_intros):wpAny M A (storeName X.env x u) Q E s:=by
 obtain⟨m,hn,hl⟩:=id I.loc;have hcls:(X.env.scope.kind ==.class || (X.env.scope.kind ==.module && X.env.locals !=X.env.globals))=false:=by rw[I.ok.kind];rfl
 have L:i<z.length:=by rw[I.len];show(pz.mp B).1
 have cne:=I.cne;have R0:∀{a:lZ}{C:mi},(∃o,s.heap.get? a=some o/\H a=none)->Heap.SameBut a s.heap C->oz X.prog X.w H C:=λ{a C} ha l b ob e=>by
  obtain⟨_,_,B1⟩:=ha;refine(I.hok b ob e).stay (λc w' Y q=>(l.2 c ?_).trans q) (λ_ q=>q) λ_ _ q=>q
  rintro rfl;rcases Y with rfl|Y
  ·rw[B1]at e;cases e
  ·rw[B1]at Y;cases Y
 rcases U with J|J
 ·refine wpAny_storeName_local J hn (λC S6 l=>?_) hcls;obtain⟨oL,_,_,hoL,_⟩:=id hn;refine h _ #[I.ok,I.os,I.bare,#[λb o e n G U=>?_,λb o e n G U=>?_,I.mM.free,λb o e U=>?_,I.mM.tups,I.mM.frzs,I.mM.tbls],#[_,S6,λj y v' g N e3=>?_],λy c e=>?_,I.free,I.freeC,λp hp=>?_,R0 #[oL,hoL,I.free] l,by simpa using I.len] #[_,l,.inl rfl]
  ·show(l.2 b<|oi<|pF (nS e) I.ok.above).trans (I.mM.keep b o e n G U)
  ·obtain⟨sl,g⟩:=I.mM.slot b o e n G U;show#[sl,(l.2 b<|oi<|pF (nS e) I.ok.above).trans g]
  ·obtain⟨o',g⟩:=I.mM.there b o e U;show#[o',(l.2 b<|oi<|pF (nS e) I.ok.above).trans g]
  ·by_cases D:j=i
   ·subst D;rw[B]at g;cases g;rw[En L]at N;cases N;show#[u,r,.inl #[J,by simp]]
   ·rw[Ep (oW D)]at N;obtain⟨u',r',q⟩:=hl j y v' g N e3;refine#[u',r',?_];rcases q with⟨k,e⟩|⟨k,c,e,w⟩
    ·refine .inl #[k,?_];have:y≠x:=λe=>D<|QM hN g<|e ▸ B
     simp[this,e]
    ·show .inr #[k,c,e,w.sameBut l<|cne y c e]
  ·obtain⟨w',w⟩:=I.cell y c e;show#[w',w.sameBut l<|cne y c e]
  ·obtain⟨e,n,ne,nf,d⟩:=I.pin p hp;show#[(l.2 p.1 ne).trans e,n,ne,nf,d]
 ·have M9:X.fn x=true:=by
   rcases hf with w|w
   ·show w
   ·rw[w]at J;cases J
  obtain⟨c,Y⟩:=I.ok.has x<|.inl J;obtain⟨w',w⟩:=I.cell x c Y;refine wpAny_storeName_cell I.ok.kind J Y w λC O9 l=>?_;obtain⟨oc,hoc,hocd⟩:=id w;refine h {s with heap:=C} #[I.ok,I.os,I.bare,#[λb o e n G U=>?_,λb o e n G U=>?_,I.mM.free,λb o e U=>?_,I.mM.tups,I.mM.frzs,I.mM.tbls],#[m,hn.sameBut l<|oW<|cne x c Y,λj y v' g N e3=>?_],λy c' e=>?_,I.free,I.freeC,λp hp=>?_,R0 #[oc,hoc,I.freeC x c Y] l,by simpa using I.len] #[c,l,.inr Y]
  ·show(l.2 b<|oi<|pF (nS e)<|I.ok.cab x c M9 Y).trans (I.mM.keep b o e n G U)
  ·obtain⟨sl,g⟩:=I.mM.slot b o e n G U;show#[sl,(l.2 b<|oi<|pF (nS e)<|I.ok.cab x c M9 Y).trans g]
  ·obtain⟨o',g⟩:=I.mM.there b o e U;show#[o',(l.2 b<|oi<|pF (nS e)<|I.ok.cab x c M9 Y).trans g]
  ·by_cases D:j=i
   ·subst D;rw[B]at g;cases g;rw[En L]at N;cases N;show#[u,r,.inr #[.inl J,c,Y,O9]]
   ·rw[Ep (oW D)]at N;obtain⟨u',r',q⟩:=hl j y v' g N e3;refine#[u',r',?_];rcases q with q|⟨k,c',e,z'⟩
    ·show .inl q
    ·refine .inr #[k,c',e,z'.sameBut l ?_];rintro rfl;show D<|QM hN g<|I.ok.inj _ _ _ e Y ▸ B
  ·by_cases hcc:c'=c
   ·subst hcc;show#[_,O9]
   ·obtain⟨w2,z2⟩:=I.cell y c' e;show#[w2,z2.sameBut l hcc]
  ·obtain⟨e,n,ne,nf,d⟩:=I.pin p hp;refine#[(l.2 p.1 ?_).trans e,n,ne,nf,d];intro q;rw[q,hoc]at e;have q':oc=p.2:=pc e;show d w' (by rw[<-q'];show hocd)
def Iw{E:ma->md->Prop}{Q:Unit->md->Prop}(I:mS X y z H s)(w:X.N.Nodup)(q:X.N[i]? =some x)(p:vO X.env.scope x)(r:Yg v u)
  (h:∀s',mS X y (z.set i<|some v) H s'->Q () s') (o:X.fn x=true\/X.env.scope.names.lookup x=some .local:=by and_intros):wpAny M A (storeName X.env x u) Q E s :=
 Zxn I w q p r (λs' n _=>h s' n) o
def mS.call'(I:mS X w z H s)(q:s'.os=s.os)(u:Un (oS X.stack) ch H r s.heap s'.heap)(y:oz X.prog X.w r s'.heap)(o:AllBare s'.gens)
  (n:∀b∈ch,(b∈X.ex\/X.mw.heap.objs.size<=b)/\b≠X.env.locals/\(∀x c,X.env.cells.lookup x=some c->c≠b)/\∀p∈X.pn++w,p.1≠b):mS X w z r s':=by
 obtain⟨g,l,j,i,h⟩:=s';have e:h=s.os:=q;subst e;show I.call (g':=l) (t':=i) (d':=j) u y o n
abbrev XK:=ma->me lZ->Hp->Prop
abbrev St:=lX<|me V
abbrev VK:=V->Hp->Prop
abbrev TE:=St->Hp->VK->Prop
abbrev TT:=St->Hp->(Bool->Hp->Prop)->Prop
abbrev TA:=St->Hp->(lX V->Hp->Prop)->Prop
structure qj where
 nx:St->Hp->Prop
 rt:VK
 bk:St->Hp->Prop:=λ_ _=>False
 ct:St->Hp->Prop:=λ_ _=>False
abbrev TS:=qj->St->Hp->Prop
def EP(X:Cx)(x:lX (lZ×Obj))(z:St)(Q:VK)(u:ma)(s':md):Prop:=∃v y,mS X x z y s'/\Yg v u/\Q v y
def TP(X:Cx)(x:lX (lZ×Obj))(z:St)(Q:Bool->Hp->Prop)(b:Bool)(s':md):Prop:=∃y,mS X x z y s'/\Q b y
def AP(X:Cx)(w:lX (lZ×Obj))(z:St)(Q:lX V->Hp->Prop)(us:lX ma)(s':md):Prop:=∃y x,mS X w z x s'/\Ya y us/\Q y x
def SP(X:Cx)(x:lX (lZ×Obj))(D:qj)(f:Flow)(s':md):Prop :=
 match f with
 | .next=>∃z y,mS X x z y s'/\D.nx z y
 | .brk=>∃z y,mS X x z y s'/\D.bk z y
 | .cont=>∃z y,mS X x z y s'/\D.ct z y
 | .ret u=>∃v z y,mS X x z y s'/\Yg v u/\D.rt v y
def PE(X:Cx)(e:ml)(t:TE):Prop :=
 ∀(y:lX (lZ×Obj)) (s:md) (z:St) (H:Hp) (Q:VK),mS X y z H s->t z H Q->∅ (eval e X.env) (EP X y z Q) X.xe s
def PT(X:Cx)(e:ml)(t:TT):Prop :=
 ∀(y:lX (lZ×Obj)) (s:md) (z:St) (H:Hp) (Q:Bool->Hp->Prop),mS X y z H s->t z H Q->∅ (isTrue e X.env<|eval e X.env) (TP X y z Q) X.xe s
def PW(X:Cx)(e:ml)(t:TT):Prop :=
 ∀(x:Sem ma)(y:lX (lZ×Obj)) (s:md) (z:St) (H:Hp) (Q:Bool->Hp->Prop),mS X y z H s->t z H Q->∅ (isTrue e X.env x) (TP X y z Q) X.xe s
def PW.pt(h:PW X e t):PT X e t:=h _
def PA(X:Cx)(w:lX ml)(t:TA):Prop :=
 ∀(y:Pos)(x:lX (lZ×Obj)) (s:md) (z:St) (H:Hp) (Q:lX V->Hp->Prop),mS X x z H s->t z H Q->∅ (spliced<|backTo y<|starEach w X.env) (AP X x z Q) X.xe s
def PS(X:Cx)(st:mh)(t:TS):Prop :=
 ∀(y:lX (lZ×Obj)) (s:md) (z:St) (H:Hp) (D:qj),mS X y z H s->t D z H->∅ (exec st X.env) (SP X y D) X.xe s
def qV(X:Cx)(st:lX mh)(t:TS):Prop :=
 ∀(y:lX (lZ×Obj)) (s:md) (z:St) (H:Hp) (D:qj),mS X y z H s->t D z H->∅ (execs st X.env) (SP X y D) X.xe s
def ny{z:Type}{t:Sem z}{Q y:z->md->Prop}{E:ma->md->Prop}(h:wpAny M A t Q E s)(w:∀a s,Q a s->y a s):wpAny M A t y E s:=pX h w λ_ _ x=>x
section
variable {X:Cx}
def GX(n:PE X a l)(j:PE X b i){R:V->V->Hp->Prop}(I:mS X p z H s)(h:l z H λx o=>i z o λw r=>R x w r)
  {y:Type} {Q:y->md->Prop} {f:ma->ma->Sem y}
  (g:∀v u q x w r,mS X p z r q->Yg x v->Yg w u->R x w r->∅ (f v u) Q X.xe q) :
  ∅ (eval a X.env) (λv e=>∅ (eval b X.env) (λu d=>∅ (f v u) Q X.xe d) X.xe e) X.xe s:=by
 refine ny (n p s z H _ I h) λv c ⟨x,o,Y,U,N⟩=>?_
 refine ny (j p c z o _ Y N) λu q ⟨w,r,M,L,J⟩=>?_
 show g v u q x w r M U L J
def oB:V->(Bool->Prop)->Prop
 | .bl c,k=>k c
 | _,_=>False
def oB.out{x:V}{k:Bool->Prop}(h:oB x k):∃c,x=.bl c/\k c:=by cases x<;>first|show#[_,rfl,h]|show False.elim h
def oB.t{b:Bool}{k:Bool->Prop}(e:b=true)(h:k true):oB (.bl b) k:=by subst e;show h
def oB.f{b:Bool}{k:Bool->Prop}(e:b=false)(h:k false):oB (.bl b) k:=by subst e;show h
def oI:V->(Int->Prop)->Prop
 | .int i,k=>k i
 | _,_=>False
def oI.out{x:V}{k:Int->Prop}(h:oI x k):∃i,x=.int i/\k i:=by cases x<;>first|show#[_,rfl,h]|show False.elim h
def oC:lX V->(V->lX V->Prop)->Prop
 | v ::r,k=>k v r
 | [],_=>False
theorem oC.out:∀{l:lX V}{k:V->lX V->Prop},oC l k->∃v r,l=v ::r/\k v r
 | _ ::_,_,h=>#[_,_,rfl,h]
def oV:me (me V)->(V->Prop)->Prop
 | some (some v),k=>k v
 | _,_=>False
def oV.of{o:me (me V)}{k:V->Prop}{v:V}(e:o=some (some v))(h:k v):oV o k:=by subst e;show h
theorem oV.out:∀{o:me (me V)}{k:V->Prop},oV o k->∃v,o=some (some v)/\k v
 | some (some _),_,h=>#[_,rfl,h]
 | some none,_,h=>nomatch h
 | none,_,h=>nomatch h
def rJ(i:Nat):TE:=λz H Q=>oV z[i]? λv=>Q v H
def tC(v:V):TE:=λ_ H Q=>Q v H
def Ygd(p:X.N[i]? =some x)(o:Df X.env.scope x)(hd:(x ==("__debug__":lY))=false:=by lk)(n:(x ==("__classdict__":lY))=false:=by lk):PE X (.Name x pos) (rJ i):=by
 intro j s z H Q I h;obtain⟨v,e,h⟩:=oV.out h;obtain⟨m,g,d⟩:=I.loc;obtain⟨u,r,l⟩:=d i x v p e o;have fin:EP X j z Q u s:=#[v,H,I,r,h]
 rcases l with⟨w,a⟩|⟨w,c,q,y⟩
 ·show wpAny_Name (wpAny_loadName_local I.ok.kind w g a fin) hd
 ·rcases w with w|w
  ·show wpAny_Name (wpAny_loadName_cell I.ok.kind w q y fin) hd
  ·show wpAny_Name (wpAny_loadName_free I.ok.kind w q y fin n) hd
def Zf{i j pos}:PE X (.Constant (.int i) j pos) (tC<|.int i):=λ_ _ _ H _ I h=>wpAny_Constant_int #[.int i,H,I.tok _,#[_,rfl],h]
def rC{b j pos}:PE X (.Constant (.bool b) j pos) (tC<|.bl b):=λ_ _ _ H _ I h=>Constant_bool #[.bl b,H,I,rfl,h]
def sZ{j pos}:PE X (.Constant .none j pos) (tC .non):=λ_ _ _ H _ I h=>Constant_none #[.non,H,I,rfl,h]
def Zg{x j pos}:PE X (.Constant (.str x) j pos) (tC<|.str x):=λ_ _ _ H _ I h=>Calls.Constant_str #[.str x,H,I.tok _,#[_,rfl],h]
def Gl(X:Cx)(x:lY):Prop:=X.env.kindOf x=some .globalImplicit
def xk{E:ma->md->Prop}{Q:ma->md->Prop}(I:mS X r z H s)(y:Gl X x)(w:X.mg x=some u)(h:Q u s)
  (hd:(x ==("__debug__":lY))=false:=by lk):∅ (eval (.Name x pos) X.env) Q E s :=
 Kn I.ok.kind y (Calls.loadGlobal_global (by rw[I.ok.glob];show I.mod.glob.keeps I.bk) w h) hd
def vE{E:ma->md->Prop}{Q:ma->md->Prop}(I:mS X n z H s)(y:Gl X x)(w:X.mg x=none)(r:bootBuiltins x=some u)(h:Q u s)
  (q:x≠ "__name__":=by lk) (hd:(x ==("__debug__":lY))=false:=by lk):∅ (eval (.Name x pos) X.env) Q E s:=by
 obtain⟨l,p,o⟩:=I.mod.blt;show Kn I.ok.kind y (Calls.loadGlobal_builtin (by rw[I.ok.glob];show I.mod.glob.keeps I.bk) w (by rw[I.ok.blt];show p.keeps I.bk) ((o x q).trans r) h) hd
def Xz(z:Gl X x)(y:X.mg x=some u)(r:Yg v u)(hd:(x ==("__debug__":lY))=false:=by lk):PE X (.Name x pos) (tC v) :=
 λ_ _ _ H _ I h=>xk I z y #[v,H,I,r,h] hd
def JR(z:Gl X x)(y:X.mg x=none)(w:bootBuiltins x=some u)(r:Yg v u)(s:x≠ "__name__":=by lk)(hd:(x ==("__debug__":lY))=false:=by lk):PE X (.Name x pos) (tC v) :=
 λ_ _ _ H _ I h=>vE I z y w #[v,H,I,r,h] s hd
variable {a b:ml} {ta tb:TE} {pos:Pos}
def tB(t:TE):TT:=λz H Q=>t z H λx y=>oB x λc=>Q c y
def Y7(h:PE X e t)(w:∀y,isTrue e X.env y=(do let v <-y;standAt e.pos;holding [v] (truthy v)):=by intro _;rfl):PT X e (tB t):=by
 intro u s z H Q I r;refine isTrue_plain (ny (h u s z H _ I r) λv j ⟨x,p,o,n,l⟩=>?_)<|w _;obtain⟨d,rfl,q⟩:=oB.out l;cases n;show uW #[p,o,q]
variable {tA tB':TT} {Zr:lX ml}
def Ul(t u:TT):TT:=λz H Q=>t z H λc y=>if c=true then u z y Q else Q false y
def Vb(t u:TT):TT:=λz H Q=>t z H λc y=>if c=true then Q true y else u z y Q
def Yjo(t:TT):TT:=λz H Q=>t z H λc y=>Q (!c) y
def AZ(y:PT X a tA):PW X (.BoolOp .And [a] pos) tA:=by
 intro w x s z H Q I h;refine isTrue_and<|ny (y x s z H Q I h) λc u e=>?_;cases c with
 | true=>show isTrue_and_nil e
 | false=>show e
def vj(y:PT X a tA):PW X (.BoolOp .Or [a] pos) tA:=by
 intro w x s z H Q I h;refine isTrue_or<|ny (y x s z H Q I h) λc u e=>?_;cases c with
 | false=>show isTrue_or_nil e
 | true=>show e
def yO(r:PT X a tA)(q:PW X (.BoolOp .And (b ::Zr) pos) tB'):PW X (.BoolOp .And (a ::b ::Zr) pos) (Ul tA tB'):=by
 intro p y s z H Q I h;refine isTrue_and<|ny (r y s z H _ I h) λc o ⟨x,w,u⟩=>?_;cases c with
 | true=>show q p y o z x Q w u
 | false=>show#[x,w,u]
def uF(r:PT X a tA)(q:PW X (.BoolOp .Or (b ::Zr) pos) tB'):PW X (.BoolOp .Or (a ::b ::Zr) pos) (Vb tA tB'):=by
 intro p y s z H Q I h;refine isTrue_or<|ny (r y s z H _ I h) λc o ⟨x,w,u⟩=>?_;cases c with
 | true=>show#[x,w,u]
 | false=>show q p y o z x Q w u
def rO(y:PT X a tA):PT X (.UnaryOp .Not a pos) (Yjo tA):=by
 intro x s z H Q I h;show isTrue_not<|y x s z H (λc w=>Q (!c) w) I h
def Si(ta tb:TE):TE:=λz H Q=>ta z H λx y=>oB x λc=>if c=true then tb z y Q else Q (.bl false) y
def ZP(ta tb:TE):TE:=λz H Q=>ta z H λx y=>oB x λc=>if c=true then Q (.bl true) y else tb z y Q
def wG{op}(h:PE X a t):PE X (.BoolOp op [a] pos) t:=λy s z H Q I x=>BoolOp_one<|h y s z H Q I x
def vQ(q:PE X a ta)(p:PE X (.BoolOp .And (b ::Zr) pos) tb):PE X (.BoolOp .And (a ::b ::Zr) pos) (Si ta tb):=by
 intro w s z H Q I h;refine BoolOp_and<|ny (q w s z H _ I h) λv o ⟨x,u,r,n,y⟩=>?_;obtain⟨c,rfl,y⟩:=oB.out y;cases n;refine uW ?_;cases c with
 | true=>show p w o z u Q r y
 | false=>show#[.bl false,u,r,rfl,y]
def YG(q:PE X a ta)(p:PE X (.BoolOp .Or (b ::Zr) pos) tb):PE X (.BoolOp .Or (a ::b ::Zr) pos) (ZP ta tb):=by
 intro w s z H Q I h;refine BoolOp_or<|ny (q w s z H _ I h) λv o ⟨x,u,r,n,y⟩=>?_;obtain⟨c,rfl,y⟩:=oB.out y;cases n;refine uW ?_;cases c with
 | false=>show p w o z u Q r y
 | true=>show#[.bl true,u,r,rfl,y]
def tIf(t:TT)(ta tb:TE):TE:=λz H Q=>t z H λc y=>if c=true then ta z y Q else tb z y Q
def W6(q:PT X c tA)(p:PE X a ta)(o:PE X b tb):PE X (.IfExp c a b pos) (tIf tA ta tb):=by
 intro y s z H Q I h;refine wpAny_IfExp<|ny (q y s z H _ I h) λd x ⟨w,u,r⟩=>?_;cases d with
 | true=>show p y x z w Q u r
 | false=>show o y x z w Q u r
end
def SqL(K:mf)(H:Hp)(a:lZ)(xs:lX V):Prop :=
 Rd H a (.lst xs)\/
  ∃(o:Obj)(z:Array ma)(n:Nat),K.lookup a=some o/\o.cls=.type "list"/\o.dict=none/\o.data=.seq z n/\z.size<=sizeLine/\Ya xs z.toList
def SqT(K:mf)(H:Hp)(a:lZ)(xs:lX V):Prop :=
 Rd H a (.tup xs)\/
  ∃(o:Obj)(z:Array ma)(n:Nat),K.lookup a=some o/\o.cls=.type "tuple"/\o.data=.seq z n/\z.size<=sizeLine/\Ya xs z.toList
def Yi1:ma->me V
 | .none=>some .non
 | .bool b=>some (.bl b)
 | .int i _=>some (.int i)
 | .str x _=>some (.str x)
 | .bytes b _=>some (.byt b)
 | .float b _=>some (.flt b)
 | .ref a=>some (.ref a)
 | .type n=>some (.ty n)
 | _=>none
def Yg.abs(r:Yg x u):Yi1 u=some x:=by
 cases x with
 | non=>cases r;rfl
 | bl _=>cases r;rfl
 | int _=>obtain⟨t,rfl⟩:=r;rfl
 | str _=>obtain⟨t,rfl⟩:=r;rfl
 | byt _=>obtain⟨t,rfl⟩:=r;rfl
 | flt _=>obtain⟨t,rfl⟩:=r;rfl
 | ref _=>cases r;rfl
 | ty _=>cases r;rfl
def Yg.inj(r:Yg x u)(q:Yg y u):x=y:=pc<|r.abs.symm.trans q.abs
def Ya.inj{xs z:lX V}{us:lX ma}(h:Ya xs us)(h':Ya z us):xs=z:=by
 induction h generalizing z with
 | nil=>cases h';rfl
 | cons r t y=>cases h' with
  | cons x w=>rw[r.inj x,y w]
def SqL.of{K:mf}(h:H a=some (.lst xs)):SqL K H a xs:=.inl<|.inl h
def SqT.of{K:mf}(h:H a=some (.tup xs)):SqT K H a xs:=.inl<|.inl h
def mS.list(I:mS X p z H s)(h:SqL X.K H a xs):∃x:lX ma,Ya xs x/\PlainL s.heap a x.toArray/\xs.length<=sizeLine:=by
 rcases h with h|⟨o,x,n,w,u,hd,q,y,r⟩
 ·obtain⟨y,x,n,r,e⟩:=h.ok I.hok;show#[x,r,#[_,n,e,rfl,rfl,rfl],y]
 ·refine#[x.toList,r,#[o,n,I.kIn a o w,u,hd,by simpa using q],?_];have e:=r.length;simp only[qK]at e;lia
def mS.tuple(I:mS X l z H s)(h:SqT X.K H a xs):∃x:lX ma,Ya xs x/\IsTup s.heap a x.toArray/\xs.length<=sizeLine:=by
 rcases h with h|⟨o,x,n,w,u,q,y,r⟩
 ·obtain⟨y,x,r,p⟩:=h.ok I.hok;show#[x,r,p,y]
 ·refine#[x.toList,r,#[o,I.kIn a o w,u,n,by simpa using q],?_];have e:=r.length;simp only[qK]at e;lia
def mS.list_inj(I:mS X j z H s)(h:SqL X.K H a xs)(h':SqL X.K H a u):xs=u:=by
 obtain⟨q,r,⟨o,n,e,_,_,d⟩,_⟩:=I.list h;obtain⟨y,p,⟨o,n,x,_,_,w⟩,_⟩:=I.list h';rw[e]at x;cases x;rw[d]at w
 injection w with l _
 have:q=y:=by simpa using oY Array.toList l
 subst this;show r.inj p
def mS.tuple_inj(I:mS X j z H s)(h:SqT X.K H a xs)(h':SqT X.K H a u):xs=u:=by
 obtain⟨q,r,⟨o,e,_,n,d⟩,_⟩:=I.tuple h;obtain⟨y,p,⟨o,x,_,n,w⟩,_⟩:=I.tuple h';rw[e]at x;cases x;rw[d]at w
 injection w with l _
 have:q=y:=by simpa using oY Array.toList l
 subst this;show r.inj p
abbrev Cx.wish(X:Cx)(E:ma->md->Prop):Cx:={X with xe:=E}
abbrev Cx.nox(X:Cx):Cx:=X.wish λ_ _=>False
def Cx.Ok.wish{X:Cx}(ok:X.Ok)(E:ma->md->Prop):(X.wish E).Ok :=
 #[ok.mod,ok.kind,ok.glob,ok.blt,ok.above,ok.inj,ok.has,ok.cab,ok.hd,ok.frames,ok.stk,ok.exf,ok.bs,ok.bsz,ok.noex,ok.exfs,ok.funs,ok.frf]
def Cx.Ok.unwish{X:Cx}{E:ma->md->Prop}(ok:(X.wish E).Ok):X.Ok :=
 #[ok.mod,ok.kind,ok.glob,ok.blt,ok.above,ok.inj,ok.has,ok.cab,ok.hd,ok.frames,ok.stk,ok.exf,ok.bs,ok.bsz,ok.noex,ok.exfs,ok.funs,ok.frf]
section
variable {E:ma->md->Prop}
def mS.wish(I:mS X y z H s)(E:ma->md->Prop):mS (X.wish E) y z H s:=#[I.ok.wish E,I.os,I.bare,I.mM,I.loc,I.cell,I.free,I.freeC,I.pin,I.hok,I.len]
def mS.unwish(I:mS (X.wish E) y z H s):mS X y z H s:=#[I.ok.unwish,I.os,I.bare,I.mM,I.loc,I.cell,I.free,I.freeC,I.pin,I.hok,I.len]
def SP.unwish(h:SP (X.wish E) x D f s'):SP X x D f s':=by
 cases f with
 | next=>obtain⟨z,y,I,q⟩:=h;show#[z,y,I.unwish,q]
 | brk=>obtain⟨z,y,I,q⟩:=h;show#[z,y,I.unwish,q]
 | cont=>obtain⟨z,y,I,q⟩:=h;show#[z,y,I.unwish,q]
 | ret u=>obtain⟨v,z,y,I,r,q⟩:=h;show#[v,z,y,I.unwish,r,q]
def qV.nox{st:lX mh}{t:TS}(h:qV X.nox st t):qV X st t:=λx s z H D I w =>
 pX (h x s z H D (I.wish _) w) (λ_ _ q=>q.unwish) λ_ _ y=>False.elim y
end
section
variable {st:mh} {Zr:lX mh} {t u:TS} {e:ml} {te:TE} {pos:Pos}
def Vu:TS:=λD z H=>D.nx z H
def ZB(t u:TS):TS:=λD z H=>t {D with nx:=u D} z H
def Zl:qV X [] Vu:=λ_ _ z H _ I h=>zv #[z,H,I,h]
def Rs(w:PS X st t)(r:qV X Zr u):qV X (st ::Zr) (ZB t u):=by
 intro x s z H D I h;refine BR<|ny (w x s z H {D with nx:=u D} I h) λf p q=>?_;cases f with
 | next =>
  obtain⟨y,o,n,q⟩:=q;show r x p y o D n q
 | ret v=>show q
 | brk=>show q
 | cont=>show q
def Yca(y:PS X st t):qV X [st] t:=by
 intro x s z H D I h;refine BR<|ny (y x s z H D I h) λf w q=>?_;cases f with
 | next=>show zv q
 | ret v=>show q
 | brk=>show q
 | cont=>show q
def Sh:TS:=λD z H=>D.ct z H
def WJ:PS X (.Continue pos) Sh:=λ_ _ z H _ I h=>wpAny_Continue #[z,H,I,h]
def mS.quiet(I:mS X y z H s):interactive X.env=false:=by simp[interactive,I.ok.kind]
def Yh0(te:TE):TS:=λD z H=>te z H λ_ y=>D.nx z y
def Z1(y:PE X e te)(w:swapsWith e none pos.line X.env=pure false:=by rfl):PS X (.Expr e pos) (Yh0 te):=by
 intro r s z H D I h;show wpAny_Expr_any (ny (y r s z H _ I h) λv n ⟨x,q,p,l,o⟩=>#[z,q,p,o]) I.quiet w
def Ta(te:TE):TS:=λD z H=>te z H D.rt
def Zk(y:PE X e te):PS X (.Return (some e) pos) (Ta te):=by
 intro w s z H D I h;show wpAny_Return_some<|ny (y w s z H _ I h) λv n ⟨x,r,q,p,o⟩=>#[x,z,r,q,p,o]
def Yg7:TS:=λD _ H=>D.rt .non H
def Um:PS X (.Return none pos) Yg7:=λ_ _ z H _ I h=>wpAny_Return_none #[.non,z,H,I,rfl,h]
def VI(c:TT)(t u:TS):TS:=λD z H=>c z H λb y=>if b=true then t D z y else u D z y
def Zt(p:PT X c o)(n:qV X a t)(l:qV X b u):PS X (.If c a b pos) (VI o t u):=by
 intro y s z H D I h;refine wpAny_If<|ny (p y s z H _ I h) λd x ⟨w,r,q⟩=>?_;cases d with
 | true=>show n y x z w D r q
 | false=>show l y x z w D r q
end
abbrev TG:=V->St->Hp->(St->Hp->Prop)->Prop
abbrev wV:=lX V->St->Hp->(St->Hp->Prop)->Prop
def PG(X:Cx)(r:ml)(t:TG):Prop :=
 ∀(x:lX (lZ×Obj)) (s:md) (z:St) (H:Hp) (v:V) (u:ma) (Q:St->Hp->Prop),mS X x z H s->Yg v u->t v z H Q->
  ∅ (assign r X.env u) (λ_ q=>∃y w,mS X x y w q/\Q y w) X.xe s
def yr(X:Cx)(ts:lX ml)(t:wV):Prop :=
 ∀(x:lX (lZ×Obj)) (s:md) (z:St) (H:Hp) (w:lX V) (u:lX ma) (Q:St->Hp->Prop),mS X x z H s->Ya w u->t w z H Q->
  ∅ (assignInOrder ((assignEach ts X.env).map (·.2)) u) (λ_ q=>∃y r,mS X x y r q/\Q y r) X.xe s
def qW(i:Nat):TG:=λv z H Q=>Q (z.set i<|some v) H
def Hn(y:X.N.Nodup)(w:X.N[i]? =some x)(q:vO X.env.scope x)(p:X.fn x=true\/X.env.scope.names.lookup x=some .local:=by and_intros):PG X (.Name x pos) (qW i):=by
 intro n s z H v u Q I r h;show wpAny_assign_Name<|Iw I y w q r (λl o=>#[_,H,o,h]) p
def QC:wV:=λy z H Q=>y=[]/\Q z H
def Hm(t:TG)(u:wV):wV:=λx z H Q=>oC x λv r=>t v z H λy w=>u r y w Q
def Y8:yr X [] QC:=by
 intro y s z H x w Q I r h;obtain⟨e,h⟩:=h;subst e;cases r;show assignInOrder_nil #[z,H,I,h]
def Zu(q:PG X e t)(p:yr X y u)
  (o:(assignEach (e ::y) X.env).map (·.2)=assign e X.env ::(assignEach y X.env).map (·.2):=by rfl):yr X (e ::y) (Hm t u):=by
 intro w s z H c a Q I r h;obtain⟨v,x,n,h⟩:=oC.out h;subst n;cases r with
 | cons r l =>
  rw[o];refine assignInOrder_cons<|ny (q w s z H _ _ _ I r h) λ_ j ⟨x,i,g,d⟩=>?_;show p w j x i _ _ Q g l d
inductive GT(S:Hp->Addr->List V->Prop)(n:Nat)(H:Hp)(k:List V->Prop):V->Prop
 | mk {a xs}:S H a xs->xs.length=n->k xs->GT S n H k (.ref a)
def FU(K:mf)(n:Nat)(t:wV):TG:=λv z H Q=>GT (SqT K) n H (λy=>t y z H Q) v
def tD(p:X.calm=true)(h:yr X y t)
  (l:(assignEach y X.env).length=n:=by rfl) (j:(assignEach y X.env).findIdx? (·.1)=none:=by rfl):PG X (.Tuple y k pos) (FU X.K n t):=by
 intro w s z H v u Q I r x;obtain@⟨a,i,g,d,x⟩:=x;cases r;obtain⟨a,q,c,M⟩:=I.tuple g;refine assign_Tuple_tuple (I.ok.hd p) c (by simp[l,<-d,q.length]) j λY U=>?_
 have N:mS X w z H {s with heap:=Y}:=I.kept (t':=s.toks) λb o e=>U b o (oi<|nS e) e
 show h w _ z H i _ Q N (by simpa using q) x
def AT(y:TE)(g:TG):TS:=λD z H=>y z H λx w=>g x z w D.nx
def QR(u:PE X e r)(p:PG X y g)(o:swapsWithSole [y] e pos.line X.env=pure false:=by rfl)(n:swappedStores [y] e X.env=pure none:=by rfl)
  (l:(assignEach [y] X.env).map (·.2)=[assign y X.env]:=by rfl):PS X (.Assign [y] e pos) (AT r g):=by
 intro w s z H D I h;refine wpAny_Assign_stores (ny (u w s z H _ I h) λv j ⟨x,i,d,c,a⟩=>?_) o n;rw[l];show ny (p w j z i x v _ d c a) λ_ Y q=>q
def ZE(w:X.N.Nodup)(u:X.N[i]? =some x)(r:vO X.env.scope x)(q:PE X e p)(o:swapsWith e (some<|.Name x n) pos.line X.env=pure false:=by rfl)(l:X.fn x=true\/X.env.scope.names.lookup x=some .local:=by and_intros) :
  PS X (.Assign [.Name x n] e pos) (AT p<|qW i):=by
 intro j s z H D I h;refine wpAny_Assign_Name (ny (q j s z H _ I h) λv Y ⟨y,g,d,c,a⟩=>?_) o;show Iw d w u r c (λY y=>#[_,g,y,a]) l
structure It where
 go:Nat->Hp->Prop
 yld:Nat->Hp->V->Hp->Prop
 stop:Nat->Hp->Prop
def uc(X:Cx)(z:lX (lZ×Obj))(H:Hp)(b:lZ):Prop :=
 H b=none/\b≠X.env.locals/\b∉X.fs/\(b∈X.ex\/X.mw.heap.objs.size<=b)/\(∀x c,X.env.cells.lookup x=some c->c≠b)/\∀p∈X.pn++z,p.1≠b
def mS.fpOk(I:mS X u z H s)(w:#v[s]<=b)(r:o b=none):uc X u o b:=by
 refine#[r,vK<|pF I.lt w,I.nofs w,.inr<|oy I.sz w,λx c e y=>?_,λp n y=>?_]
 ·obtain⟨v,q⟩:=I.cell x c e;show absurd (pF q.lt (by rw[y];show w))<|rf _
 ·show absurd (pF (nS (I.pin p n).1) (by rw[y];show w))<|rf _
structure wq(P:Program)(w:World)(K:Frag)(tg:Expr)(J:It)(fp:List Addr)(it:Addr)(tn:Nat->Heap->Prop):Prop where
 mem:it∈fp
 obj:∀i h,tn i h->∀b∈fp,∃o,h.get? b=some o/\∀v,o.data≠.cell v
 keep:∀i h h',tn i h->(∀b∈fp,∀o,h.get? b=some o->h'.get? b=some o)->tn i h'
 item:∀(X:Cx),X.prog=P->X.w=w->X.K=K->X.calm=true->∀(i:Nat)(c7:List (Addr×Obj)) (s:Shared) (σ:St) (H:Hp) (E:Value->Shared->Prop),mS X c7 σ H s->(∀b∈fp,uc X c7 H b)->tn i s.heap->J.go i H->
  wpAny (model P w) X.A (pyNext<|.ref it) (λr s1=>∃u,r=some u/\
   wpAny (model P w) X.A (letOwnedTupleGo tg (.ref it) u) (λ_ s2=>∃x H',mS X c7 σ H' s2/\Yg x u/\J.yld i H x H'/\tn (i+1) s2.heap/\∀b∈fp,H' b=none) E s1) E s
 done:∀(X:Cx),X.prog=P->X.w=w->X.K=K->X.calm=true->∀(i:Nat)(c7:List (Addr×Obj)) (s:Shared) (σ:St) (H:Hp) (E:Value->Shared->Prop),mS X c7 σ H s->(∀b∈fp,uc X c7 H b)->tn i s.heap->J.stop i H->
  wpAny (model P w) X.A (pyNext<|.ref it) (λr s1=>r=none/\mS X c7 σ H s1) E s
 self:∀(A:Around)(i:Nat)(s:Shared)(Q:Value->Shared->Prop)(E:Value->Shared->Prop),tn i s.heap->Q (.ref it) s->wpAny (model P w) A (pyIter<|.ref it) Q E s
abbrev TI:=St->Hp->(It->Hp->Prop)->Prop
def MA(X:Cx)(w:lX (lZ×Obj))(z:St)(p:ml)(R:It->Hp->Prop)(y:ma)(u:md):Prop :=
 ∃(s:lZ)(r:lX lZ)(q:Nat->mi->Prop)(J:It)(x:Hp),y=.ref s/\mS X w z x u/\wq X.prog X.w X.K p J r s q/\q 0 u.heap/\(∀b∈r,uc X w x b)/\R J x
def PI(X:Cx)(x w:ml)(u:TI):Prop :=
 ∀(y:lX (lZ×Obj)) (s:md) (z:St) (H:Hp) (R:It->Hp->Prop),mS X y z H s->u z H R->
  ∅ (eval w X.env) (λv r=>∅ (pyIter v) (MA X y z x R) X.xe r) X.xe s
def zJ{E:ma->md->Prop}{Q:Unit->md->Prop}(y:s.heap.get? it=some o)(x:o.cls=.type n)(hd:o.data=.fields vs)
    (w:["enumerate","zip","dict_itemiterator","dict_reverseitemiterator","odict_iterator","itertools.zip_longest","itertools.pairwise"].contains n=false) (z:Q () s):wpAny M A (letOwnedTupleGo r (.ref it) u) Q E s:=by
  unfold letOwnedTupleGo;cases r<;>first
    | show nk z
    | (cases u<;>first
        | show nk z
        | (refine mU<|wpAny_load y ?_
           rw[x,hd];change wpAny M A (if(["enumerate","zip","dict_itemiterator","dict_reverseitemiterator","odict_iterator","itertools.zip_longest","itertools.pairwise"].contains n && vs[0]? ==some (rawInt _))=true then _ else _) Q E s;rw[ng (by intro h;rw[w,Bool.false_and]at h;cases h)];show nk z))
def uT(K:mf)(a:lZ):It :=
 #[λi H=>∃z x,SqL K H a z/\z[i]? =some x,λi H x y=>y=H/\∀z,SqL K H a z->z[i]? =some x,λi H=>∃z,SqL K H a z/\z.length<=i]
def DW(K:mf)(a:lZ):It :=
 #[λi H=>∃z x,SqT K H a z/\z[i]? =some x,λi H x y=>y=H/\∀z,SqT K H a z->z[i]? =some x,λi H=>∃z,SqT K H a z/\z.length<=i]
def zm(lo:Int)(n:Nat):It:=#[λi _=>i<n,λi H x z=>z=H/\x=.int (lo+i),λi _=>n<=i]
def Tg{P:mn}{w:mj}{K:mf}{tg:ml}(a it:lZ):wq P w K tg (uT K a) [it] it (λi h=>h.IsListIter it a i) where
 mem:=by simp
 obj:=λi h st b r=>by
  have e:b=it:=by simpa using r
  subst e;obtain⟨o,e,c,d⟩:=st;show#[o,e,λv y=>by rw[d]at y;cases y]
 keep:=λi h q st k=>st.at λo e=>k it (by simp) o e
 item:=by
  intro X j g Y C i B s z H E I n st U;subst j g Y;obtain⟨xs,x,l,Q⟩:=U;obtain⟨c8,N,p,hz⟩:=I.list l;obtain⟨u,hu,ru⟩:=N.get Q;obtain⟨M,L,f2,J,G,D⟩:=n it (by simp);refine wpAny_pyNext_list_item st p.isList (x:=u) (by simpa using hu) λq A sb=>?_
  have I1:mS X B z H {s with heap:=q}:=I.turned (t':=s.toks) (λb o r e=>(sb.2 b r).trans e) M L J G D;obtain⟨o,e,c,d⟩:=id A;show#[u,rfl,zJ (s:={s with heap:=q}) e c d (by lk) #[x,H,I1,ru,#[rfl,λys y=>by rw[I.list_inj y l];show Q],A,λb r=>(n b r).1]]
 done:=by
  intro X j g Y C i B s z H E I n st U;subst j g Y;obtain⟨xs,l,Q⟩:=U;obtain⟨c8,N,p,hz⟩:=I.list l;obtain⟨M,L,f2,J,G,D⟩:=n it (by simp);have hl:=N.length;show wpAny_pyNext_list_end (I.ok.hd C) st p.isList (by simp;lia) λq eb=>#[rfl,I.turned (t':=s.toks) (λb o r e=>eb b o r e) M L J G D]
 self:=λ_ _ _ _ _ st h=>wpAny_pyIter_listiter st h
def Uk{P:mn}{w:mj}{K:mf}{tg:ml}(a it:lZ):wq P w K tg (DW K a) [it] it (λi h=>h.IsTupleIter it a i) where
 mem:=by simp
 obj:=λi h st b r=>by
  have e:b=it:=by simpa using r
  subst e;obtain⟨o,e,c,d⟩:=st;show#[o,e,λv y=>by rw[d]at y;cases y]
 keep:=λi h q st k=>st.at λo e=>k it (by simp) o e
 item:=by
  intro X j g Y B i A s z H E I n st U;subst j g Y;obtain⟨xs,x,l,Q⟩:=U;obtain⟨N,M,p,hz⟩:=I.tuple l;obtain⟨u,hu,ru⟩:=M.get Q;obtain⟨L,J,f2,G,D,C⟩:=n it (by simp);refine wpAny_pyNext_tuple_item st (show s.heap.IsTuple a N.toArray from p) (x:=u) (by simpa using hu) λq C2 sb=>?_
  have I1:mS X A z H {s with heap:=q}:=I.turned (t':=s.toks) (λb o r e=>(sb.2 b r).trans e) L J G D C;obtain⟨o,e,c,d⟩:=id C2;show#[u,rfl,zJ (s:={s with heap:=q}) e c d (by lk) #[x,H,I1,ru,#[rfl,λys y=>by rw[I.tuple_inj y l];show Q],C2,λb r=>(n b r).1]]
 done:=by
  intro X j g Y B i A s z H E I n st U;subst j g Y;obtain⟨xs,l,Q⟩:=U;obtain⟨N,M,p,hz⟩:=I.tuple l;obtain⟨L,J,f2,G,D,C⟩:=n it (by simp);have hl:=M.length;show wpAny_pyNext_tuple_end (I.ok.hd B) st (show s.heap.IsTuple a N.toArray from p) (by simp;lia) λq eb=>#[rfl,I.turned (t':=s.toks) (λb o r e=>eb b o r e) L J G D C]
 self:=λ_ _ _ _ _ st h=>wpAny_pyIter_tupleiter st h
def VP{P:mn}{w:mj}{K:mf}{L:ml}(it:lZ)(lo:Int)(n:Nat):wq P w K L (zm lo n) [it] it (λi h=>IsRangeIter h it (lo+(i:Nat) * 1) ((n:Int)-(i:Nat)) 1) where
 mem:=by simp
 obj:=λi h st b x=>by
  have e:b=it:=by simpa using x
  subst e;show#[_,st,λv y=>by
   have J:Data.fields _=Data.cell v:=y;cases J]
 keep:=λi h u st k=>k it (by simp) _ st
 item:=by
  intro X q p l j i Q s z H E I r st g;subst q p l;obtain⟨d,c,G,a,Y,U⟩:=r it (by simp);have W:=Walks.range (prog:=X.prog) (w:=X.w) (I.ok.hd j) it lo 1 n;refine W.item i s _ _ g st λv u N D M C=>?_
  obtain⟨t,rfl⟩:=D;have B:mS X Q z H {s with heap:=u,toks:=N}:=I.turned (λb o x e=>C b o (by simpa using x) e) d c a Y U;refine#[_,rfl,zJ (s:={s with heap:=u,toks:=N}) (n :="range_iterator") M rfl rfl (by lk) #[.int<|lo+i,H,B,#[t,?_],#[rfl,rfl],M,λb x=>(r b x).1]];rw[Int.mul_one]
 done:=by
  intro X q p l j i Q s z H E I r st g;subst q p l;obtain⟨d,c,G,a,Y,U⟩:=r it (by simp);show wpAny_pyNext_range_end (I.ok.hd j) st (by have:n<=i:=g;lia) λu A=>#[rfl,I.turned (t':=s.toks) (λb o x e=>A b o x e) d c a Y U]
 self:=λ_ _ _ _ _ st h=>wpAny_pyIter_rangeiter st h
inductive IA(S:Hp->Addr->List V->Prop)(I:Addr->It)(R:It->Hp->Prop)(H:Hp):V->Prop
 | mk {a xs}:S H a xs->R (I a) H->IA S I R H (.ref a)
def WP(K:mf)(y:TE):TI:=λz H R=>y z H λx w=>IA (SqL K) (uT K) R w x
def UR(K:mf)(y:TE):TI:=λz H R=>y z H λx w=>IA (SqT K) (DW K) R w x
def Yi{l:ml}{u:TE}(r:PE X l u):PI X Y l (WP X.K u):=by
 intro n s z H R I h;refine ny (r n s z H _ I h) λv y ⟨x,j,w,i,g⟩=>?_
 obtain@⟨a,x,d,q⟩:=g;cases i;obtain⟨x,o,p,U⟩:=w.list d;refine xJ p.isList ?_;refine#[#v[y],[#v[y]],_,_,j,rfl,w.kept (t':=y.toks) λb o e=>nZ _ e,Tg a _,#[_,oG _ rfl,rfl,rfl],λb c=>?_,q];have e:b=#v[y]:=by simpa using c
 subst e;show w.fpOk (nK _)<|w.hok.fresh<|nK _
def zH{l:ml}{u:TE}(r:PE X l u):PI X U l (UR X.K u):=by
 intro n s z H R I h;refine ny (r n s z H _ I h) λv y ⟨x,j,w,i,g⟩=>?_
 obtain@⟨a,x,d,q⟩:=g;cases i;obtain⟨c,x,p,o⟩:=w.tuple d;refine wpAny_pyIter_tuple (show y.heap.IsTuple a c.toArray from p) ?_;refine#[#v[y],[#v[y]],_,_,j,rfl,w.kept (t':=y.toks) λb o e=>nZ _ e,Uk a _,#[_,oG _ rfl,rfl,rfl],λb Y=>?_,q];have e:b=#v[y]:=by simpa using Y
 subst e;show w.fpOk (nK _)<|w.hok.fresh<|nK _
def Oj{x:lX (lZ×Obj)}{z:St}{H:Hp}{s:md}{R:It->Hp->Prop}{E:ma->md->Prop}{lo y:Int}{t u v:Tok}{w:Nat}(I:mS X x z H s)(p:-(2 ^ 62)<=lo)(n:lo<2 ^ 62)(l:-(2 ^ 62)<=y)(j:y<2 ^ 62)
  (q:R (zm lo (y-lo).toNat) H):∅ (pyIter<|.ref #v[s]) (MA X x z d R) E {s with heap:=s.heap.push {cls:=.type "range",data:=.fields (List.toArray [.int lo t,.int y u,.int 1 v])},toks:=w}:=by
 refine wpAny_pyIter_range (IsRange.new ..) (small_one p n l j) ?_;have r:mS X x z H {s with heap:=s.heap.push {cls:=.type "range",data:=.fields (List.toArray [.int lo t,.int y u,.int 1 v])},toks:=w}:=I.kept λb o e=>nZ _ e
 refine#[(s.heap.push {cls:=.type "range",data:=.fields (List.toArray [.int lo t,.int y u,.int 1 v])}).objs.size,[(s.heap.push {cls:=.type "range",data:=.fields (List.toArray [.int lo t,.int y u,.int 1 v])}).objs.size],_,_,H,rfl,
  r.kept (t':=w) λb o e=>nZ _ e,VP _ lo (y-lo).toNat,?_,λb i=>?_,q]
 ·have h:lo+((0:Nat):Int) * 1=lo:=by simp
  have g:(((y-lo).toNat:Nat):Int)-((0:Nat):Int)=Builtin.Range.rangeSize lo y 1:=by rw[rangeSize_one];split<;>lia
  change IsRangeIter _ _ (lo+((0:Nat):Int) * 1) ((((y-lo).toNat:Nat):Int)-((0:Nat):Int)) 1;rw[h,g];show oG _ rfl
 ·have e:b=(s.heap.push {cls:=.type "range",data:=.fields (List.toArray [.int lo t,.int y u,.int 1 v])}).objs.size:=by simpa using i
  subst e;show r.fpOk (nK _)<|r.hok.fresh<|nK _
def WX(y:TA):TI:=λz H R=>y z H λx w=>∃j:Int,x=[.int j]/\-(2 ^ 62)<=j/\j<2 ^ 62/\R (zm 0 j.toNat) w
def Th(y:TA):TI:=λz H R=>y z H λx w=>∃i j:Int,x=[.int i,.int j]/\(-(2 ^ 62)<=i/\i<2 ^ 62/\-(2 ^ 62)<=j/\j<2 ^ 62)/\R (zm i (j-i).toNat) w
def Ow{a:ml}{x:TA}{p pos:Pos}(w:Gl X "range")(u:X.mg "range"=none)(o:PA X [a] x)(n:starEach [a] X.env=[(false,eval a X.env)]:=by rfl):PI X c (.Call (.Name "range" p) [a] [] pos) (WX x):=by
 intro l s z H R I h;refine Call_<|vE I w u boot_range<|yJ (ny (o pos l s z H _ I h) λr j ⟨Y,U,i,g,y⟩=>?_) n rfl;obtain⟨j,e,y,d,q⟩:=y;subst e;cases g with
 | cons r j =>
  cases j;obtain⟨t,rfl⟩:=r;show call_range_1 (Oj i (by lia) (by lia) y d<|by simpa using q)
def CQ(u:Gl X "range")(o:X.mg "range"=none)(n:PA X [a,b] l)(g:starEach [a,b] X.env=[(false,eval a X.env),(false,eval b X.env)]:=by rfl)(y:starEach [b] X.env=[(false,eval b X.env)]:=by rfl) :
  PI X M (.Call (.Name "range" p) [a,b] [] pos) (Th l):=by
 intro d s z H R I h;refine Call_ (vE I u o boot_range<|yJ (ny (n pos d s z H _ I h) λw r ⟨j,i,c,Y,x⟩=>?_) (by rw[g,y])<|by rw[y];rfl);obtain⟨i,j,e,⟨x,U,Q,N⟩,q⟩:=x;subst e;cases Y with
 | cons r w =>
  cases w with
  | cons j w =>
   cases w;obtain⟨t,rfl⟩:=r;obtain⟨i,rfl⟩:=j;show call_range_2<|Oj c x U Q N q
def WU(r:TI)(g:TG)(q:TS):TS:=λD z H=>r z H λJ p=>∃W:Nat->Nat->St->Hp->Prop,(∃m,W 0 m z p)/\∀i m z H,W i m z H->
 (J.stop i H/\D.nx z H)\/(J.go i H/\∃N:St->Hp->Prop,(∀y w,N y w->∃s,s<m/\W (i+1) s y w)/\∀x w,J.yld i H x w->g x z w λu o=>q {D with nx:=N,ct:=N,bk:=D.nx} u o)
def AH(z:lX lZ)(h:mi):lX (lZ×Obj):=z.filterMap λb=>(h.get? b).map λo=>(b,o)
def Cq(z:b∈y)(e:h.get? b=some o):(b,o)∈AH y h:=CP.mpr #[b,z,by rw[e];rfl]
def SG(z:p∈AH y h):p.1∈y/\h.get? p.1=some p.2:=by
 obtain⟨b,x,e⟩:=CP.mp z;cases q:h.get? b with
 | none=>rw[q]at e;cases e
 | some o =>
  rw[q]at e;have w:(b,o)=p:=pc e;subst w;show#[x,q]
def mS.pinned(I:mS X x z H s)(q:∀b∈w,uc X x H b)(n:∀b∈w,∃o,s.heap.get? b=some o/\∀v,o.data≠.cell v):mS X (x++AH w s.heap) z H s :=
 I.pins_of λp l=>(oO.mp l).elim (λy=>I.pin p<|rF _ y) λy=>by
  obtain⟨u,e⟩:=SG y;obtain⟨j,i,h,_⟩:=q p.1 u;obtain⟨o,r,d⟩:=n p.1 u;rw[e]at r;cases r;show#[e,j,i,h,d]
def mS.unpinned(I:mS X (y++pl) z H s):mS X y z H s:=I.pins_of λp x=>I.pin p<|rF _<|zM _ x
def Xk(U:PassesOwn (model X.prog X.w) X.A X.env X.xe)(hc:X.calm=true)(hi:PI X tg u6 wi)(hg:PG X tg g)(w:qV X body tb)
  (hs:∀x,foldedSetIterable u6 X.env x=pure x:=by intro _;rfl):PS X (.For tg u6 body [] pos) (WU wi g tb):=by
 intro Y s z H D I h;refine wpAny_For (ny (hi Y s z H _ I h) λv o y=>ny y λu l h2=>?_) hs;obtain⟨y,Q,tn,J,H2,e,I2,T,d9,f2,W,⟨m0,w0⟩,P5⟩:=h2;subst e;have E:∀{c:Hp},(∀b∈Q,c b=none)->∀b∈Q,uc X Y c b:=λhn b w=>#[hn b w,(f2 b w).2]
 refine codeAny_forLoop_any (λn y=>∃i q c,mS X Y q c y/\tn i y.heap/\(∀b∈Q,c b=none)/\W i n q c) ?_ m0 #[0,z,H2,I2,d9,λb w=>(f2 b w).1,w0];rintro n s3 ⟨i,p,G,I3,x8,M,w3⟩;rcases P5 i n p G w3 with⟨stop,qn⟩|⟨go,N,hN,step⟩
 ·refine xA U<|ny (T.done X rfl rfl rfl hc i Y s3 p G X.xe I3 (E M) x8 stop) λr s4 ⟨C,y⟩=>?_;subst C;show zv #[p,G,y,qn]
 ·refine xA U<|ny (T.item X rfl rfl rfl hc i Y s3 p G X.xe I3 (E M) x8 go) λr s4 ⟨u,C,h4⟩=>?_;subst C;refine xA U<|ny h4 λ_ s5 h9=>?_;obtain⟨x,H5,I5,r5,y5,J,B⟩:=h9;have A:=I5.pinned (E B)<|T.obj _ _ J;refine xA U<|ny (hg _ s5 p H5 x u _ A r5<|step x H5 y5) λ_ s6 ⟨σ6,H6,I6,q6⟩=>?_;refine xA U<|ny (w _ s6 σ6 H6 _ I6 q6) λf s7 a=>?_;have again:∀{y:St}{l:Hp},mS X (Y++AH Q s5.heap) y l s7->N y l->∃m,m<n/\∃i q c,mS X Y q c s7/\tn i s7.heap/\(∀b∈Q,c b=none)/\W i m q c:=λ{y l} j L=>by
   obtain⟨m',hm,w7⟩:=hN y l L;refine#[m',hm,i+1,y,l,j.unpinned,T.keep _ _ _ J λb w o e=>(j.pin (b,o)<|rF _<|rF _<|Cq w e).1,λb w=>?_,w7];obtain⟨o,e,d⟩:=T.obj _ _ J b w;show(j.pin (b,o)<|rF _<|rF _<|Cq w e).2.1
  cases f with
  | next=>obtain⟨y,l,j,L⟩:=a;show again j L
  | cont=>obtain⟨y,l,j,L⟩:=a;show again j L
  | brk=>obtain⟨y,l,j,a⟩:=a;show#[y,l,j.unpinned,a]
  | ret v=>obtain⟨d,y,l,j,r7,a⟩:=a;show#[d,y,l,j.unpinned,r7,a]
abbrev zP(J:It)(g:TG)(tb:TS)(D:qj)(σ:St)(H:Hp):Prop:=∃W:Nat->Nat->St->Hp->Prop,(∃m,W 0 m σ H)/\∀i m σ H,W i m σ H->
   (J.stop i H/\D.nx σ H)\/(J.go i H/\∃N:St->Hp->Prop,(∀σ' H',N σ' H'->∃m',m'<m/\W (i+1) m' σ' H')/\∀x H',J.yld i H x H'->g x σ H' λσ2 H2=>tb {D with nx:=N,ct:=N,bk:=D.nx} σ2 H2)
def W3{S:Type}{J:It}{n:Nat}{u:S}{r:Hp}{B:S->V->Hp->(S->Hp->Prop)->Prop}{Dn:S->Hp->Prop}(Pv:Nat->S->Hp->Prop)(o:Pv 0 u r)(l:∀s H,Pv n s H->J.stop n H)(y:∀i s H,i<n->Pv i s H->J.go i H/\∀x z,J.yld i H x z->B s x z (Pv<|i+1))(hd:∀s H,Pv n s H->Dn s H) :
  ∃W:Nat->Nat->S->Hp->Prop,(∃m,W 0 m u r)/\∀i m s H,W i m s H->(J.stop i H/\Dn s H)\/(J.go i H/\∃N:S->Hp->Prop,(∀s' z,N s' z->∃q,q<m/\W (i+1) q s' z)/\∀x z,J.yld i H x z->B s x z N):=by
 refine#[λi m s H=>m=n-i/\i<=n/\Pv i s H,#[n,by simp,rR _,o],?_];rintro i m s H ⟨rfl,j,p⟩
 by_cases w:i<n
 ·show .inr #[(y i s H w p).1,Pv<|i+1,λs' z j=>#[n-(i+1),Nat.sub_succ_lt_self _ _ w,rfl,w,j],(y i s H w p).2]
 ·obtain rfl:i=n:=by lia
  show .inl #[l s H p,hd s H p]
def Wp{K:mf}{a:lZ}{xs:lX V}{g:TG}{q:TS}{D:qj}{z:St}{H:Hp}(Pv:Nat->St->Hp->Prop)(o:Pv 0 z H)(w:∀i z H,i<=xs.length->Pv i z H->SqL K H a xs)
  (n:∀i x z H,xs[i]? =some x->Pv i z H->g x z H λu l=>q {D with nx:=Pv<|i+1,ct:=Pv<|i+1,bk:=D.nx} u l) (hd:∀z H,Pv xs.length z H->D.nx z H) :
  zP (uT K a) g q D z H:=W3 Pv o (λs H p=>#[xs,w _ s H (nK _) p,nK _]) (λi s H r p=>#[#[xs,xs[i],w i s H (pU r) p,oR r],λx j ⟨e,y⟩=>e ▸ n i x s _ (y xs<|w i s H (pU r) p) p]) hd
def LR{K:mf}{a:lZ}{xs:lX V}{g:TG}{q:TS}{D:qj}{z:St}{H:Hp}(Pv:Nat->St->Hp->Prop)(o:Pv 0 z H)(w:∀i z H,i<=xs.length->Pv i z H->SqT K H a xs)
  (n:∀i x z H,xs[i]? =some x->Pv i z H->g x z H λu l=>q {D with nx:=Pv<|i+1,ct:=Pv<|i+1,bk:=D.nx} u l) (hd:∀z H,Pv xs.length z H->D.nx z H) :
  zP (DW K a) g q D z H:=W3 Pv o (λs H p=>#[xs,w _ s H (nK _) p,nK _]) (λi s H r p=>#[#[xs,xs[i],w i s H (pU r) p,oR r],λx j ⟨e,y⟩=>e ▸ n i x s _ (y xs<|w i s H (pU r) p) p]) hd
def yw{lo:Int}{n:Nat}{g:TG}{u:TS}{D:qj}{z:St}{H:Hp}(Pv:Nat->St->Hp->Prop)(q:Pv 0 z H)
  (o:∀i z H,i<n->Pv i z H->g (.int<|lo+i) z H λw l=>u {D with nx:=Pv<|i+1,ct:=Pv<|i+1,bk:=D.nx} w l) (hd:∀z H,Pv n z H->D.nx z H) :
  zP (zm lo n) g u D z H:=W3 Pv q (λ_ _ _=>nK _) (λi s H r p=>#[r,λx j ⟨e,y⟩=>by subst e y;show o i s _ r p]) hd
abbrev R2:=V->V->Hp->VK->Prop
def om(X:Cx)(f:ma->ma->Sem ma)(r:R2):Prop :=
 ∀(w:lX (lZ×Obj)) (s:md) (z:St) (H:Hp) (x y:V) (v u:ma) (Q:VK),mS X w z H s->Yg x v->Yg y u->r x y H Q->
  ∅ (f v u) (EP X w z Q) X.xe s
def Il(X:Cx)(f:ma->Sem ma)(r:V->Hp->VK->Prop):Prop :=
 ∀(y:lX (lZ×Obj)) (s:md) (z:St) (H:Hp) (x:V) (v:ma) (Q:VK),mS X y z H s->Yg x v->r x H Q->
  ∅ (f v) (EP X y z Q) X.xe s
def Y5(X:Cx)(f:ma)(r:lX V->Hp->VK->Prop):Prop :=
 ∀(y:lX (lZ×Obj)) (s:md) (z:St) (H:Hp) (x:lX V) (w:lX ma) (Q:VK),mS X y z H s->Ya x w->r x H Q->
  ∅ (call f w) (EP X y z Q) X.xe s
def Yi8(X:Cx)(r:V->Hp->(Bool->Hp->Prop)->Prop):Prop :=
 ∀(y:lX (lZ×Obj)) (s:md) (z:St) (H:Hp) (x:V) (v:ma) (Q:Bool->Hp->Prop),mS X y z H s->Yg x v->r x H Q->
  ∅ (truthy v) (TP X y z Q) X.xe s
def qZ(r:R2)(w u:TE):TE:=λz H Q=>w z H λx s=>u z s λy q=>r x y q Q
def tUn(r:V->Hp->VK->Prop)(y:TE):TE:=λz H Q=>y z H λx w=>r x w Q
def rI(C:Int->Int->Prop)(g:Int->Int->V):R2:=λx y H Q=>oI x λi=>oI y λj=>C i j/\Q (g i j) H
def wu(g:Int->Int->V):R2:=λx y H Q=>oI x λi=>oI y λj=>Q (g i j) H
def rU(g:Int->V):V->Hp->VK->Prop:=λx H Q=>oI x λi=>Q (g i) H
def Ga(o:PE X a n)(l:PE X b j){R:V->V->Hp->Prop}(I:mS X q z H s)
  (h:n z H λx p=>j z p λy w=>R x y w) {Q:ma->md->Prop} {f:ma->ma->Sem ma}
  (i:∀v u r x y w,mS X q z w r->Yg x v->Yg y u->R x y w->∅ (f v u) Q X.xe r) :
  ∅ (eval a X.env) (λv g=>∅ (eval b X.env) (λu e=>∅ (f v u) Q X.xe e) X.xe g) X.xe s:=by
 refine ny (o q s z H _ I h) λv d ⟨x,p,c,Y,U⟩=>?_
 refine ny (l q d z p _ c U) λu r ⟨y,w,N,M,L⟩=>?_
 show i v u r x y w N Y M L
def Zn(w:om X (binaryOp op) r)(p:PE X a o)(n:PE X b l):PE X (.BinOp a op b pos) (qZ r o l):=by
 intro j s z H Q I h;show wpAny_BinOp<|Ga p n I h λv u i x y g e d c q=>w j i z g x y v u Q e d c q
def DX{r:V->Hp->VK->Prop}(w:Il X (unaryOp op) r)(u:PE X a q):PE X (.UnaryOp op a pos) (tUn r q):=by
 intro y s z H Q I h;show UnaryOp_<|ny (u y s z H _ I h) λv p ⟨x,o,n,l,j⟩=>w y p z o x v Q n l j
def GU{f:ma->ma->Sem ma}{C:Int->Int->Prop}{g:Int->Int->Int}
  (rule:∀(i j:Int)(t u:Tok)(s:md)(Q:ma->md->Prop)(E:ma->md->Prop),C i j->Q (.int (g i j) s.toks) {s with toks:=s.toks+1}->∅ (f (.int i t)<|.int j u) Q E s) :
  om X f (rI C λi j=>.int<|g i j):=by
 intro l s z H x y v u Q I w r h;obtain⟨i,rfl,p⟩:=oI.out h;obtain⟨j,rfl,o,q⟩:=oI.out (x:=y) p;obtain⟨t,rfl⟩:=w;obtain⟨n,rfl⟩:=r;show rule i j t n s _ _ o #[.int<|g i j,H,I.tok _,#[_,rfl],q]
def Ng{f:ma->ma->Sem ma}{g:Int->Int->Int}
  (rule:∀(i j:Int)(t u:Tok)(s:md)(Q:ma->md->Prop)(E:ma->md->Prop),Q (.int (g i j) s.toks) {s with toks:=s.toks+1}->∅ (f (.int i t)<|.int j u) Q E s) :
  om X f (wu λi j=>.int<|g i j):=by
 intro n s z H x y v u Q I w r h;obtain⟨i,rfl,p⟩:=oI.out h;obtain⟨j,rfl,q⟩:=oI.out (x:=y) p;obtain⟨t,rfl⟩:=w;obtain⟨o,rfl⟩:=r;show rule i j t o s _ _ #[.int<|g i j,H,I.tok _,#[_,rfl],q]
def Ic{f:ma->ma->Sem ma}{g:Int->Int->Bool}
  (rule:∀(i j:Int)(t u:Tok)(s:md)(Q:ma->md->Prop)(E:ma->md->Prop),Q (.bool<|g i j) s->∅ (f (.int i t)<|.int j u) Q E s) :
  om X f (wu λi j=>.bl<|g i j):=by
 intro n s z H x y v u Q I w r h;obtain⟨i,rfl,p⟩:=oI.out h;obtain⟨j,rfl,q⟩:=oI.out (x:=y) p;obtain⟨t,rfl⟩:=w;obtain⟨o,rfl⟩:=r;show rule i j t o s _ _ #[.bl<|g i j,H,I,rfl,q]
def YE(i j:Int):Prop:=0<j/\j<1073741824
def Eu(i j:Int):Prop:=(-(2 ^ 64)<i/\i<2 ^ 64)\/(-(2 ^ 64)<j/\j<2 ^ 64)
def Eu.ok(h:Eu i j):IntMulOk i j:=by
 rcases h with⟨z,y⟩|⟨z,y⟩
 ·show .of_left<|intBits_le_64 z y
 ·show .of_right<|intBits_le_64 z y
def Yf5:om X (binaryOp .Add) (wu λi j=>.int<|i+j):=Ng λ_ _ _ _ _ _ _ q=>add_int q
def Hc:om X (binaryOp .Sub) (wu λi j=>.int<|i-j):=Ng λ_ _ _ _ _ _ _ q=>sub_int q
def xv:om X (binaryOp .Mult) (rI Eu λi j=>.int<|i * j):=GU λ_ _ _ _ _ _ _ z q=>mul_int q z.ok
def Ye:om X (binaryOp .FloorDiv) (rI YE λi j=>.int<|i / j):=GU λi j _ _ _ _ _ z q=>by
 have y:(0:Int)<j:=z.1;have x:j<1073741824:=z.2;show floordiv_int (by lia) (by rw[Int.fdiv_eq_ediv_of_nonneg i (by lia)];show q) (.inl<|PyProof.noPylong_small<|by lia)
def Yh:om X (binaryOp .Mod) (rI (λ_ j=>0<j) λi j=>.int<|i%j):=GU λi j _ _ _ _ _ z q=>by
 have y:(0:Int)<j:=z;show mod_int' (by lia) (by rw[Int.fmod_eq_emod_of_nonneg i (by lia)];show q)
def unI{f:ma->Sem ma}{g:Int->Int}
  (rule:∀(i:Int)(t:Tok)(s:md)(Q:ma->md->Prop)(E:ma->md->Prop),Q (.int (g i) s.toks) {s with toks:=s.toks+1}->∅ (f<|.int i t) Q E s) :
  Il X f (rU λi=>.int<|g i):=by
 intro w s z H x v Q I y h;obtain⟨i,rfl,q⟩:=oI.out h;obtain⟨t,rfl⟩:=y;show rule i t s _ _ #[.int<|g i,H,I.tok _,#[_,rfl],q]
def Cz:Il X (unaryOp .USub) (rU λi=>.int (-i)):=unI λ_ _ _ _ _ q=>neg_int q
def LV:V->V->Bool
 | .non,.non=>true|.non,.int _=>true|.int _,.non=>true|.non,.bl _=>true|.bl _,.non=>true|.non,.str _=>true|.str _,.non=>true
 | .int _,.int _=>true|.bl _,.bl _=>true|.str _,.str _=>true|.byt _,.byt _=>true
 | .int _,.str _=>true|.str _,.int _=>true|.bl _,.str _=>true|.str _,.bl _=>true
 | _,_=>false
def Of:R2:=λx y H Q=>LV x y=true/\Q (.bl<|decide<|x=y) H
def LF:R2:=λx y H Q=>LV x y=true/\Q (.bl (!decide (x=y))) H
def QH:decide (V.int i=V.int j)=(i ==j):=by
 rw[su];simp
def Qf:decide (V.bl i=V.bl j)=(i ==j):=by
 rw[su];simp
def QL:decide (V.str i=V.str j)=(i ==j):=by
 rw[su];simp
def PU:decide (V.byt i=V.byt j)=(i.toList ==j.toList):=by
 rw[su];cases i;cases j;simp
def Yu(I:mS X y z H s)(q:Q (.bl k) H)(e:k=x):EP X y z Q (.bool x) s:=by
 subst e;show#[.bl k,H,I,rfl,q]
def PC:om X (compareOp .Eq) Of:=by
 intro n s z H x y v u Q I o w h;obtain⟨p,q⟩:=h;cases x with
 | non =>
  cases o;cases y with
  | non=>cases w;show PySem.EqNone.eq_none_none (Yu I q<|by simp)
  | bl j=>cases w;show PySem.EqNone.eq_none_bool (Yu I q<|by simp)
  | int j=>obtain⟨r,rfl⟩:=w;show PySem.EqNone.eq_none_int (Yu I q<|by simp)
  | str j=>obtain⟨r,rfl⟩:=w;show PySem.EqNone.eq_none_str (Yu I q<|by simp)
  | _=>show absurd (show false=true from p) oK
 | bl i =>
  cases o;cases y with
  | non=>cases w;show PySem.EqNone.eq_bool_none (Yu I q<|by simp)
  | bl j=>cases w;show eq_bool (Yu I q Qf)
  | str j=>obtain⟨r,rfl⟩:=w;show PySem.EqMixed.eq_bool_str (Yu I q<|by simp)
  | _=>show absurd (show false=true from p) oK
 | int i =>
  obtain⟨t,rfl⟩:=o;cases y with
  | non=>cases w;show PySem.EqNone.eq_int_none (Yu I q<|by simp)
  | int j=>obtain⟨r,rfl⟩:=w;show eq_int (Yu I q QH)
  | str j=>obtain⟨r,rfl⟩:=w;show PySem.EqMixed.eq_int_str (Yu I q<|by simp)
  | _=>show absurd (show false=true from p) oK
 | str i =>
  obtain⟨t,rfl⟩:=o;cases y with
  | non=>cases w;show PySem.EqNone.eq_str_none (Yu I q<|by simp)
  | bl j=>cases w;show PySem.EqMixed.eq_str_bool (Yu I q<|by simp)
  | int j=>obtain⟨r,rfl⟩:=w;show PySem.EqMixed.eq_str_int (Yu I q<|by simp)
  | str j=>obtain⟨r,rfl⟩:=w;show eq_str (Yu I q QL)
  | _=>show absurd (show false=true from p) oK
 | byt i =>
  obtain⟨t,rfl⟩:=o;cases y with
  | byt j=>obtain⟨r,rfl⟩:=w;show PySem.W.eq_bytes (Yu I q PU)
  | _=>show absurd (show false=true from p) oK
 | _=>cases y<;>show absurd (show false=true from p) oK
def Yh7:om X (compareOp .NotEq) LF:=by
 intro n s z H x y v u Q I o w h;obtain⟨p,q⟩:=h;cases x with
 | non =>
  cases o;cases y with
  | non=>cases w;show PySem.EqNone.ne_none_none (Yu I q<|by simp)
  | bl j=>cases w;show PySem.EqNone.ne_none_bool (Yu I q<|by simp)
  | int j=>obtain⟨r,rfl⟩:=w;show PySem.EqNone.ne_none_int (Yu I q<|by simp)
  | str j=>obtain⟨r,rfl⟩:=w;show PySem.EqNone.ne_none_str (Yu I q<|by simp)
  | _=>show absurd (show false=true from p) oK
 | bl i =>
  cases o;cases y with
  | non=>cases w;show PySem.EqNone.ne_bool_none (Yu I q<|by simp)
  | bl j=>cases w;show ne_bool (Yu I q<|oY not Qf)
  | str j=>obtain⟨r,rfl⟩:=w;show PySem.EqMixed.ne_bool_str (Yu I q<|by simp)
  | _=>show absurd (show false=true from p) oK
 | int i =>
  obtain⟨t,rfl⟩:=o;cases y with
  | non=>cases w;show PySem.EqNone.ne_int_none (Yu I q<|by simp)
  | int j=>obtain⟨r,rfl⟩:=w;show ne_int (Yu I q<|oY not QH)
  | str j=>obtain⟨r,rfl⟩:=w;show PySem.EqMixed.ne_int_str (Yu I q<|by simp)
  | _=>show absurd (show false=true from p) oK
 | str i =>
  obtain⟨t,rfl⟩:=o;cases y with
  | non=>cases w;show PySem.EqNone.ne_str_none (Yu I q<|by simp)
  | bl j=>cases w;show PySem.EqMixed.ne_str_bool (Yu I q<|by simp)
  | int j=>obtain⟨r,rfl⟩:=w;show PySem.EqMixed.ne_str_int (Yu I q<|by simp)
  | str j=>obtain⟨r,rfl⟩:=w;show ne_str (Yu I q<|oY not QL)
  | _=>show absurd (show false=true from p) oK
 | byt i =>
  obtain⟨t,rfl⟩:=o;cases y with
  | byt j=>obtain⟨r,rfl⟩:=w;show PySem.W.ne_bytes (Yu I q<|oY not PU)
  | _=>show absurd (show false=true from p) oK
 | _=>cases y<;>show absurd (show false=true from p) oK
def xf:om X (compareOp .Lt) (wu λi j=>.bl<|decide<|i<j):=Ic λ_ _ _ _ _ _ _ q=>lt_int q
def Pl:om X (compareOp .LtE) (wu λi j=>.bl<|decide<|i<=j):=Ic λ_ _ _ _ _ _ _ q=>le_int q
def xw:om X (compareOp .Gt) (wu λi j=>.bl<|decide<|j<i):=Ic λ_ _ _ _ _ _ _ q=>gt_int q
def UM:om X (compareOp .In) (λx y H Q=>∃i j,x=.str i/\y=.str j/\Q (.bl (!(Builtin.Str.occurrences j i 0 j.length 1).isEmpty)) H):=by
 intro p s z H x y v u Q I w r h;obtain⟨i,j,rfl,rfl,q⟩:=h;obtain⟨t,rfl⟩:=w;obtain⟨o,rfl⟩:=r;show in_str<|Yu I q rfl
def zt:om X (compareOp .Is) (λx y H Q=>y=.non/\Q (.bl<|decide<|x=.non) H):=by
 intro p s z H x y v u Q I w r h;obtain⟨rfl,q⟩:=h;cases r;refine is_none_gen<|Yu I q ?_;cases x<;>first
  | (cases w;rfl)
  | (obtain⟨t,rfl⟩:=w;rfl)
def ZD:om X (compareOp .IsNot) (λx y H Q=>y=.non/\Q (.bl (!decide (x=.non))) H):=by
 intro p s z H x y v u Q I w r h;obtain⟨rfl,q⟩:=h;cases r;refine isnot_none_gen<|Yu I q ?_;cases x<;>first
  | (cases w;rfl)
  | (obtain⟨t,rfl⟩:=w;rfl)
def om.or{f:ma->ma->Sem ma}(h:om X f r)(h':om X f n):om X f (λx y H Q=>r x y H Q\/n x y H Q):=by
 intro w s z H x y v u Q I p o q;rcases q with q|q
 ·show h w s z H x y v u Q I p o q
 ·show h' w s z H x y v u Q I p o q
def Yo(b:ml)(h:op≠.In:=by lk)(z:op≠.NotIn:=by lk):behindInMarks op b=false:=by
 have y:(op ==CmpOp.In)=false:=by cases op<;>first|rfl|show absurd rfl h
 have x:(op ==CmpOp.NotIn)=false:=by cases op<;>first|rfl|show absurd rfl z
 cases b<;>simp[behindInMarks,y,x]
def vT(w:om X (compareOp op) r)(p:PE X a o)(n:PE X b l)(j:behindInMarks op b=false):PE X (.Compare a [op] [b] pos) (qZ r o l):=by
 intro i s z H Q I h;show wpAny_Compare1 (Ga p n I h λv u g x y e d c Y q=>w i g z e x y v u Q d c Y q) j
def wY(t:TE):TT:=λz H Q=>t z H λx y=>oB x λk=>Q k y
def Yd(o:om X (compareOp op) r)(n:PE X a l)(j:PE X b i)(g:behindInMarks op b=false):PT X (.Compare a [op] [b] pos) (wY<|qZ r l i):=by
 intro q s z H Q I h;refine wpAny_isTrue_Compare1 (ny (n q s z H _ I h) λv d ⟨x,Y,U,N,M⟩=>ny (j q d z Y _ U M) λu L ⟨y,J,G,E,D⟩ =>
  ny (o q L z J x y v u _ G N E D) λc s3 ⟨w,C,B,A,p⟩=>?_) g
 obtain⟨k,e,p⟩:=oB.out p;subst e;cases A;show uW #[C,B,p]
def Td(r s:R2)(q p o:TE):TE:=λz H Q=>q z H λx n=>p z n λy l=>r x y l λw u=>oB w λk =>
 (if k=true then o z u λj i=>s y j i Q else Q (.bl false) u)
def Vy(i:om X (compareOp op) r)(g:om X (compareOp q) Y)(U:PE X a N)(M:PE X b L)(J:PE X c G)
  (E:lastMarks [op,q] [b,c]=false:=by with_unfolding_all rfl):PT X (.Compare a [op,q] [b,c] pos) (wY<|Td r Y N L G):=by
 intro p s z H Q I h;refine isTrue_chain (ny (U p s z H _ I h) λv D ⟨x,C,B,A,q1⟩=>test_link (ny (M p D z C _ B q1) λu s2 ⟨y,H2,I2,n,q2⟩ =>
  ny (i p s2 z H2 x y v u _ I2 A n q2) λd s3 ⟨w,l,j,r3,o⟩=>?_)) E
 obtain⟨k,e,o⟩:=oB.out o;subst e;cases r3;refine uW ?_;cases k with
 | false =>
  show ite_ff #[l,j,o]
 | true =>
  refine ite_tt<|test_last<|ny (J p s3 z l _ j o) λw d ⟨D,C,B,A,q4⟩=>ny (g p d z C y D u w _ B n A q4) λd' s5 ⟨z2,H5,I5,r5,x⟩=>?_;obtain⟨w,e2,x⟩:=oB.out x;subst e2;cases r5;show uW #[H5,I5,x]
def MF(K:mf)(x:V)(H:Hp)(k:Bool):Prop :=
 match x with
 | .non=>k=false
 | .bl b=>k=b
 | .int i=>k=(i !=0)
 | .str y=>y.length<=sizeLine/\k=((y.length:Int) !=0)
 | .byt y=>y.size<=sizeLine/\k=((y.size:Int) !=0)
 | .ref p=>(∃z,SqL K H p z/\k=!z.isEmpty)\/(∃z,SqT K H p z/\k=!z.isEmpty)\/∃w,H p=some (.dK w)/\k=!w.isEmpty
 | _=>False
def Tl{z:Type}{kvs:lX (z×V)}{vs:lX (z×ma)}(r:KV kvs vs):(!vs.isEmpty)=!kvs.isEmpty:=by
 cases r<;>rfl
def LM(r:Ya xs z):(!z.toArray.isEmpty)=!xs.isEmpty:=by
 cases r<;>simp
def yt:(sizeLine:Nat)<2 ^ 63:=by rw[tR];decide
def YW:Yi8 X (λx H Q=>∃k,MF X.K x H k/\Q k H):=by
 intro U s z H x v Q I n h;obtain⟨k,e,q⟩:=h;have N:=yt;have M:sizeLine=16777216:=tR;cases x with
 | non =>
  cases n;have w:k=false:=e;subst w;show truthy_none #[H,I,q]
 | bl b =>
  cases n;have w:k=b:=e;subst w;show uW #[H,I,q]
 | int i =>
  obtain⟨t,rfl⟩:=n;have w:k=(i !=0):=e;subst w;show PySem.P.truthy_int #[H,I,q]
 | str y =>
  obtain⟨t,rfl⟩:=n;obtain⟨c,w⟩:y.length<=sizeLine/\k=((y.length:Int) !=0):=e;subst w;show PySem.P.truthy_str (by lia) #[H,I.tok _,q]
 | byt y =>
  obtain⟨t,rfl⟩:=n;obtain⟨c,w⟩:y.size<=sizeLine/\k=((y.size:Int) !=0):=e;subst w;show PySem.W.truthy_bytes (by lia) #[H,I.tok _,q]
 | ref p =>
  cases n;have w:(∃o,SqL X.K H p o/\k=!o.isEmpty)\/(∃o,SqT X.K H p o/\k=!o.isEmpty)\/∃u,H p=some (.dK u)/\k=!u.isEmpty:=e;rcases w with⟨o,l,w⟩|⟨o,l,w⟩|⟨u,l,w⟩
  ·subst w;obtain⟨a,r,i,g⟩:=I.list l;have d:=r.length;show wpAny_truthy_list i.isList (by simp only[oM];lia) #[H,I.tok _,by rw[LM r];show q]
  ·subst w;obtain⟨a,r,i,g⟩:=I.tuple l;have d:=r.length;show truthy_tuple i (by simp only[oM];lia) #[H,I.tok _,by rw[LM r];show q]
  ·subst w;obtain⟨g,Y,j,r,m⟩:u.length<=sizeLine/\(p ==sysModules)=false/\∃j,KV u j/\s.heap.DictOf (Z4 X.prog X.w) p j:=I.hok p _ l;have d:u.length=j.length:=nW r;show wpAny_truthy_dict Y m (by lia) #[H,I.tok _,by rw[Tl r];show q]
 | _=>show(show False from e).elim
def Zz2(r:PE X a q)(p:∀y,isTrue a X.env y=(do let v <-y;standAt a.pos;holding [v] (truthy v))) :
  PT X a (λz H Q=>q z H λx w=>∃k,MF X.K x w k/\Q k w):=by
 intro u s z H Q I h;show isTrue_plain (ny (r u s z H _ I h) λv o ⟨x,n,l,j,i⟩=>YW u o z n x v Q l j i)<|p _
def Zug:om X (binaryOp .Add) (λx y H Q=>∃i j,x=.str i/\y=.str j/\i.length+j.length<=sizeLine/\Q (.str<|i++j) H):=by
 intro n s z H x y v u Q I w r h;obtain⟨i,j,rfl,rfl,p,q⟩:=h;obtain⟨t,rfl⟩:=w;obtain⟨o,rfl⟩:=r;show add_str (λo l=>#[.str<|i++j,H,I.tok _,#[_,rfl],q]) p
def Wr(r:Ya [x] us):∃u,us=[u]/\Yg x u:=by
 cases r with
 | cons z y=>cases y;show#[_,rfl,z]
def wn(r:Ya [x,y] us):∃u z,us=[u,z]/\Yg x u/\Yg y z:=by
 cases r with
 | cons w s =>
  cases s with
  | cons q p=>cases p;show#[_,_,rfl,w,q]
def YD(x:X.calm=true):Y5 X (.builtin "max") (λxs H Q=>∃i j,xs=[.int i,.int j]/\Q (.int<|if j >i then j else i) H):=by
 intro w s z H xs p Q I r h;obtain⟨i,j,rfl,q⟩:=h;obtain⟨u,o,rfl,⟨t,rfl⟩,⟨n,rfl⟩⟩:=wn r;refine max_two_ints (I.ok.hd x) λl g k=>#[_,H,I.kept k,?_,q]
 by_cases y:j >i
 ·rw[nj y,nj y];show#[_,rfl]
 ·rw[ng y,ng y];show#[_,rfl]
def Zwq(x:X.calm=true):Y5 X (.builtin "min") (λxs H Q=>∃i j,xs=[.int i,.int j]/\Q (.int<|if j<i then j else i) H):=by
 intro w s z H xs p Q I r h;obtain⟨i,j,rfl,q⟩:=h;obtain⟨u,o,rfl,⟨t,rfl⟩,⟨n,rfl⟩⟩:=wn r;refine min_two_ints (I.ok.hd x) λl g k=>#[_,H,I.kept k,?_,q]
 by_cases y:j<i
 ·rw[nj y,nj y];show#[_,rfl]
 ·rw[ng y,ng y];show#[_,rfl]
def KY:Y5 X (.type "int") (λxs H Q=>(∃i,xs=[.int i]/\Q (.int i) H)\/∃k,xs=[.bl k]/\Q (.int<|if k then 1 else 0) H):=by
 intro x s z H xs w Q I r h;rcases h with⟨i,rfl,q⟩|⟨k,rfl,q⟩
 ·obtain⟨u,rfl,t,rfl⟩:=Wr r;show call_int_int #[.int i,H,I,#[_,rfl],q]
 ·obtain⟨u,rfl,y⟩:=Wr r;cases y;show call_int_bool #[.int<|if k then 1 else 0,H,I.tok _,#[_,rfl],q]
def Dk:Y5 X (.type "str") (λxs H Q=>∃i,xs=[.int i]/\i.natAbs.log2<1920/\Q (.str<|toString i) H):=by
 intro x s z H xs w Q I r h;obtain⟨i,rfl,y,q⟩:=h;obtain⟨u,rfl,t,rfl⟩:=Wr r;show PySem.P.str_of_int y #[.str _,H,I.tok _,#[_,rfl],q]
structure xB(h:Heap)(x dx C:Addr)(mA:Str->Option Value):Prop where
 obj:h.get? x=some (PySem.W.instObj C dx)
 ns:h.Ns1 dx mA
 ne:dx≠x
def EA{h:mi}{x:lZ}{w:lY->me ma}(n:h.Ns1 x w):∃od,h.get? x=some od/\∀name,PySem.W.lookIn name od=some (w name):=by
 obtain⟨o,u,g,s,hd,r,_,p⟩:=n;refine#[o,s,λname=>?_];have e:=p name;unfold nsFind findBy at e;rw[<-Array.find?_toList]at e;unfold PySem.W.lookIn;rw[hd];dsimp only;split
 ·rename_i y q;rw[q]at e;show oY some e
 ·rename_i q;rw[q]at e;have a:u.toList.any (·.refKey)=false:=by
   rw[List.any_eq_false];intro y l;obtain⟨z,t,j⟩:=r y<|Bi.mp l;simp[DictEntry.refKey,j]
  have i:¬u.toList.any (·.refKey)=true:=by rw[a];show oK
  rw[ng i];show oY some e
def xB.look{z:lY->me ma}(I:xB h x y C z):∃od,PySem.W.InstAt h x (PySem.W.instObj C y) C (some od)/\∀name,PySem.W.lookIn name od=some (z name) :=
 let⟨od,w,u⟩:=EA I.ns
 #[od,#[I.obj,rfl,rfl,w],u]
section
variable {prog:mn} {w:mj} {A:mo} {E:ma->md->Prop} {s:md} {K:mf} {x dx C f:lZ} {mA:lY->me ma} {name:lY} {v:ma}
def Ydb{Q:ma->md->Prop}(X:K.In s.heap)(I:xB s.heap x dx C mA)(y:PySem.W.plainGet K C name=true)(u:PySem.W.hasDictIn K C=true)
  (r:findIn K (.ref C) name=some none) (q:mA name=some v) (z:PySem.W.handedIn v=true) (h:Q v {s with toks:=s.toks+1}) :
  wpAny (model prog w) A (getAttr (.ref x) name expr) Q E s:=by
 obtain⟨o,J,p⟩:=I.look;show PySem.W.get_value X J (Ix y).1 (PY u r rfl<|by rw[p,q]) z h
def Vx{Q:ma×lX ma->md->Prop}(X:K.In s.heap)(I:xB s.heap x dx C mA)(z:PySem.W.plainGet K C name=true)
  (y:findIn K (.ref C) name=some (some<|.ref f)) (u:PySem.W.isFn K (.ref f)=true) (r:mA name=none) (h:Q (.ref f,[.ref x]) s) :
  wpAny (model prog w) A (getMethod (.ref x) name pl) Q E s:=by
 obtain⟨q,J,p⟩:=I.look;show PySem.W.method_fn X J (Ix z).1 (Ix z).2 y (qN.mp u) (by change(PySem.W.lookIn name q).map (·.isSome)=some false;rw[p,r];rfl) h
def Ycn{Q:Unit->md->Prop}(X:K.In s.heap)(I:xB s.heap x dx C mA)
  (l:findIn K (.ref C) "__setattr__"=some (some<|.builtin "object.__setattr__")) (j:PySem.W.plainOver K C=true) (i:PySem.W.takerIn K C name=some none) (g:PySem.W.hasDictIn K C=true)
  (e:PySem.Within mA ns) (hsz:ns.length<=sizeLine)
  (h:∀h',xB h' x dx C (λy=>if y=name then some v else mA y)->Heap.SameBut dx s.heap h'->Q () {s with heap:=h',toks:=s.toks+2}) :
  wpAny (model prog w) A (setAttr (.ref x) name v) Q E s:=by
 obtain⟨Y,J,U⟩:=I.look;refine PySem.W.set_plain X J l<|PySem.W.osa_open (s:={s with toks:=s.toks+1}) (r:=none) X J j i λb=>?_;obtain⟨Y,d,q⟩:=PySem.W.any_some g;have c:s.heap.get? x=some #[.ref C,some dx,.plain,#[]]:=I.obj;refine mU<|nk<|mU<|mU<|Ii c<|mU<|PySem.W.Looks.here (s:={s with toks:=s.toks+1}) (Fq X d) ?_;rw[q];refine nk (a:=some dx)<|mU<|nk<|mU ?_;refine wpAny_nsSet1 (s:={s with toks:=s.toks+1}) I.ns λh' z u=>?_
 obtain⟨N,Y,U,p,o,n⟩:=z.count<|PySem.Within.cons name v e;refine mU<|wpAny_lookBehind p (by rw[o];show pastItsLine_dict<|oy n<|by rw[pJ];lia) ?_;show nk<|h _ #[(u.2 _<|oW I.ne).trans I.obj,z,I.ne] u
def Vn{R:Result->md->Prop}(X:K.In s.heap)(y:PySem.W.makesIn K C=true)
  (u:findIn K (.ref C) "__init__"=some (some<|.ref f)) (r:PySem.W.typeIn K (.ref f)=some (.type "function"))
  (h:codeAny (model prog w) (A.under<|.builtin "type.__call__" #[.ref C ::vs,z]) (.call (.ref f) #[.ref (#v[s]+1) ::vs,z]) (PySem.W.InitBack (#v[s]+1) R)
   {s with heap:=(s.heap.push PySem.W.emptyDict).push (PySem.W.instObj C #v[s])}) :
  codeAny (model prog w) A (.call (.ref C) #[vs,z]) R s:=by
 obtain⟨q,g,d,t,os⟩:=s;show PySem.W.make_core (PySem.W.makes_of X y) (Ai X u) (λself=>PySem.W.bind_fn X self r) (.inl rfl) h
end
def rA(f:lY)(v:V):lX (lY×V)->lX (lY×V)
 | []=>[(f,v)]
 | (g,x) ::r=>if g=f then(g,v) ::r else(g,x) ::rA f v r
theorem JN(f g:lY)(v:V):∀fs:lX (lY×V),(rA f v fs).lookup g=if g=f then some v else fs.lookup g
 | []=>by
  change List.lookup g [(f,v)]=_
  by_cases h:g=f
  ·have z:(g ==f)=true:=qN.mpr h;simp only[List.lookup,z,nj h]
  ·have z:(g ==f)=false:=sO.mpr h;simp only[List.lookup,z,ng h]
 | (k,x) ::r=>by
  have w:=JN f g v r;rw[show rA f v ((k,x) ::r)=(if k=f then(k,v) ::r else(k,x) ::rA f v r)from rfl]
  by_cases y:k=f
  ·rw[nj y]
   by_cases h:g=k
   ·have z:(g ==k)=true:=qN.mpr h;simp only[List.lookup,z,nj<|h.trans y]
   ·have z:(g ==k)=false:=sO.mpr h;simp only[List.lookup,z,ng (λe:g=f=>h<|e.trans y.symm)]
  ·rw[ng y]
   by_cases h:g=k
   ·have z:(g ==k)=true:=qN.mpr h;simp only[List.lookup,z,ng (λe:g=f=>y<|h.symm.trans e)]
   ·have z:(g ==k)=false:=sO.mpr h;simp only[List.lookup,z];show w
theorem ES(f:lY)(v:V):∀fs:lX (lY×V),f∈(rA f v fs).map (·.1)/\∀g,g∈fs.map (·.1)->g∈(rA f v fs).map (·.1)
 | []=>#[by simp[rA],λg h=>by simp at h]
 | (k,x) ::r=>by
  obtain⟨y,w⟩:=ES f v r;rw[show rA f v ((k,x) ::r)=(if k=f then(k,v) ::r else(k,x) ::rA f v r)from rfl]
  by_cases z:k=f
  ·rw[nj z];subst z;show#[by simp,λg h=>by simpa using h]
  ·rw[ng z];refine#[?_,λg h=>?_]
   ·rw[oq];show oZ _ y
   ·rw[oq]at h ⊢;rcases oh.mp h with e|e
    ·show oh.mpr<|.inl e
    ·show oZ _<|w g e
theorem Oe(f:lY)(v:V):∀fs:lX (lY×V),(rA f v fs).length<=fs.length+1
 | []=>by simp[rA]
 | (k,x) ::r=>by
  have y:=Oe f v r;rw[show rA f v ((k,x) ::r)=(if k=f then(k,v) ::r else(k,x) ::rA f v r)from rfl]
  by_cases z:k=f
  ·rw[nj z,pJ,pJ];lia
  ·rw[ng z,pJ,pJ];lia
def qp.some_of(r:qp (some v) o):∃u,o=some u/\Yg v u:=by
 cases o with
 | none=>show(show False from r).elim
 | some u=>show#[u,rfl,r]
def qp.none_of(r:qp none o):o=none:=by
 cases o with
 | none=>rfl
 | some u=>show(show False from r).elim
def NN(r:Yg v u):PySem.W.handedIn u=true:=by
 cases v with
 | non=>cases(show u=Value.none from r);rfl
 | bl b=>cases(show u=Value.bool b from r);rfl
 | int i=>obtain⟨t,e⟩:=(show ∃t,u=Value.int i t from r);cases e;rfl
 | str x=>obtain⟨t,e⟩:=(show ∃t,u=Value.str x t from r);cases e;rfl
 | byt b=>obtain⟨t,e⟩:=(show ∃t,u=Value.bytes b t from r);cases e;rfl
 | flt b=>obtain⟨t,e⟩:=(show ∃t,u=Value.float b t from r);cases e;rfl
 | ref a=>cases(show u=Value.ref a from r);rfl
 | ty n=>cases(show u=Value.type n from r);rfl
section
def Cj(x:oz P w H h)(e:H a=some (.ins C u fs)):∃y,xB h a u C y/\(∀f,qp (fs.lookup f)<|y f)/\PySem.Within y (fs.map (·.1))/\fs.length<=1000/\H u=some (.own a):=by
 obtain⟨d,z,s,p,y,n,r,q⟩:=(show Z7 P w H h a (.ins C u fs)from x a _ e)
 show#[y,#[p,n,s],r,q,z,d]
end
structure pN(K:Frag)(C:Addr):Prop where
 pg:PySem.W.plainGet K C Str.empty=true
 hd:PySem.W.hasDictIn K C=true
 po:PySem.W.plainOver K C=true
 sa:findIn K (.ref C) "__setattr__"=some (some<|.builtin "object.__setattr__")
def pN.get{K:mf}{C:lZ}(c:pN K C)(f:lY):PySem.W.plainGet K C f=true:=c.pg
def nq(K:mf)(C:lZ)(f:lY):Prop:=findIn K (.ref C) f=some none
def nq.taker{K:mf}{C:lZ}{f:lY}(n:nq K C f):PySem.W.takerIn K C f=some none:=by
 unfold PySem.W.takerIn;rw[show findIn K (.ref C) f=some none from n]
 rfl
structure Y3(K:Frag)(C:Addr)(m:Str)(f:Addr):Prop where
 at_:findIn K (.ref C) m=some (some<|.ref f)
 fn:PySem.W.isFn K (.ref f)=true
 kp:keepIn K (.ref f)=true
section
variable {E:ma->md->Prop}
def Zuw{Q:ma->md->Prop}(I:mS X x z H s)(e:H a=some (.ins C p fs))(c:pN X.K C)(n:nq X.K C f)(l:fs.lookup f=some v)
  (h:∀u s',mS X x z H s'->Yg v u->Q u s'):wpAny (model X.prog X.w) A (getAttr (.ref a) f b) Q E s:=by
 obtain⟨w,O,r,_,_,_⟩:=Cj I.hok e;obtain⟨u,q,y⟩:=qp.some_of (v:=v) (o:=w f) (by rw[<-l];show r f);show Ydb I.kIn O (c.get f) c.hd n q (NN y)<|h u _ (I.tok _) y
def Ie{Q:ma×lX ma->md->Prop}(I:mS X w z H s)(e:H a=some (.ins C u fs))(c:pN X.K C)(k:Y3 X.K C m g)(l:fs.lookup m=none)
  (h:Q (.ref g,[.ref a]) s):wpAny (model X.prog X.w) A (getMethod (.ref a) m pl) Q E s:=by
 obtain⟨y,O,r,_,_,_⟩:=Cj I.hok e;have x:y m=none:=qp.none_of (by rw[<-l];show r m);show Vx I.kIn O (c.get m) k.at_ k.fn x h
def Zt4{Q:Unit->md->Prop}(I:mS X Y z H s)(e:H a=some (.ins C p fs))(c:pN X.K C)(n:nq X.K C f)(B:fs.length<1000)(U:Yg y u)
  (h:∀s',mS X Y z (mT H a<|.ins C p<|rA f y fs) s'->Q () s'):wpAny (model X.prog X.w) A (setAttr (.ref a) f u) Q E s:=by
 obtain⟨j,O,r,i,_,d⟩:=Cj I.hok e;have N:(fs.map (·.1)).length<=sizeLine:=by rw[mV,tR];lia
 refine Ycn I.kIn O c.sa c.po n.taker c.hd i N λM l L=>h _ ?_
 have hd:∃o,M.get? p=some o:=let⟨o,_,_,J,_⟩:=l.ns;#[o,J];refine I.write (x:=a) (e:=p) (by rw[e];show rL) (.inr d) (λb q G w=>(L.2 b G).trans w) hd ?_;refine#[by rw[Zd O.ne];show d,?_,O.ne,l.obj,_,l.ns,λg=>?_,λg D=>?_]
 ·have:=Oe f y fs;lia
 ·change qp ((rA f y fs).lookup g) (if g=f then some u else j g);rw[JN]
  by_cases q:g=f
  ·rw[nj q,nj q];show U
  ·rw[ng q,ng q];show r g
 ·by_cases q:g=f
  ·rw[q];show(ES f y fs).1
  ·refine(ES f y fs).2 g (i g λw=>D ?_);change(if g=f then some u else j g)=none;rw[ng q];show w
def mS.made(I:mS X r z H s):mS X r z (mT (mT H #v[s] (.own<|#v[s]+1)) (#v[s]+1)<|.ins C #v[s] [])
  {s with heap:=(s.heap.push PySem.W.emptyDict).push (PySem.W.instObj C #v[s])}:=by
 have x:(s.heap.push PySem.W.emptyDict).get? #v[s]=some PySem.W.emptyDict:=oG s.heap rfl;have p:((s.heap.push PySem.W.emptyDict).push (PySem.W.instObj C #v[s])).get? (#v[s]+1)=some (PySem.W.instObj C #v[s]):=by
  have:=oG (s.heap.push PySem.W.emptyDict) (o:=PySem.W.instObj C #v[s]) rfl;rwa[rS]at this
 have n:(s.heap.push PySem.W.emptyDict).Ns #v[s] (λ_=>none):=#[PySem.W.emptyDict,#[],_,x,rfl,(λe y=>absurd y<|by simp),λ_=>rfl]
 have l:=I.laid (a:=#v[s]) (o:=.own<|#v[s]+1) (h':=s.heap.push PySem.W.emptyDict) (t':=s.toks) (λb u q=>nZ _ q) (nK _) #[_,x];refine l.laid (a:=#v[s]+1) (o:=.ins C #v[s] []) (t':=s.toks) (λb u q=>nZ _ q) (xr<|rS _ _) ?_;have w:#v[s]≠#v[s]+1:=oi<|xW _;refine#[by rw[Zd w,Zc],rR _,w,p,λ_=>none,(Heap.Ns1.of_empty n).at λo q=>nZ _ q,λ_=>rL,λy j=>absurd rfl j]
def Kq{Q:ma->md->Prop}(z:attributeBase e f env (eval e env)=eval e env)
  (h:wpAny (model prog w) A (eval e env) (λo y=>wpAny (model prog w) A (getAttr o f true) Q E y) E s):wpAny (model prog w) A (eval (.Attribute e f pos) env) Q E s :=
 Attribute_any_ h (by rw[arm_eval_Attribute,z])
end
inductive MH(K:Frag)(f:Str)(Q:VK)(H:Hp):V->Prop
 | mk {a C dx fs v}:H a=some (.ins C dx fs)->pN K C->nq K C f->fs.lookup f=some v->Q v H->MH K f Q H (.ref a)
def RQ(K:mf)(y:TE)(f:lY):TE:=λz H Q=>y z H λx w=>MH K f Q w x
inductive SF(K:Frag)(f:Str)(y:V)(H:Hp)(k:Hp->Prop):V->Prop
 | mk {a C dx fs}:H a=some (.ins C dx fs)->pN K C->nq K C f->fs.length<1000->k (mT H a<|.ins C dx<|rA f y fs)->SF K f y H k (.ref a)
def Tv(K:mf)(w u:TE)(f:lY):TS:=λD z H=>u z H λy s=>w z s λx r=>SF K f y r (D.nx z) x
def Z8(y:PE X e w)(r:attributeBase e f X.env (eval e X.env)=eval e X.env):PE X (.Attribute e f pos) (RQ X.K w f):=by
 intro p s z H Q I h;refine Kq r<|ny (y p s z H _ I h) λu x zz=>?_;obtain⟨x,o,j,i,@⟨a,C,U,fs,v,g,c,n,l,q⟩⟩:=zz;obtain rfl:u=Value.ref a:=i;show Zuw j g c n l λN M d Y=>#[v,o,d,Y,q]
def Wq(r:PE X o p)(j:PE X value i)(g:swapsWith value (some<|.Attribute o f e) pos.line X.env=pure false):PS X (.Assign [.Attribute o f e] value pos) (Tv X.K p i f):=by
 intro w s z H D I h;refine LD (ny (j w s z H _ I h) λu d Y=>?_) g;obtain⟨y,U,Q,N,q⟩:=Y;refine ny (r w d z U _ Q q) λM A zz=>?_
 obtain⟨x,y,L,J,@⟨a,C,u,fs,G,c,n,l,E⟩⟩:=zz;obtain rfl:M=Value.ref a:=J;show Zt4 L G c n l N λs3 B=>#[z,_,B,E]
def Yen{pl:Sem Bool}{m:lY}{w:Pos}{args:lX ml}{r:lX (lZ×Obj)}{s:md}{z:St}{H:Hp}{Q:ma->md->Prop}{o:TE}(d:PE X e o)(I:mS X r z H s)
  (h:o z H λx p=>∃a C n fs g,x=.ref a/\p a=some (.ins C n fs)/\pN X.K C/\Y3 X.K C m g/\fs.lookup m=none/\
   ∀y,mS X r z p y->∅ (callWith pos (.ref g) [.ref a] (backTo pos<|starEach args X.env) (backToKw pos<|keywordEach [] X.env)) Q X.xe y)
  (Y:eval (.Call (.Attribute e m w) args [] pos) X.env=(do
   let j <-eval e X.env
   standAt w.atName
   let(f,first) <-holding [j] (getMethod j m pl)
   callWith pos f first (backTo pos<|starEach args X.env) (backToKw pos<|keywordEach [] X.env))) :
  ∅ (eval (.Call (.Attribute e m w) args [] pos) X.env) Q X.xe s:=by
 refine EK (pl:=pl) (ny (d r s z H _ I h) λu y zz=>?_) Y;obtain⟨x,p,i,U,a,C,n,fs,g,N,M,c,k,l,q⟩:=zz;subst N;obtain rfl:u=Value.ref a:=U;show Ie i M c k l<|q y i
section
variable {E:ma->md->Prop} {Q:ma->md->Prop}
inductive Xx(K:Frag)(H:Hp):V->Value->Prop where
 | non:Xx K H .non (.type "NoneType")
 | bl (x:Bool):Xx K H (.bl x) (.type "bool")
 | int (i:Int):Xx K H (.int i) (.type "int")
 | str (x:Str):Xx K H (.str x) (.type "str")
 | flt (x:UInt64):Xx K H (.flt x) (.type "float")
 | lst {a:Addr} {xs:List V} (e:H a=some (.lst xs)):Xx K H (.ref a) (.type "list")
 | frz {a:Addr} {o:Obj} {xs:List V} (e:H a=some (.frz o<|.lst xs)):Xx K H (.ref a) (.type "list")
 | tup {a:Addr} {xs:List V} (e:H a=some (.tup xs)):Xx K H (.ref a) (.type "tuple")
 | dK {a:Addr} {kvs:List (nI×V)} (e:H a=some (.dK kvs)):Xx K H (.ref a) (.type "dict")
 | dT {a:Addr} {kvs:List (List nI×V)} (e:H a=some (.dT kvs)):Xx K H (.ref a) (.type "dict")
 | ins {a C dx:Addr} {fs:List (Str×V)} (e:H a=some (.ins C dx fs)) (cl:pN K C) (ha:findIn K (.ref C) "__class__"=some (some<|.builtin "object.__class__"))
   (hn:PySem.W.specialIn K (.builtin "object.__class__") "__get__"=some (some<|.builtin "getset_descriptor.__get__")) (htk:PySem.W.takesIn K (.builtin "object.__class__")=some true)
   (hm:PySem.W.mroIn K C (.type "object")=some true):Xx K H (.ref a) (.ref C)
def Nl(I:mS X c7 z H s)(r:Yg x u)(N:Xx X.K H x t)(e:kitOne X.K t c=some b)(h:∀M,Q (.bool b) {s with toks:=M}) :
  wpAny (model X.prog X.w) A (call (.builtin "isinstance") [u,c]) Q E s:=by
 cases N with
 | non=>cases(show u=Value.none from r);show rN PySem.W.kitx_none I.kIn rL e (λy=>nomatch y) h
 | bl w=>cases(show u=Value.bool w from r);show rN PySem.W.kitx_bool I.kIn rL e (λy=>nomatch y) h
 | int i=>obtain⟨t,q⟩:=(show ∃t,u=Value.int i t from r);cases q;show rN PySem.W.kitx_int I.kIn rL e (λy=>nomatch y) h
 | str w=>obtain⟨t,q⟩:=(show ∃t,u=Value.str w t from r);cases q;show rN PySem.W.kitx_str I.kIn rL e (λy=>nomatch y) h
 | flt w=>obtain⟨t,q⟩:=(show ∃t,u=Value.float w t from r);cases q;show rN PySem.W.kitx_float I.kIn rL e (λy=>nomatch y) h
 | @lst a d l =>
  cases(show u=Value.ref a from r);obtain⟨_,_,n,_,j⟩:=(show Z7 X.prog X.w H s.heap a (.lst d)from I.hok a _ l)
  show rN PySem.W.kitx_list I.kIn #[_,j,rfl] e (λy=>nomatch y) h
 | @frz a i d l =>
  cases(show u=Value.ref a from r);obtain⟨_,_,_,n,_,j⟩:=(show Z7 X.prog X.w H s.heap a (.frz i<|.lst d)from I.hok a _ l)
  show rN PySem.W.kitx_list I.kIn #[_,j,rfl] e (λy=>nomatch y) h
 | @tup a d l =>
  cases(show u=Value.ref a from r);obtain⟨_,_,_,p⟩:=(show Z7 X.prog X.w H s.heap a (.tup d)from I.hok a _ l)
  obtain⟨o,j,Y,_⟩:=p;show rN PySem.W.kitx_tuple I.kIn #[o,j,Y] e (λy=>nomatch y) h
 | @dK a g l =>
  cases(show u=Value.ref a from r);obtain⟨_,_,i,_,p⟩:=(show Z7 X.prog X.w H s.heap a (.dK g)from I.hok a _ l)
  obtain⟨o,L,G,j,Y,_⟩:=p;show rN PySem.W.kitx_dict I.kIn #[o,j,Y.1] e (λy=>nomatch y) h
 | @dT a g l =>
  cases(show u=Value.ref a from r);obtain⟨_,_,d,_,o,L,G,j,Y,_⟩:=(show Z7 X.prog X.w H s.heap a (.dT g)from I.hok a _ l)
  show rN PySem.W.kitx_dict I.kIn #[o,j,Y.1] e (λy=>nomatch y) h
 | @ins a C dx fs l U D B i hm =>
  cases(show u=Value.ref a from r);obtain⟨mA,O,_⟩:=Cj I.hok l;obtain⟨od,J,_⟩:=O.look;show rN (PySem.W.kitx_own (U.get _) U.hd D B i hm) I.kIn J e (λy=>nomatch y) h
end
structure Y0(k:Nat)(A:Around):Prop where
 hd:A.handled=none
 dp:A.depth+3 * k+5<recursionLimit
 un:A.units+16 * k+200<cLine
 gd:A.guards=some []
def Y0.mono(r:Y0 k A)(h:j<=k):Y0 j A:=#[r.hd,by have:=r.dp;lia,by have:=r.un;lia,r.gd]
def Y0.m{j k:Nat}{A:mo}(r:Y0 k A)(h:j<=k:=by lk):Y0 j A:=r.mono h
def Y0.deeper(r:Y0 (k+1) A)(env:Env):Y0 k (A.deeper env) :=
 #[r.hd,by have:=r.dp;change A.depth+1+3 * k+5<_;lia,by have:=r.un;change A.units+3+16 * k+200<_;lia,r.gd]
def Zu2{A:mo}{C:lZ}{us:lX ma}{z:lX (lY×ma)}:(A.under<|.builtin "type.__call__" #[.ref C ::us,z]).depth=A.depth+1:=by
 first|rfl|simp[Around.under,Code.weight,Code.isCreation,Code.isGuard,Code.isCaller,Code.frames,Code.isFrame,guardIds]
def Zuf{A:mo}{C:lZ}{us:lX ma}{z:lX (lY×ma)}:(A.under<|.builtin "type.__call__" #[.ref C ::us,z]).units=A.units+1:=by
 first|rfl|simp[Around.under,Code.cUnits,Code.frames,Code.isFrame]
def Zq9{A:mo}{C:lZ}{us:lX ma}{z:lX (lY×ma)}:(A.under<|.builtin "type.__call__" #[.ref C ::us,z]).guards=A.guards:=by
 first|rfl|simp[Around.under,Code.guards,Code.isGuard,guardIds,pushGuards]
def Y0.make{k:Nat}{A:mo}(r:Y0 (k+1) A)(C:lZ)(us:lX ma)(z:lX (lY×ma)):Y0 k (A.under<|.builtin "type.__call__" #[.ref C ::us,z]) :=
 #[r.hd,by have:=r.dp;rw[Zu2];lia,by have:=r.un;rw[Zuf];lia,Zq9.trans r.gd]
def Y0.depth(r:Y0 k A):A.depth<recursionLimit:=by have:=r.dp;lia
def Y0.units(r:Y0 k A):A.units+64<cLine:=by have:=r.un;lia
def wM:TA:=λ_ H Q=>Q [] H
def uv(y:TE)(w:TA):TA:=λz H Q=>y z H λx u=>w z u λs r=>Q (x ::s) r
def Za:PA X [] wM:=λ_ _ _ _ H Q I h=>yj #[[],H,I,.nil,h]
def UZ(q:PE X e p)(o:PA X w t)(n:starEach (e ::w) X.env=(false,eval e X.env) ::starEach w X.env:=by rfl):PA X (e ::w) (uv p t):=by
 intro y r s z H Q I h;rw[n];change wpAny _ _ (spliced<|(false,eval e X.env) ::backTo y (starEach w X.env)) _ _ s;refine wk<|ny (q r s z H _ I h) λu l ⟨x,j,i,g,d⟩=>?_;show ny (o y r l z j _ i d) λM L ⟨c,a,Y,U,N⟩=>#[x ::c,a,Y,.cons g U,N]
abbrev Sp:=lX V->Hp->VK->XK->Prop
abbrev vf:=lX Env->Hp->md->XK->ma->md->Prop
structure ud(P:Program)(w:World)(K:Frag)(mg:Str->Option Value)(mM:Heap)(A:Around)(mJ:List Env)(s:Shared)(H:Hp):Prop where
 frames:A.frames=some mJ
 mod:Mod K mg mM
 bs:∀b o,mM.get? b=some o->s.heap.get? b=some o/\H b=none
 bsz:mM.objs.size<=#v[s]
 funs:s.heap.FunFrames mM mJ
 frf:∀b∈oS mJ,H b=none
 hok:oz P w H s.heap
 bare:AllBare s.gens
def CE(y:lX Env)(P:mn)(w:mj)(H:Hp)(s:md)(Q:VK)(u:ma)(s':md):Prop :=
 ∃v z,s'.os=s.os/\AllBare s'.gens/\Un (oS y) [] H z s.heap s'.heap/\oz P w z s'.heap/\Yg v u/\Q v z
def CR(y:vf)(z:lX Env)(P:mn)(w:mj)(H:Hp)(s:md)(Q:VK)(E:XK)(r:Result)(s':md):Prop :=
 match r with
 | .ok (.ret u)=>CE z P w H s Q u s'
 | .ok _=>False
 | .error e=>y z H s E e s'
structure Xm(P:Program)(w:World)(K:Frag)(mg:Str->Option Value)(mM:Heap)(CX:vf)(k:Nat)(f:Addr)(fd:FuncData)(ps:List Str)(sp:Sp):Prop where
 len:∀vs H Q E,sp vs H Q E->vs.length=ps.length
 run:∀(A:Around)(mJ:List Env)(s:Shared)(H:Hp)(args:Args)(us:List Value)(vs:List V)(Q:VK)(E:XK),Y0 k A->ud P w K mg mM A mJ s H->BindsTo s fd args (ps.zip us)->Ya vs us->sp vs H Q E->
  codeAny (model P w) A (.call (.ref f) args) (CR CX mJ P w H s Q E) s
def Xm.mono{P:mn}{w:mj}{K:mf}{z:lY->me ma}{mM:mi}{y:vf}{j k:Nat}{f:lZ}{fd:mq}{ps:lX lY}{x:Sp}(F:Xm P w K z mM y j f fd ps x)(h:j<=k) :
  Xm P w K z mM y k f fd ps x:=#[F.len,λA u s H args r q Q E p=>F.run A u s H args r q Q E<|p.mono h]
def ud.make{P:mn}{w:mj}{K:mf}{z:lY->me ma}{mM:mi}{A:mo}{y:lX Env}{s:md}{H:Hp}(e:ud P w K z mM A y s H)(C:lZ)(us:lX ma)(x:lX (lY×ma)) :
  ud P w K z mM (A.under<|.builtin "type.__call__" #[.ref C ::us,x]) y s H:=#[by first|show e.frames|(simpa[Around.under,Code.envs,Code.isFrame,pushEnvs]using e.frames),e.mod,e.bs,e.bsz,e.funs,e.frf,e.hok,e.bare]
def mS.env0(I:mS X y z H s):ud X.prog X.w X.K X.mg X.mM X.A X.stack s H :=
 #[I.ok.frames,I.ok.mod,I.bs,oy I.ok.bsz I.sz,I.stack,I.stkFree,I.hok,I.bare]
def mS.after(I:mS X o z H s)(h:CE X.stack X.prog X.w H s Q u s'):EP X o z Q u s':=by
 obtain⟨v,n,os,x,un,w,r,q⟩:=h;obtain⟨l,g,d,t,p⟩:=s';obtain rfl:p=s.os:=os;show#[v,n,I.call (h':=l) (g':=g) (d':=d) (t':=t) (ch:=[]) un w x (λb y=>absurd y<|by simp),r,q]
def QE(y:Sp)(x:lX V)(E:XK)(t:TA):TE:=λz H Q=>t z H λw u=>y (w++x) u Q E
inductive MI(C:Addr)(m:Str)(H:Hp)(k:V->Prop):V->Prop
 | mk {a dx fs}:H a=some (.ins C dx fs)->fs.lookup m=none->k (.ref a)->MI C m H k (.ref a)
def EX(C:lZ)(m:lY)(w:Sp)(u:lX V)(E:XK)(s:TE)(t:TA):TE:=λz H Q=>s z H λx y=>MI C m y (λx=>t z y λr q=>w (x ::(r++u)) q Q E) x
def qG(K:mf)(fd:mq)(ps:lX lY)(ds:lX ma):Prop :=
 ∀(s:md)(z:lX ma),K.In s.heap->(z++ds).length=ps.length->BindsTo s fd #[z,[]] (ps.zip<|z++ds)
def qG.all{K:mf}{fd:mq}{ps:lX lY}(h:∀us:lX ma,us.length=ps.length->bindArgs fd #[us,[]]=pure (ps.zip us)):qG K fd ps []:=λs us _ z=>by
 rw[pO]at z ⊢;show .of_eq<|h us z
def tO(x:vf)(X:Cx)(E:XK):Prop:=∀(w:lX (lZ×Obj)) (z:St) (H:Hp) (s:md) (e:ma) (y:md),mS X w z H s->x X.stack H s E e y->X.xe e y
def Fv(F:Xm X.prog X.w X.K X.mg X.mM p k f fd ps o)(n:Y0 k X.A)(l:qG X.K fd ps ds)(hd:Ya x ds)(j:tO p X E)
  (I:mS X w z H s) (r:Ya vs us) (h:o (vs++x) H Q E):∅ (call (.ref f) us) (EP X w z Q) X.xe s:=by
 have q:Ya (vs++x) (us++ds):=r.append hd;have i:(us++ds).length=ps.length:=by rw[<-q.length];show F.len _ _ _ _ h
 refine ul<|uh (F.run X.A X.stack s H #[us,[]] (us++ds) (vs++x) Q E n I.env0 (l s us I.kIn i) q h) λr g y=>?_;cases r with
 | error e=>show j w z H s e g I y
 | ok e =>
  cases e with
  | ret u=>show I.after y
  | next=>show False.elim y
  | brk=>show False.elim y
  | cont=>show False.elim y
def Xa(F:Xm X.prog X.w X.K X.mg X.mM u k f fd ps o)(n:Y0 k X.A)(l:Gl X x)(j:X.mg x=some (.ref f))(i:keepIn X.K (.ref f)=true)(g:qG X.K fd ps ds)(hd:Ya d ds)(c:tO u X E)
  (a:PA X (e ::y) t) (Y:(x ==("__debug__":lY))=false:=by lk) (U:starEach (e ::y) X.env=(false,eval e X.env) ::starEach y X.env:=by rfl) (N:(backTo pos<|starEach y X.env).any (·.1)=false:=by rfl) :
  PE X (.Call (.Name x p) (e ::y) [] pos) (QE o d E t):=by
 intro M s z H Q I h;refine uE<|xk I l j ?_ Y;refine AQ (h₀:=X.mM) I.ok.mod.kin i (ny (a pos M s z H _ I h) λL J ⟨G,D,w,r,q⟩=>#[w.kIn,?_]) U N;show Fv F n g hd c w r q
def Yf(d:PE X o Y)(c:pN X.K C)(w:Y3 X.K C m f)(F:Xm X.prog X.w X.K X.mg X.mM U k f fd ps N)(M:Y0 k X.A)(L:qG X.K fd ps ds)(hd:Ya J ds)(G:tO U X E)(D:PA X (e ::y) t)
  (B:starEach (e ::y) X.env=(false,eval e X.env) ::starEach y X.env:=by rfl) (A:(backTo pos<|starEach y X.env).any (·.1)=false:=by rfl)
  (ht:eval (.Call (.Attribute o m p) (e ::y) [] pos) X.env=(do
   let n <-eval o X.env
   standAt p.atName
   let(f,first) <-holding [n] (getMethod n m pl)
   callWith pos f first (backTo pos<|starEach (e ::y) X.env) (backToKw pos<|keywordEach [] X.env)):=by rfl) :
  PE X (.Call (.Attribute o m p) (e ::y) [] pos) (EX C m N J E Y t):=by
 intro j s z H Q I h;refine EK (pl:=pl) (ny (d j s z H _ I h) λu s1 h9=>?_) ht;obtain⟨x,H1,i,rx,@⟨a,dx,fs,ea,l,q⟩⟩:=h9;obtain rfl:u=Value.ref a:=rx;refine Ie i ea c w l ?_;refine AQ (first:=[.ref a]) (h₀:=X.mM) I.ok.mod.kin w.kp (ny (D pos j s1 z H1 _ i q) λus x ⟨vs,H2,g,r,q2⟩=>#[g.kIn,?_]) B A;show Fv (us:=.ref a ::us) (vs:=.ref a ::vs) F M L hd G g (.cons rfl r) q2
def Yk{pl:Sem Bool}(n:PE X o j)(c:pN X.K C)(w:Y3 X.K C m f)(F:Xm X.prog X.w X.K X.mg X.mM i k f fd ps g)(e:Y0 k X.A)(d:qG X.K fd ps ds)(hd:Ya Y ds)(U:tO i X E)
  (N:eval (.Call (.Attribute o m r) [] [] pos) X.env=(do
   let p <-eval o X.env
   standAt r.atName
   let(f,first) <-holding [p] (getMethod p m pl)
   callWith pos f first (backTo pos<|starEach [] X.env) (backToKw pos<|keywordEach [] X.env)):=by rfl) :
  PE X (.Call (.Attribute o m r) [] [] pos) (EX C m g Y E j wM):=by
 intro M s z H Q I h;refine EK (pl:=pl) (ny (n M s z H _ I h) λu x zz=>?_) N;obtain⟨x,G,y,L,@⟨a,D,fs,J,l,q⟩⟩:=zz;obtain rfl:u=Value.ref a:=L;refine Ie y J c w l ?_;show PySem.W.callWith_K0 (first:=[.ref a]) y.kIn w.kp<|Fv (us:=[.ref a]) (vs:=[.ref a]) F e d hd U y (.cons rfl .nil) q
structure Mk(K:Frag)(C f:Addr):Prop where
 makes:PySem.W.makesIn K C=true
 init:findIn K (.ref C) "__init__"=some (some<|.ref f)
 fn:PySem.W.isFn K (.ref f)=true
 kp:keepIn K (.ref C)=true
def SV(M:Mk X.K C f)(F:Xm X.prog X.w X.K X.mg X.mM j k f fd ps i)(g:Y0 (k+1) X.A)(d:qG X.K fd ps ds)(hd:Ya p ds)
  (c:tO j X E) (I:mS X o z H s) (r:Ya vs us)
  (h:∀x w,H x=none->H w=none->w≠x->i (.ref x ::(vs++p)) (mT (mT H w<|.own x) x<|.ins C w []) (λv a=>v=.non/\Q (.ref x) a) E) :
  ∅ (call (.ref C) us) (EP X o z Q) X.xe s:=by
 have n:=h (#v[s]+1) #v[s] (I.hok.fresh<|qT _) (I.hok.fresh<|nK _) (oi<|xW _);have q:=mS.made (C:=C) I;have l:Ya (V.ref (#v[s]+1) ::(vs++p)) (Value.ref (#v[s]+1) ::(us++ds)):=.cons rfl<|r.append hd;have Y:(Value.ref (#v[s]+1) ::us++ds).length=ps.length:=by
  have e:=l.length;rw[F.len _ _ _ _ n]at e;show e.symm
 refine ul (Vn (f:=f) I.kIn M.makes M.init (qN.mp M.fn) (uh (F.run _ X.stack _ _ #[Value.ref (#v[s]+1) ::us,[]] (Value.ref (#v[s]+1) ::(us++ds)) _ _ E (g.make C us [])
  (q.env0.make C us []) (d _ (Value.ref (#v[s]+1) ::us) q.kIn Y) l n) λr U y=>?_))
 cases r with
 | error e=>show c o z _ _ e U q y
 | ok N =>
  cases N with
  | ret u =>
   obtain⟨v,L,J,G,D,B⟩:=q.after y;subst D;show#[G,#[V.ref<|#v[s]+1,L,J,rfl,B]]
  | next=>show False.elim y
  | brk=>show False.elim y
  | cont=>show False.elim y
structure Zy(N P:List Str)(sc:Scope):Prop where
 kind:sc.kind=.function:=by rfl
 co:sc.isCoroutine=false:=by rfl
 gen:sc.isGenerator=false:=by rfl
 nd:N.Nodup:=by left
 pre:N.take P.length=P:=by rfl
 par:∀x∈P,sc.names.lookup x=some .local\/sc.names.lookup x=some .cell:=by left
 nofree:∀y∈sc.names,y.2≠.free:=by left
theorem Jo{kindOf:lY->me NameKind}:∀{binds:lX (lY×ma)}{m:lY->me ma},(∀v,(x,v)∉binds)->bindL kindOf binds m x=m x
 | [],_,_=>rfl
 | (n,v) ::r,m,h=>by
  unfold bindL;rw[Jo λw z=>h w<|oZ _ z];split
  ·have:x≠n:=by rintro rfl;show h v oN
   simp[this]
  ·rfl
theorem Kk{kindOf:lY->me NameKind}:∀{binds:lX (lY×ma)}{m:lY->me ma},(∀v,(x,v)∉binds)->bindC kindOf binds m x=m x
 | [],_,_=>rfl
 | (n,v) ::r,m,h=>by
  unfold bindC;rw[Kk λw z=>h w<|oZ _ z];split
  ·rfl
  ·have:x≠n:=by rintro rfl;show h v oN
   simp[this]
theorem Mn{kindOf:lY->me NameKind} :∀{P:lX lY}{vs:lX ma}{i:Nat}{m:lY->me ma},P.Nodup->P[i]? =some x->vs[i]? =some v->kindOf x=some .local->
  bindL kindOf (P.zip vs) m x=some v
 | [],_,_,_,_,h,_,_=>by simp at h
 | _ ::_,[],_,_,_,_,h,_=>by simp at h
 | p ::P,w ::vs,0,m,u,z,y,s=>by
  simp at z y;subst z;subst y;change bindL kindOf ((p,w) ::P.zip vs) m p=_;unfold bindL;rw[Jo λv r=>(pZ.mp u).1 (tW r).1,nj s];simp
 | p ::P,w ::vs,i+1,m,u,z,y,s=>by
  change bindL kindOf ((p,w) ::P.zip vs) m x=_;unfold bindL;show Mn (i:=i) (pZ.mp u).2 (by simpa using z) (by simpa using y) s
theorem Ms{kindOf:lY->me NameKind} :∀{P:lX lY}{vs:lX ma}{i:Nat}{m:lY->me ma},P.Nodup->P[i]? =some x->vs[i]? =some v->kindOf x≠some .local->
  bindC kindOf (P.zip vs) m x=some v
 | [],_,_,_,_,h,_,_=>by simp at h
 | _ ::_,[],_,_,_,_,h,_=>by simp at h
 | p ::P,w ::vs,0,m,u,z,y,s=>by
  simp at z y;subst z;subst y;change bindC kindOf ((p,w) ::P.zip vs) m p=_;unfold bindC;rw[Kk λv r=>(pZ.mp u).1 (tW r).1,ng s];simp
 | p ::P,w ::vs,i+1,m,u,z,y,s=>by
  change bindC kindOf ((p,w) ::P.zip vs) m x=_;unfold bindC;show Ms (i:=i) (pZ.mp u).2 (by simpa using z) (by simpa using y) s
def start(N:lX lY)(vs:lX V):St:=vs.map some++List.replicate (N.length-vs.length) none
def W8(x:vf)(P:mn)(w:mj)(K:mf)(mg:lY->me ma)(mM:mi)(N:lX lY)(qual:lY)(scope:Scope)(f:lZ)(z:ma)(A:mo)(mJ:lX Env)(s:md)(H:Hp)(E:XK):Cx where
 prog:=P
 w:=w
 K:=K
 mg:=mg
 mM:=mM
 A:=A.deeper (envOfC qual scope #v[s] f z)
 N:=N
 mw:=s
 mz:=H
 env:=envOfC qual scope #v[s] f z
 mJ:=mJ
 stack:=envOfC qual scope #v[s] f z ::mJ
 ex:=[]
 calm:=true
 fn:=λ_=>true
 pn:=[]
 xe:=λe u=>wpAny (model P w) (A.deeper<|envOfC qual scope #v[s] f z) (leaving (envOfC qual scope #v[s] f z) e) (λ_ y=>x mJ H s E e y) (λr y=>x mJ H s E r y) u
def Jp{z:Scope}{n:Nat}{x:lY}(h:z.names.lookup x=some .cell):∃c,(cellsFrom n z.names []).lookup x=some c:=by
 have q:=Hk z.names n [] (.inl h);show Gg.mp q
def Nr{J:vf}{P:mn}{w:mj}{K:mf}{M:lY->me ma}{mM:mi}{N ps:lX lY}{qual:lY}{scope:Scope}{f:lZ}{Y:ma}{A:mo}{L:lX Env}{s I:md}{H:Hp}{E:XK}{us:lX ma}{vs:lX V}
  (S:Zy N ps scope) (hd:A.handled=none) (l:ud P w K M mM A L s H) (hl:vs.length=ps.length) (r:Ya vs us)
  (x:InCallC s #v[s] (bindL (envOfC qual scope #v[s] f Y).kindOf (ps.zip us) λ_=>none) (cellsFrom (#v[s]+1) scope.names []) (bindC (envOfC qual scope #v[s] f Y).kindOf (ps.zip us) λ_=>none) I) :
  mS (W8 J P w K M mM N qual scope f Y A L s H E) [] (start N vs) H I:=by
 have m9:ps.length<=N.length:=by have:=oY List.length S.pre;rw[oF]at this;lia
 obtain⟨U,u,rfl,G⟩:=x.done;have j:∀b:lZ,b∉(W8 J P w K M mM N qual scope f Y A L s H E).ex:=λb z=>absurd (show b∈([]:lX lZ)from z) (by simp)
 refine#[#[l.mod,S.kind,rfl,rfl,nK _,λy z c U o=>?_,λy g=>?_,λy c _ h=>?_,λ_=>hd,Around.frames_deeper l.frames,.inr #[rfl,rfl],λb z=>absurd z<|j b,l.bs,l.bsz,λb _ _=>j b,λb z=>absurd z<|j b,l.funs,l.frf],
  rfl,l.bare,Un.kept G,#[_,x.toInCall.ns,λi y v U o u=>?_],λy c h=>#[_,x.cell y c h],l.hok.fresh<|nK _,λy c h=>?_,λp d=>absurd (show p∈([]:lX (lZ×Obj))from d) (by simp),l.hok.kept G,?_]
 ·show name_of_addr x.apart (sy U)<|sy o
 ·have g:scope.names.lookup y=some .cell\/scope.names.lookup y=some .free:=g;rcases g with g|g
  ·show Jp g
  ·show absurd rfl<|S.nofree _<|sy g
 ·show pU<|x.above y c<|sy h
 ·have Q:i<vs.length:=by
   unfold start at o
   by_cases Q:i<vs.length
   ·show Q
   ·rw[yM (by simpa using Q)]at o;rw[FV]at o;split at o<;>cases o
  have C:vs[i]? =some v:=by
   unfold start at o;rw[Bm (by simpa using Q),nU]at o;cases e:vs[i]? with
   | none=>rw[e]at o;cases o
   | some a=>rw[e]at o;cases o;rfl
  obtain⟨u,D,B⟩:=r.get C;have d:ps[i]? =some y:=by
   rw[<-S.pre,List.getElem?_take_of_lt<|by lia];show U
  have p:ps.Nodup:=by rw[<-S.pre];show S.nd.sublist<|List.take_sublist _ _
  refine#[u,B,?_];rcases S.par y (pi d)with k|k
  ·show .inl #[k,Mn p d D k]
  ·obtain⟨c,e⟩:=Jp (n:=#v[s]+1) k;refine .inr #[.inl k,c,e,?_];have q:=x.cell y c e;rw[Ms p d D (by change scope.names.lookup y≠_;rw[k];decide)]at q;show q
 ·show l.hok.fresh<|pU<|x.above y c<|sy h
 ·unfold start;change _=N.length;rw[oj,mV,IT];lia
def Dj{g:vf}{P:mn}{w:mj}{K:mf}{d:lY->me ma}{mM:mi}{k:Nat}{f:lZ}{name qual:lY}{params:Arguments}{body:lX mh}{scope:Scope}{L kV G D l C oc:ma}{B od:me lZ}
  {N6:Array (me ma)} {N ps:lX lY} {c:Sp} (lk:K.lookup f=some #[oc,od,.func<|fnOf name qual params body scope L kV G D B l C,N6]) (E6:codeIn K l qual=true) (S:Zy N ps scope)
  (len:∀vs H Q E,c vs H Q E->vs.length=ps.length)
  (u9:∀(A:mo)(j:lX Env)(s:md)(H:Hp)(vs:lX V)(Q:VK)(E:XK),Y0 k (A.deeper<|envOfC qual scope #v[s] f l)->c vs H Q E->
   ∃t,qV (W8 g P w K d mM N qual scope f l A j s H E) body t/\t {nx:=λ_ p=>Q .non p,rt:=Q} (start N vs) H) :
  Xm P w K d mM g (k+1) f (fnOf name qual params body scope L kV G D B l C) ps c:=by
 refine#[len,λA j s H args us vs Q E a h hb r S7=>?_];have hl:=len _ _ _ _ S7;have KX:K.In s.heap:=h.mod.kin.keeps λb o e=>(h.bs b o e).1
 have Y:s.heap.NoLimit:=h.mod.nolimit.keeps λb o e=>(h.bs b o e).1
 have V3:∀y∈ps.zip us,scope.names.lookup y.1=some .local\/(scope.names.lookup y.1=some .cell/\((cellsFrom (#v[s]+1) scope.names []).lookup y.1).isSome=true):=λ⟨n,v⟩ hy=>by
  rcases S.par n (tW hy).1 with q|q
  ·show .inl q
  ·show .inr #[q,Hk _ _ _<|.inl q]
 refine codeAny_call_function a.depth (KX _ _ lk) rfl S.co S.gen rfl (Lc KX E6)<|hb _ _ _ _ ?_;refine Kj S.kind V3 λenv he s1 x=>?_
 subst he;refine#[Y.keeps x.toInCall.keep,codeAny_func ?_];obtain⟨t,ht,hq⟩:=u9 A j s H vs Q E (a.deeper _) S7;have I:mS (W8 g P w K d mM N qual scope f l A j s H E) [] (start N vs) H s1:=Nr S a.hd h hl r x;refine pX (ht [] s1 (start N vs) H _ I hq) (λfl U i=>?_) λe U i=>i
 have fin:∀{z:St}{p:Hp}{v:V}{u:ma},mS (W8 g P w K d mM N qual scope f l A j s H E) [] z p U->Yg v u->Q v p->CE j P w H s Q u U :=
  λ{z p v u} J M q=>#[v,p,J.os,J.bare,J.mM,J.hok,M,q]
 cases fl with
 | ret u =>
  obtain⟨v,z,p,J,M,q⟩:=i;show fin J M q
 | next =>
  obtain⟨z,p,J,q⟩:=i;show fin (v:=V.non) (u:=Value.none) J rfl q
 | brk =>
  obtain⟨_,_,_,q⟩:=i;show False.elim q
 | cont =>
  obtain⟨_,_,_,q⟩:=i;show False.elim q
section
variable {x:lY} {p pos:Pos} {e:ml} {es:lX ml} {t:TA} {id T:String} {r:lX V->Hp->VK->Prop}
def yV(r:lX V->Hp->VK->Prop)(t:TA):TE:=λz H Q=>t z H λy w=>r y w Q
def Z6(w:Y5 X (.builtin id) r)(u:Gl X x)(q:X.mg x=none)(o:bootBuiltins x=some (.builtin id))(n:PA X (e ::es) t)(l:x≠ "__name__":=by lk)(j:(x ==("__debug__":lY))=false:=by lk)
  (i:starEach (e ::es) X.env=(false,eval e X.env) ::starEach es X.env:=by rfl) (g:(backTo pos<|starEach es X.env).any (·.1)=false:=by rfl):PE X (.Call (.Name x p) (e ::es) [] pos) (yV r t):=by
 intro y s z H Q I h;refine uE<|vE I u q o ?_ l j;show Lm (ny (n pos y s z H _ I h) λd c ⟨a,Y,U,N,M⟩=>w y c z Y a d Q U N M) i g
def Yw(w:Y5 X (.type T) r)(u:Gl X x)(q:X.mg x=none)(o:bootBuiltins x=some (.type T))(n:PA X (e ::es) t)(l:x≠ "__name__":=by lk)(j:(x ==("__debug__":lY))=false:=by lk)
  (i:starEach (e ::es) X.env=(false,eval e X.env) ::starEach es X.env:=by rfl) (g:(backTo pos<|starEach es X.env).any (·.1)=false:=by rfl):PE X (.Call (.Name x p) (e ::es) [] pos) (yV r t):=by
 intro y s z H Q I h;refine uE<|vE I u q o ?_ l j;show yJ (ny (n pos y s z H _ I h) λd c ⟨a,Y,U,N,M⟩=>w y c z Y a d Q U N M) i g
end
end L2
namespace HT
open PySem PyProof.Rows
section
variable {E:ma->md->Prop}
def sIx(n d:Nat):me Int->Nat
 | none=>d
 | some v=>if v<0 then(v+(n:Int)).toNat else min v.toNat n
def sIx_none(n d:Nat):sIx n d none=d:=rfl
def sIx_nat(n d k:Nat):sIx n d (some (k:Int))=min k n:=by
 change(if(k:Int)<0 then((k:Int)+(n:Int)).toNat else min (k:Int).toNat n)=min k n;rw[ng (by lia),vG]
def SE(n d:Nat)(hd:d<=n)(o:me Int):sIx n d o<=n:=by
 cases o with
 | none=>show hd
 | some v =>
  change(if v<0 then(v+(n:Int)).toNat else min v.toNat n)<=n
  by_cases z:v<0
  ·rw[nj z];lia
  ·rw[ng z];show Nat.min_le_right _ _
def Jz(v:Int)(n d:Nat):(if v<0 then max (v+(n:Int)) 0 else min v (n:Int))=((sIx n d (some v):Nat):Int):=by
 change(if v<0 then max (v+(n:Int)) 0 else min v (n:Int))=(((if v<0 then(v+(n:Int)).toNat else min v.toNat n):Nat):Int)
 by_cases z:v<0
 ·simp only[nj z];lia
 ·simp only[ng z];lia
def Vs(lo z:me Int)(n:Nat):Builtin.Slice.sliceAdjust lo z 1 (n:Int)=(((sIx n 0 lo:Nat):Int),((sIx n n z:Nat):Int)):=by
 have y:¬((1:Int)<0):=by lia
 unfold Builtin.Slice.sliceAdjust;simp only[y,pW];refine Prod.ext ?_ ?_
 ·cases lo with
  | none=>rfl
  | some v=>show Jz v n 0
 ·cases z with
  | none=>rfl
  | some v=>show Jz v n n
def Zun(i j:Nat):Builtin.Slice.slicePlaces (i:Int) (j:Int) 1=j-i:=by
 unfold Builtin.Slice.slicePlaces;have z:(1:Int)>0:=by lia
 simp only[z,rP,Int.ediv_one];split<;>lia
def KJ{Q:me Int->md->Prop}(p:IsPart v o)(h:Q o s):wpAny (model prog w) A (Builtin.Slice.slicePartIndex v) Q E s:=by
 cases p with
 | none=>show slicePart_none h
 | int i t=>show slicePart_int h
def UO{p:lZ}{u r:ma}{lo z:me Int}{n:Nat}{Q:Int×Int×Nat->md->Prop}(o:s.heap.IsSliceOf p u r .none)(pl:IsPart u lo)(l:IsPart r z)
  (h:Q (((sIx n 0 lo:Nat):Int),1,sIx n n z-sIx n 0 lo) s):wpAny (model prog w) A (Builtin.Slice.sliceApplied (.ref p)<|pure (n:Int)) Q E s:=by
 obtain⟨os,q,j,y⟩:=id o;unfold Builtin.Slice.sliceApplied Builtin.Slice.sliceFields;refine mU<|mU<|wX q y (x:=u) rfl<|mU<|wX q y (x:=r) rfl<|mU<|wX q y (x:=.none) rfl<|nk ?_;refine mU<|slicePart_none ?_;change wpAny _ _ (if((1:Int) ==0)=true then _ else _) _ _ s;rw[ng (by lk)];refine mU<|KJ pl<|mU<|KJ l<|mU<|nk ?_;change wpAny _ _ (match Builtin.Slice.sliceAdjust lo z 1 (n:Int)with|(lo,z)=>pure (lo,(1:Int),Builtin.Slice.slicePlaces lo z 1)) _ _ s;rw[Vs lo z n];change wpAny _ _ (pure (((sIx n 0 lo:Nat):Int),(1:Int),Builtin.Slice.slicePlaces ((sIx n 0 lo:Nat):Int) ((sIx n n z:Nat):Int) 1)) _ _ s;rw[Zun];show nk h
def Zzu(xs:Array ma)(i k:Nat):((List.range k).filterMap λ(m:Nat)=>xs[((i:Int)+(m:Int) * 1).toNat]?).toArray=((xs.toList.drop i).take k).toArray:=by
 have e:(λ(m:Nat)=>xs[((i:Int)+(m:Int) * 1).toNat]?)=λm=>xs[i+m]? :=by
  funext m
  have:((i:Int)+(m:Int) * 1).toNat=i+m:=by lia
  rw[this]
 rw[e];have:=pick_run xs i k;rw[List.filterMap_map]at this;have z:((λx=>xs[x]?) ∘ λx=>i+x)=λm=>xs[i+m]? :=rfl
 rw[z]at this;rw[this]
def getItem_tuple_cut{t r:lZ}{z:Array ma}{o n:ma}{lo y:me Int}{Q:ma->md->Prop}(x:IsTup s.heap t z)(l:s.heap.IsSliceOf r o n .none)(pl:IsPart o lo)(j:IsPart n y)
  (i:¬(sIx z.size 0 lo=0/\sIx z.size z.size y=z.size))
  (h:Q (.ref #v[s]) {s with heap:=s.heap.push {cls:=.type "tuple",data:=.seq ((z.toList.drop<|sIx z.size 0 lo).take (sIx z.size z.size y-sIx z.size 0 lo)).toArray}})
  (hsz:z.size<=sizeLine):wpAny (model prog w) A (getItem (.ref t)<|.ref r) Q E s:=by
 have u:sizeOk (.seq ((z.toList.drop<|sIx z.size 0 lo).take (sIx z.size z.size y-sIx z.size 0 lo)).toArray):=by
  change((z.toList.drop<|sIx z.size 0 lo).take (sIx z.size z.size y-sIx z.size 0 lo)).toArray.size<=sizeLine;rw[oM,oF,yC,qK];show oy (Nat.min_le_right ..)<|oy (Nat.sub_le ..) hsz
 have a:sIx z.size z.size y<=z.size:=SE _ _ (nK _) y;obtain⟨os,g,e,d⟩:=id l;have p:s.TypeIs (.ref r) "slice":=#[os,g,e]
 unfold getItem
 try with_reducible refine qt ?_
 first|refine mU (nk ?_)|skip
 refine mU<|wpAny_sequenceKey x.typeIs (by lk) ?_;refine mU (FK (name:=Str.ofString "__getitem__") x.typeIs DU
  (wv DU x.typeIs entry_tuple_getitem ?_<|args_tuple_getitem _ _))
 change wpAny _ _ (Builtin.Tuple.tupleItemsOf (.ref t)>>=_) _ _ s;refine mU<|tupleItemsOf_ x ?_;refine mU<|xq p ?_;rw[nj (by lk)];refine mU<|UO l pl j ?_;have c:¬((((sIx z.size 0 lo:Nat):Int) ==0 && (1:Int) ==1 && (sIx z.size z.size y-sIx z.size 0 lo) ==z.size)=true):=by
  intro q;rw[qk,qk]at q;have Y:((sIx z.size 0 lo:Nat):Int)=0:=eq_of_beq q.1.1;have U:sIx z.size z.size y-sIx z.size 0 lo=z.size:=eq_of_beq q.2;show i #[by lia,by lia]
 change wpAny _ _ (if(((sIx z.size 0 lo:Nat):Int) ==0 && (1:Int) ==1 && (sIx z.size z.size y-sIx z.size 0 lo) ==z.size)=true then _ else _) _ _ s;rw[ng c,Zzu]
 first
  | show mU (m:=Builtin.Tuple.tupleExact _) (tE (nk #[_,rfl,nk h]) u)
  | show mU (m:=Builtin.Tuple.tupleExact _) (tE (mU<|nk<|nk #[_,rfl,nk h]) u)
  | show mU (mU (m:=Builtin.Tuple.tupleExact _)<|tE (nk<|nk #[_,rfl,nk h]) u)
  | show mU<|mU (m:=Builtin.Tuple.tupleExact _)<|tE (nk #[_,rfl,nk h]) u
end
end HT
namespace L2
open PySem PySem.Spec PyProof.Rows
abbrev TO:=St->Hp->(me Int->Hp->Prop)->Prop
def PO(X:Cx)(e:me ml)(t:TO):Prop :=
 ∀(y:lX (lZ×Obj)) (s:md) (z:St) (H:Hp) (Q:me Int->Hp->Prop),mS X y z H s->t z H Q->
  ∅ (evalPart e X.env) (λu w=>∃o x,mS X y z x w/\IsPart u o/\Q o x) X.xe s
def Ue:TO:=λ_ H Q=>Q none H
def Yht(t:TE):TO:=λz H Q=>t z H λx y=>oI x λi=>Q (some i) y
section
variable {X:Cx} {e:ml} {te:TE} {lo hi:me ml} {tl th:TO} {pos p2:Pos}
def ut:PO X none Ue:=by
 intro y s z H Q I h;rw[evalPart_none];show nk #[none,H,I,.none,h]
def tQ(h:PE X e te):PO X (some e) (Yht te):=by
 intro y s z H Q I w;rw[evalPart_some];refine ny (h y s z H _ I w) λu l ⟨x,r,p,o,n⟩=>?_
 obtain⟨i,rfl,q⟩:=oI.out n;obtain⟨t,rfl⟩:=o;show#[some i,r,p,.int i t,q]
def sH(X:Cx)(r:V->me Int->me Int->Hp->VK->Prop):Prop :=
 ∀(y:lX (lZ×Obj)) (s:md) (z:St) (H:Hp) (x:V) (v w u:ma) (lo hi:me Int) (q:lZ) (Q:VK),mS X y z H s->Yg x v->s.heap.IsSliceOf q w u .none->IsPart w lo->IsPart u hi->r x lo hi H Q->
  ∃T id,typeLookup (.type T) "__getitem__"=pure (some<|.builtin id)/\s.TypeIs v T/\∅ (getItem v<|.ref q) (EP X y z Q) X.xe s
def sH.or{r y:V->me Int->me Int->Hp->VK->Prop}(h:sH X r)(h':sH X y):sH X (λx lo hi H Q=>r x lo hi H Q\/y x lo hi H Q):=by
 intro w s z H x v u p lo hi o Q I n l j i q;rcases q with q|q
 ·show h w s z H x v u p lo hi o Q I n l j i q
 ·show h' w s z H x v u p lo hi o Q I n l j i q
def WO(r:V->me Int->me Int->Hp->VK->Prop)(te:TE)(tl th:TO):TE:=λz H Q=>te z H λx y=>tl z y λl w=>th z w λu s=>r x l u s Q
def Wm{r:V->me Int->me Int->Hp->VK->Prop}(n:sH X r)(j:PE X e te)(i:PO X lo tl)(g:PO X hi th):PE X (.Subscript e (.Slice lo hi none p2) pos) (WO r te tl th):=by
 intro y s z H Q I h;refine Subscript_<|ny (j y s z H _ I h) λv d ⟨x,c,a,Y,U⟩=>?_;refine wpAny_Slice<|ny (i y d z c _ a U) λw N ⟨l,M,L,J,G⟩=>ny (g y N z M _ L G) λp s3 ⟨u,o,E,D,C⟩=>?_;rw[evalPart_none];refine nk ?_;have B:mS X y z o {s3 with heap:=s3.heap.push {cls:=.type "slice",data:=.fields (List.toArray [w,p,.none])}}:=E.kept (t':=s3.toks) λb ob q=>nZ _ q
 obtain⟨T,id,A,ht,hg⟩:=n y {s3 with heap:=s3.heap.push {cls:=.type "slice",data:=.fields (List.toArray [w,p,.none])}} z o x v w p l u #v[s3] Q B Y (Heap.IsSliceOf.new ..) J D C;change ∅ (subscriptTail e (.Slice lo hi none p2) v<|.ref #v[s3]) (EP X y z Q) X.xe {s3 with heap:=s3.heap.push {cls:=.type "slice",data:=.fields (List.toArray [w,p,.none])}};show tail_any (ops:=[.ref #v[s3],v]) ht A hg (by with_unfolding_all rfl)
def rX(xs:lX V)(lo hi:me Int):lX V:=(xs.drop<|HT.sIx xs.length 0 lo).take (HT.sIx xs.length xs.length hi-HT.sIx xs.length 0 lo)
def Lv(xs:lX V)(lo hi:me Int):(rX xs lo hi).length<=xs.length:=by
 unfold rX;rw[oF,yC];lia
def Yji(K:mf):V->me Int->me Int->Hp->VK->Prop:=λx lo hi H Q=>∃a z,x=.ref a/\SqT K H a z/\
 ¬(HT.sIx z.length 0 lo=0/\HT.sIx z.length z.length hi=z.length)/\∀p,H p=none->Q (.ref p) (mT H p<|.tup<|rX z lo hi)
def SS:sH X (Yji X.K):=by
 intro Y s z H x v U N lo hi M Q I n l j i h;obtain⟨a,y,rfl,g,d,q⟩:=h;cases n;obtain⟨c,r,u,p⟩:=I.tuple g;have w:c.toArray.size=y.length:=by rw[oM];show r.length.symm
 refine#["tuple",_,DU.lookup,u.typeIs,?_];refine HT.getItem_tuple_cut u l j i (by rw[w];show d) ?_ (by rw[w];show p);rw[w];refine#[.ref #v[s],_,I.laid (t':=s.toks) (o:=.tup<|rX y lo hi) (λb a q=>nZ _ q) (nK _) ?_,rfl,q _<|I.hok.fresh<|nK _];show#[oy (Lv y lo hi) p,_,(r.drop<|HT.sIx y.length 0 lo).take (HT.sIx y.length y.length hi-HT.sIx y.length 0 lo),IsTup.new _ _]
end
def wE(n:Nat)(i:Int):me Nat:=if 0<=i then(if i<n then some i.toNat else none)else if -(n:Int)<=i then some (i+n).toNat else none
def oP{z:Type}(xs:lX z)(i:Int):me z:=(wE xs.length i).bind λj=>xs[j]?
def Yb0(h:wE n i=some j):seqIndex? i n=some j/\j<n/\-(n:Int)<=i/\i<n:=by
 unfold wE at h
 by_cases y:0<=i
 ·rw[nj y]at h
  by_cases z:i<n
  ·rw[nj z]at h;have e:i.toNat=j:=pc h;show#[by rw[seqIndex_of y z,e],by lia,by lia,z]
  ·rw[ng z]at h;cases h
 ·rw[ng y]at h
  by_cases z:-(n:Int)<=i
  ·rw[nj z]at h;have e:(i+n).toNat=j:=pc h;show#[by rw[seqIndex_neg (by lia) z,e],by lia,z,by lia]
  ·rw[ng z]at h;cases h
def EM{z:Type}{xs:lX z}{v:z}(h:oP xs i=some v):∃j,seqIndex? i xs.length=some j/\xs[j]? =some v/\j<xs.length/\-(xs.length:Int)<=i/\i<xs.length:=by
 unfold oP at h;cases e:wE xs.length i with
 | none=>rw[e]at h;cases h
 | some j =>
  rw[e]at h;obtain⟨y,x,w,u⟩:=Yb0 e;show#[j,y,h,x,w,u]
def Zq{z:Type}{xs:lX z}{j:Nat}{v:z}(h:xs[j]? =some v):oP xs (j:Int)=some v:=by
 have y:j<xs.length:=(pz.mp h).1;have e:wE xs.length (j:Int)=some j:=by
  unfold wE;rw[nj (by lia),nj<|by lia];simp
 unfold oP;rw[e];show h
def Iu(b:ml):Prop:=∀o i,subscripted b false o i=operate [o,i] (getItem o i)
def vM(X:Cx)(r:R2):Prop :=
 ∀(value slice:ml)(w:lX (lZ×Obj)) (s:md) (z:St) (H:Hp) (x y:V) (v u:ma) (Q:VK),mS X w z H s->Yg x v->Yg y u->r x y H Q->
  subscripted slice false v u=operate [v,u] (getItem v u)->∅ (subscriptTail value slice v u) (EP X w z Q) X.xe s
def Am(X:Cx)(id:String)(r:V->lX V->Hp->VK->Prop):Prop :=
 ∀(y:lX (lZ×Obj)) (s:md) (z:St) (H:Hp) (x:V) (w:lX V) (v:ma) (u:lX ma) (Q:VK),mS X y z H s->Yg x v->Ya w u->r x w H Q->
  ∅ (call (.builtin id)<|v ::u) (EP X y z Q) X.xe s
section
variable {X:Cx} {a b:ml} {ta tb:TE} {pos:Pos}
def vM.or(h:vM X r)(h':vM X l):vM X (λx y H Q=>r x y H Q\/l x y H Q):=by
 intro value slice w s z H x y v u Q I p o q n;rcases q with q|q
 ·show h value slice w s z H x y v u Q I p o q n
 ·show h' value slice w s z H x y v u Q I p o q n
def Pb(w:vM X r)(p:PE X a ta)(o:PE X b tb)(n:Iu b):PE X (.Subscript a b pos) (qZ r ta tb):=by
 intro l s z H Q I h;show Subscript_<|Ga p o I h λv u j x y i g e d q=>w a b l j z i x y v u Q g e d q<|n _ _
inductive FW(S:Hp->Addr->List V->Prop)(H:Hp)(Q:VK):V->V->Prop
 | mk {p xs i v}:S H p xs->oP xs i=some v->Q v H->FW S H Q (.ref p) (.int i)
def ND(K:mf):R2:=λx y H Q=>FW (SqL K) H Q x y
def JH(K:mf):R2:=λx y H Q=>FW (SqT K) H Q x y
def NA:R2:=λx y H Q=>∃z i c,x=.str z/\y=.int i/\z.length<=sizeLine/\oP z.cps.toList i=some c/\Q (.str #[(List.toArray [c])]) H
def Ycm:vM X (ND X.K):=by
 intro value slice e s z H x y v u Q I U N h d;obtain@⟨p,A,i,w,M,L,q⟩:=h;cases U;obtain⟨t,rfl⟩:=N;obtain⟨J,r,l,p⟩:=I.list M;obtain⟨j,n,G,p,E,D⟩:=EM L;obtain⟨o,c,C⟩:=r.get G;have B:=r.length;have hn:=yt;have fin:EP X e z Q o s:=#[w,H,I,C,q]
 by_cases Y:0<=i
 ·have g:i.toNat=j:=by
   rw[seqIndex_of Y D]at n;show pc n
  show item_listR l.isList Y (by lia) (by rw[g];simpa using c) fin d
 ·have g:(i+(J.toArray.size:Int)).toNat=j:=by
   rw[seqIndex_neg (by lia) E]at n;rw[oM,<-B];show pc n
  show subscriptTail_builtinR (x:=o) l.isList.typeIs HJ.lookup
   (wpAny_getItem_list_neg (Q:=λr p=>r=o/\EP X e z Q r p) l.isList (by lia) (by rw[oM]<;>lia) (by lia) (by rw[g];simpa using c) #[rfl,fin]) d
def Yfa:vM X (JH X.K):=by
 intro value slice n s z H x y v u Q I g e h d;obtain@⟨p,G,i,w,c,Y,q⟩:=h;cases g;obtain⟨t,rfl⟩:=e;obtain⟨p,r,l,i⟩:=I.tuple c;obtain⟨j,U,N,p,i,G⟩:=EM Y;obtain⟨o,M,L⟩:=r.get N;have J:=r.length;have E:=yt;have fin:EP X n z Q o s:=#[w,H,I,L,q]
 show subscriptTail_builtinR (x:=o) l.typeIs DU.lookup
  (getItem_tuple (j:=j) (Q:=λr p=>r=o/\EP X n z Q r p) l (by lia) (by lia) (by rw[oM,<-J];show U) (by simpa using M) #[rfl,fin]) d
def VS:vM X NA:=by
 intro value slice N s z H x y v u Q I p o h n;obtain⟨w,i,c,rfl,rfl,j,l,q⟩:=h;obtain⟨t,rfl⟩:=p;obtain⟨j,rfl⟩:=o;obtain⟨j,r,g,U,e,d⟩:=EM l;have Y:w.cps.toList.length=w.length:=by simp[Str.length]
 rw[Y]at r e d;have M:=yt;show tail_any (xj s w t) slot_str_getitem.lookup (getItem_str (c:=c) (by
  have j:decide (i < -(2 ^ 63:Int))=false:=ow (by lia);have U:decide (i ≥ 2 ^ 63)=false:=ow (by lia);rw[j,U,Bool.or_false]) (by rw[r];simpa using g) #[.str #[(List.toArray [c])],H,I.tok _,#[_,rfl],q]) n
def yq(K:mf):R2:=λx y H Q=>ND K x y H Q\/JH K x y H Q\/NA x y H Q
def QZ:vM X (yq X.K):=Ycm.or<|Yfa.or VS
def UA(lo z:me Int)(n:Nat):(sliceBounds lo z none n).1=((HT.sIx n 0 lo:Nat):Int)/\(sliceBounds lo z none n).2.1=((HT.sIx n n z:Nat):Int)/\(sliceBounds lo z none n).2.2=1:=by
 refine#[?_,?_,rfl]
 ·cases lo with
  | none=>simp[sliceBounds,HT.sIx]
  | some i =>
   simp only[sliceBounds,HT.sIx,Option.getD_none,show(1:Int)>0 by lk,rP]
   by_cases h:i<0
   ·simp only[h,rP]<;>lia
   ·simp only[h,pW]<;>lia
 ·cases z with
  | none=>simp[sliceBounds,HT.sIx]
  | some i =>
   simp only[sliceBounds,HT.sIx,Option.getD_none,show(1:Int)>0 by lk,rP]
   by_cases h:i<0
   ·simp only[h,rP]<;>lia
   ·simp only[h,pW]<;>lia
def VD(z:lX ma)(lo y:me Int):slicePick z.toArray lo y none=((z.drop<|HT.sIx z.length 0 lo).take (HT.sIx z.length z.length y-HT.sIx z.length 0 lo)).toArray:=by
 obtain⟨x,w,u⟩:=UA lo y z.toArray.size;unfold slicePick;rw[x,w,u];simp only[sliceRange_one,pick_run,oM]<;>rfl
def Yjt(K:mf):V->me Int->me Int->Hp->VK->Prop:=λx lo y H Q=>∃a z,x=.ref a/\SqL K H a z/\∀p,H p=none->Q (.ref p) (mT H p<|.lst<|rX z lo y)
def SI:sH X (Yjt X.K):=by
 intro d s z H x v c Y lo w U Q I p n l j h;obtain⟨a,y,rfl,i,q⟩:=h;cases p;obtain⟨N,r,u,g⟩:=I.list i;have e:=r.length;refine#["list",_,HJ.lookup,u.isList.typeIs,?_];refine Oi u.isList n l j .none (by simp) ?_ (by rw[oM]<;>lia);rw[VD,<-e];refine#[.ref #v[s],_,I.laid (t':=s.toks) (o:=.lst<|rX y lo w) (λb N q=>nZ _ q) (nK _) ?_,rfl,q _<|I.hok.fresh<|nK _];show#[oy (Lv y lo w) g,_,0,(r.drop<|HT.sIx y.length 0 lo).take (HT.sIx y.length y.length w-HT.sIx y.length 0 lo),oG _ rfl]
def sR:V->Bool
 | .non=>true
 | .bl _=>true
 | .int _=>true
 | .str _=>true
 | _=>false
def rn:V->V->Bool
 | .non,.non=>true
 | .bl a,.bl b=>a ==b
 | .bl a,.int b=>(if a then 1 else 0) ==b
 | .int a,.bl b=>a ==(if b then 1 else 0)
 | .int a,.int b=>a ==b
 | .str a,.str b=>a ==b
 | _,_=>false
def zQ(r:Yg y u)(z:Yg x v)(p:sR y=true)(q:sR x=true):SeqAt.EqAt A s u v (rn y x):=by
 cases y with
 | non =>
  cases r;cases x with
  | non=>cases z;show DY _
  | bl b=>cases z;show SeqAt.EqAt.none_bool b
  | int b=>obtain⟨t,rfl⟩:=z;show SeqAt.EqAt.none_int b t
  | str b=>obtain⟨t,rfl⟩:=z;show SeqAt.EqAt.none_str b t
  | _=>show absurd (show false=true from q) oK
 | bl a =>
  cases r;cases x with
  | non=>cases z;show SeqAt.EqAt.bool_none a
  | bl b=>cases z;show GN a b
  | int b=>obtain⟨t,rfl⟩:=z;show SeqAt.EqAt.bool_int a b t
  | str b=>obtain⟨t,rfl⟩:=z;show SeqAt.EqAt.bool_str a b t
  | _=>show absurd (show false=true from q) oK
 | int a =>
  obtain⟨w,rfl⟩:=r;cases x with
  | non=>cases z;show SeqAt.EqAt.int_none a w
  | bl b=>cases z;show SeqAt.EqAt.int_bool a w b
  | int b=>obtain⟨t,rfl⟩:=z;show SeqAt.EqAt.int_int a w b t
  | str b=>obtain⟨t,rfl⟩:=z;show SeqAt.EqAt.int_str a w b t
  | _=>show absurd (show false=true from q) oK
 | str a =>
  obtain⟨w,rfl⟩:=r;cases x with
  | non=>cases z;show SeqAt.EqAt.str_none a w
  | bl b=>cases z;show SeqAt.EqAt.str_bool a w b
  | int b=>obtain⟨t,rfl⟩:=z;show SeqAt.EqAt.str_int a w b t
  | str b=>obtain⟨t,rfl⟩:=z;show SeqAt.EqAt.str_str a w b t
  | _=>show absurd (show false=true from q) oK
 | _=>show absurd (show false=true from p) oK
def rW(x:V)(u:ma):Bool:=match u with
 | .none=>rn .non x
 | .bool b=>rn (.bl b) x
 | .int i _=>rn (.int i) x
 | .str z _=>rn (.str z) x
 | _=>false
def Pk(r:Yg y u)(f:sR y=true):rW x u=rn y x:=by
 cases y with
 | non=>cases r;rfl
 | bl b=>cases r;rfl
 | int i=>obtain⟨t,rfl⟩:=r;rfl
 | str z=>obtain⟨t,rfl⟩:=r;rfl
 | _=>show absurd (show false=true from f) oK
theorem AG:∀{xs:lX V}{us:lX ma},Ya xs us->xs.all sR=true->us.any (rW x)=xs.any λy=>rn y x
 | _,_,.nil,_=>rfl
 | y ::xs,u ::us,.cons r t,f=>by
  rw[EE,qk]at f;rw[xF,xF,Pk r f.1,AG t f.2]
theorem AD(w:Yg x v)(q:sR x=true):∀{xs:lX V}{us:lX ma},Ya xs us->xs.all sR=true->∀u∈us,SeqAt.EqAt A s u v (rW x u)
 | _,_,.nil,_=>λu z=>by cases z
 | y ::xs,u ::us,.cons r t,f=>λp z=>by
  rw[EE,qk]at f;rcases oh.mp z with rfl|z
  ·rw[Pk r f.1];show zQ r w f.1 q
  ·show AD w q t f.2 p z
def tL(x:V)(xs:lX V):Bool:=xs.any λy=>rn y x
inductive ME(K:Frag)(neg:Bool)(x:V)(H:Hp)(Q:VK):V->Prop
 | mk {p xs}:(SqL K H p xs\/SqT K H p xs)->sR x=true->xs.all sR=true->Q (.bl<|if neg then !tL x xs else tL x xs) H->ME K neg x H Q (.ref p)
def An(K:mf)(neg:Bool):R2:=λx y H Q=>ME K neg x H Q y
def Jb:om X (compareOp .In) (An X.K false):=by
 intro c s z H x y v u Q I i e h;obtain@⟨p,Y,o,g,fs,q⟩:=h;cases e;rcases o with o|o
 ·obtain⟨n,r,l,d⟩:=I.list o;refine SeqAt.in_listAt (rW x) l.isList (λw j=>AD i g r fs w<|by simpa using j) #[.bl _,H,I,rfl,?_];rw[show n.toArray.any (rW x)=n.any (rW x) by simp,AG r fs];show q
 ·obtain⟨n,r,l,d⟩:=I.tuple o;refine SeqAt.in_tupleAt (rW x) l (λw j=>AD i g r fs w<|by simpa using j) #[.bl _,H,I,rfl,?_];rw[show n.toArray.any (rW x)=n.any (rW x) by simp,AG r fs];show q
def Zqv:om X (compareOp .NotIn) (An X.K true):=by
 intro c s z H x y v u Q I i e h;obtain@⟨p,Y,o,g,fs,q⟩:=h;cases e;rcases o with o|o
 ·obtain⟨n,r,l,d⟩:=I.list o;refine SeqAt.notIn_listAt (rW x) l.isList (λw j=>AD i g r fs w<|by simpa using j) #[.bl _,H,I,rfl,?_];rw[show n.toArray.any (rW x)=n.any (rW x) by simp,AG r fs];show q
 ·obtain⟨n,r,l,d⟩:=I.tuple o;refine SeqAt.notIn_tupleAt (rW x) l (λw j=>AD i g r fs w<|by simpa using j) #[.bl _,H,I,rfl,?_];rw[show n.toArray.any (rW x)=n.any (rW x) by simp,AG r fs];show q
def TX:Y5 X (.builtin "len") (λxs H Q=>∃p y,xs=[.ref p]/\(SqL X.K H p y\/SqT X.K H p y)/\Q (.int y.length) H):=by
 intro g s z H xs e Q I r h;obtain⟨p,y,rfl,x,q⟩:=h;obtain⟨u,rfl,l⟩:=Wr r;cases l;have d:=yt;rcases x with x|x
 ·obtain⟨j,w,o,i⟩:=I.list x;have n:=w.length;show Calls.call_len_list o.isList (by simp only[oM]<;>lia) #[.int y.length,H,I.tok _,#[s.toks+1,by rw[oM,n]],q]
 ·obtain⟨j,w,o,i⟩:=I.tuple x;have n:=w.length;show len_tuple o (by simp only[oM]<;>lia) #[.int y.length,H,I.tok _,#[s.toks+1,by rw[oM,n]],q]
def Zpr:Y5 X (.builtin "len") (λxs H Q=>∃y,xs=[.str y]/\y.length<=sizeLine/\Q (.int y.length) H):=by
 intro x s z H xs w Q I r h;obtain⟨y,rfl,u,q⟩:=h;obtain⟨u,rfl,t,rfl⟩:=Wr r;have p:=yt;show len_str (by lia) #[.int y.length,H,I.tok _,#[_,rfl],q]
def Y5.or{r y:lX V->Hp->VK->Prop}(h:Y5 X f r)(h':Y5 X f y):Y5 X f (λxs H Q=>r xs H Q\/y xs H Q):=by
 intro x s z H xs w Q I u q;rcases q with q|q
 ·show h x s z H xs w Q I u q
 ·show h' x s z H xs w Q I u q
def Vw:Y5 X (.type "list") (λxs H Q=>∃p w,xs=[.ref p]/\(SqL X.K H p w\/SqT X.K H p w)/\∀l,H l=none->Q (.ref l) (mT H l<|.lst w)):=by
 intro M s z H xs G Q I r h;obtain⟨p,w,rfl,g,q⟩:=h;obtain⟨u,rfl,L⟩:=Wr r;cases L;have fin:∀(x:lX ma),Ya w x->w.length<=sizeLine->∀(y:mi)(j:Nat),(∀b u,s.heap.get? b=some u->y.get? b=some u)->
   y.get? #v[s]=some {cls:=.type "list",dict:=none,data:=.seq x.toArray j,slots:=#[]}->EP X M z Q (.ref #v[s]) {s with heap:=y}:=λx i d y j c e =>
  #[.ref #v[s],_,I.laid (t':=s.toks) c (nK _) (show Z7 X.prog X.w _ y _ (.lst w)from#[d,x,j,i,e]),rfl,q _<|I.hok.fresh<|nK _]
 rcases g with g|g
 ·obtain⟨x,i,Y,d⟩:=I.list g;have J:=i.length;obtain⟨o,U,N,n,hd⟩:=Y.isList;show call_list_seq p (.inl rfl) U N hd (λy j c e=>fin x i d y j c e) (by simp only[oM]<;>lia)
 ·obtain⟨x,i,Y,d⟩:=I.tuple g;have J:=i.length;obtain⟨o,U,N,n,hd⟩:=Y;show call_list_seq p (.inr rfl) U N hd (λy j c e=>fin x i d y j c e) (by simp only[oM]<;>lia)
def Gh(K:mf)(T:String)(x:V)(H:Hp):Prop:=match x with
 | .str _=>T ="str"
 | .int _=>T ="int"
 | .ref p=>(T ="list"/\∃z,SqL K H p z)\/(T ="tuple"/\∃o,K.lookup p=some o/\o.cls=.type "tuple"/\o.dict=none)\/
   (T ="dict"/\((∃z,H p=some (.dK z))\/∃z,H p=some (.dT z)))\/(T ="set"/\∃S n,H p=some (.set S n))
 | _=>False
def PH(I:mS X d z H s)(r:Yg x v)(q:Gh X.K T x H) :
  s.TypeIs v T/\∀a,v=.ref a->∃h,s.heap.get? a=some h/\h.dict=none:=by
 cases x with
 | str y =>
  obtain⟨t,rfl⟩:=r;cases(show T ="str" from q);show#[xj s y t,λ_ e=>nomatch e]
 | int i =>
  obtain⟨t,rfl⟩:=r;cases(show T ="int" from q);show#[typeIs_int s i t,λ_ e=>nomatch e]
 | ref p =>
  cases r;rcases q with⟨rfl,l,i⟩|⟨rfl,o,w,g,hd⟩|⟨rfl,w⟩|⟨rfl,S,n,w⟩
  ·obtain⟨c,_,l,_⟩:=I.list i;refine#[l.isList.typeIs,λa e=>?_];cases e;obtain⟨o,n,e,c,hd,_⟩:=l;show#[o,e,hd]
  ·refine#[#[o,I.kIn p o w,g],λa e=>?_];cases e;show#[o,I.kIn _ o w,hd]
  ·have y:∃o,s.heap.get? p=some o/\o.ExactDict:=by
    rcases w with⟨l,w⟩|⟨l,w⟩
    ·obtain⟨_,_,_,_,o,_,_,e,u,_⟩:=I.hok p _ w;show#[o,e,u]
    ·obtain⟨_,_,_,_,o,_,_,e,u,_⟩:=I.hok p _ w;show#[o,e,u]
   obtain⟨o,e,u⟩:=y;refine#[#[o,e,u.1],λa j=>?_];cases j;show#[o,e,u.2.1]
  ·obtain⟨o,_,_,_,e,u,_⟩:=I.hok p _ w;refine#[#[o,e,u.1],λa j=>?_];cases j;show#[o,e,u.2.1]
 | _=>show False.elim q
def Je(K:mf)(T:String)(r:V->lX V->Hp->VK->Prop)(to:TE)(t:TA):TE:=λz H Q=>to z H λx y=>Gh K T x y/\t z y λw u=>r x w u Q
variable {o e:ml} {es:lX ml} {to:TE} {t:TA} {name:lY} {u5 j7:Pos} {T id:String} {r:V->lX V->Hp->VK->Prop}
def zK(j:PlainAttrs T)(slot:Slot T name id)(u:typeOf (.builtin id)=pure (.type "method_descriptor"))(i:Am X id r)(g:PE X o to)(d:PA X (e ::es) t)
  (c:attributeBase o name X.env (eval o X.env)=eval o X.env:=by rfl)
  (w:((backTo j7<|starEach (e ::es) X.env).all (λx=>!x.1) && (backToKw j7<|keywordEach [] X.env).all (λx=>x.1.isSome)
   && decide ((e ::es).length+([]:lX Keyword).length+(if([]:lX Keyword).isEmpty then 0 else 1)<30))=true:=by rfl)
  (Y:(u5.endLine ==j7.line)=true:=by rfl) (U:starEach (e ::es) X.env=(false,eval e X.env) ::starEach es X.env:=by rfl) (y:(backTo j7<|starEach es X.env).any (·.1)=false:=by rfl) :
  PE X (.Call (.Attribute o name u5) (e ::es) [] j7) (Je X.K T r to t):=by
 intro q s z H Q I h;refine wpAny_Call_method_late c w Y rfl<|ny (g q s z H _ I h) λv N M=>?_;obtain⟨x,L,p,n,J,G⟩:=M;obtain⟨E,D⟩:=PH p n J;refine#[T,id,j,slot,u,E,D,?_];have l:=d j7 q N z L _ p G;rw[U]at l ⊢;refine xD (by change(false || (backTo j7<|starEach es X.env).any (·.1))=false;rw[y]<;>rfl)<|zR ?_;show ny l λC B ⟨A,H2,I2,r2,q2⟩=>i q B z H2 x A v C Q I2 n r2 q2
/- xs.append(e),list.index on a module's tuple .. are Am facts of 06m -/
end
def BC(X:Cx)(id:String)(r:V->lX V->Hp->VK->Prop):Prop :=
 ∀(y:lX (lZ×Obj)) (s:md) (z:St) (H:Hp) (x:V) (w:lX V) (v:ma) (u:lX ma) (Q:VK),mS X y z H s->Yg x v->Ya w u->r x w H Q->
  ∅ (call (.builtin id)<|v ::u) (EP X y z Q) X.xe s
def Ya.one{x:V}{us:lX ma}(h:Ya [x] us):∃u,us=[u]/\Yg x u:=by
 cases h with
 | cons r t=>cases t;show#[_,rfl,r]
theorem Ya.eraseIdx:∀{xs:lX V}{us:lX ma}(i:Nat),Ya xs us->Ya (xs.eraseIdx i) (us.eraseIdx i)
 | _,_,_,.nil=>.nil
 | _,_,0,.cons _ t=>t
 | _,_,i+1,.cons r t=>.cons r<|Ya.eraseIdx i t
theorem LY{z:Type}:∀(l:lX z)(i:Nat),(l.eraseIdx i).length<=l.length
 | [],_=>nK _
 | _ ::_,0=>qT _
 | _ ::r,i+1=>DS<|LY r i
variable {X:Cx}
def mS.lset{y its':lX ma}{n:Nat}{f:Array ma->Array ma}{t':Nat}(I:mS X r z H s)(p:H l=some (.lst xs))
  (e:s.heap.get? l=some {cls:=.type "list",data:=.seq y.toArray n}) (o:f y.toArray=its'.toArray) (j:Ya w its') (hz:w.length<=sizeLine) :
  mS X r z (mT H l<|.lst w) {s with heap:=s.heap.update l<|Obj.mapSeq f,toks:=t'}:=by
 have q:=PySem.IsL.update e f;rw[o]at q;refine I.write (x:=l) (e:=l) (by rw[p];show trivial) (.inl rfl) (λg u i h=>(rV s.heap (Obj.mapSeq f)<|oW i).trans h) #[_,q] ?_;show#[hz,its',_,j,q]
def mS.lnew(I:mS X w z H s)(u:Ya y x)(hz:y.length<=sizeLine) :
  mS X w z (mT H #v[s] (.lst y)) {s with heap:=s.heap.push {cls:=.type "list",data:=.seq x.toArray},toks:=t'} :=
 I.laid (λ_ _ q=>nZ _ q) (nK _) #[hz,x,0,u,oG _ rfl]
def mS.fresh(I:mS X y z H s):H #v[s]=none:=I.hok.fresh<|nK _
def mS.lstM(I:mS X u z H s)(w:H l=some (.lst xs)):xs.length<=sizeLine/\∃(x:lX ma)(n:Nat),Ya xs x/\xs.length=x.length/\s.heap.get? l=some {cls:=.type "list",data:=.seq x.toArray n}:=by
 obtain⟨y,x,n,r,e⟩:=I.hok l _ w;show#[y,x,n,r,r.length,e]
def Zzf(h:n<=sizeLine):Builtin.List.listTooLong n=false:=by
 unfold Builtin.List.listTooLong;show ow (by lia)
inductive Pf(H:Hp)(Q:VK):V->List V->Prop
 | mk {l xs y}:H l=some (.lst xs)->xs.length<sizeLine->Q .non (mT H l<|.lst<|xs++[y])->Pf H Q (.ref l) [y]
def PJ:V->lX V->Hp->VK->Prop:=λx z H Q=>Pf H Q x z
def Rg:BC X "list.append" PJ:=by
 intro g s z H x d v c Q I o j h;obtain@⟨l,a,y,w,Y,q⟩:=h;cases o;obtain⟨u,rfl,i⟩:=j.one;obtain⟨y,p,n,r,a,e⟩:=I.lstM w;refine zf KZ #[_,e,rfl] F.entry_list_append (F.args_list_append_2 _ _) (PySem.list_append l p.toArray n u<|by rw[oM];lia) #[e,?_];refine#[.non,_,I.lset (its':=p++[u]) w e (by simp) (r.append<|.cons i .nil) ?_,rfl,q];rw[oj,zL];lia
def TY:V->lX V->Hp->VK->Prop:=λx w H Q=>∃l b z y,x=.ref l/\w=[.ref b]/\H l=some (.lst z)/\H b=some (.lst y)/\z.length+y.length<=sizeLine/\Q .non (mT H l<|.lst<|z++y)
def Ygt:BC X "list.extend" TY:=by
 intro M s z H x L v J Q I g d h;obtain⟨l,b,y,u,rfl,rfl,i,c,G,q⟩:=h;cases g;obtain⟨u,rfl,a⟩:=d.one;cases a;obtain⟨y,p,n,r,u,e⟩:=I.lstM i;obtain⟨u,o,Y,U,y,N⟩:=I.lstM c;have j:p.toArray.size+o.toArray.size<=sizeLine:=by rw[oM,oM];lia
 have w:¬(!p.toArray.isEmpty && Builtin.List.listTooLong (p.toArray.size+o.toArray.size))=true:=by
  rw[Zzf j,GF];show oK
 refine zf F.slot_list_extend #[_,e,rfl] F.entry_list_extend (F.args_list_extend_2 _ _)
  (AutoSeq1.list_extend_list_list_0 l p.toArray n b o.toArray Y w (by rw[oM];lia)<|by lia) #[e,N,?_]
 refine#[.non,_,I.lset (its':=p++o) i e (by simp) (r.append U) ?_,rfl,q];rw[oj];lia
def Rz:V->lX V->Hp->VK->Prop:=λx w H Q=>∃l z i k y,x=.ref l/\w=[.int i]/\H l=some (.lst z)/\-(2 ^ 63)<=i/\i<2 ^ 63/\seqIndex? i z.length=some k/\z[k]? =some y/\Q y (mT H l<|.lst<|z.eraseIdx k)
def LQ:BC X "list.pop" Rz:=by
 intro E s z H x D v C Q I g d h;obtain⟨l,c,i,k,y,rfl,rfl,j,a,Y,U,N,q⟩:=h;cases g;obtain⟨u,rfl,M⟩:=d.one;obtain⟨t,rfl⟩:=M;obtain⟨w,o,n,r,L,e⟩:=I.lstM j;obtain⟨p,J,G⟩:=r.get N;refine zf Br #[_,e,rfl] F.entry_list_pop (F.args_list_pop_2 _ _)
  (MeetsSeq.list_pop_at l o.toArray n i t k p (fitsIndex_both a Y) (by rw[oM,<-L];show U) (by rw[<-sX];show J)<|by rw[oM];lia) #[e,?_]
 refine#[y,_,I.lset (its':=o.eraseIdx k) j e ?_ (r.eraseIdx k) ?_,G,q]
 ·change o.toArray.eraseIdxIfInBounds k=(o.eraseIdx k).toArray;rw[Nm]
 ·have:=LY c k;lia
def YB:R2:=λx y H Q=>∃l b z w,x=.ref l/\y=.ref b/\H l=some (.lst z)/\H b=some (.lst w)/\z.length+w.length<=sizeLine/\∀p,H p=none->Q (.ref p) (mT H p<|.lst<|z++w)
def Yfj:om X (binaryOp .Add) YB:=by
 intro U s z H x y v u Q I j i h;obtain⟨l,b,w,n,rfl,rfl,g,d,N,q⟩:=h;cases j;cases i;obtain⟨w,p,n,r,l,e⟩:=I.lstM g;obtain⟨n,o,l,c,w,a⟩:=I.lstM d;refine PySem.P.add_list e a ?_ (by rw[oM,oM];lia);have Y:p.toArray++o.toArray=(p++o).toArray:=by simp
 rw[Y];show#[.ref _,_,I.lnew (t':=s.toks) (r.append c) (by rw[oj];lia),rfl,q _ I.fresh]
section
variable {κ:Type} [DecidableEq κ]
def Xe(kvs:lX (κ×V))(k:κ):me V:=(kvs.find? λkv=>decide<|kv.1=k).map (·.2)
def Wj(kvs:lX (κ×V))(k:κ)(v:V):lX (κ×V) :=
 if(kvs.any λkv=>decide<|kv.1=k)=true then kvs.map (λkv=>if kv.1=k then(kv.1,v)else kv)else kvs++[(k,v)]
def wA(kvs:lX (κ×V))(k:κ):lX (κ×V):=kvs.filter λkv=>decide<|kv.1≠k
def yT{p:κ×V}{r:lX (κ×V)}{k:κ}(e:p.1=k):Xe (p ::r) k=some p.2:=by simp[Xe,yG,e]
def wa{p:κ×V}{r:lX (κ×V)}{k:κ}(e:¬p.1=k):Xe (p ::r) k=Xe r k:=by simp[Xe,yG,e]
theorem Bg(k:κ):∀kvs:lX (κ×V),(kvs.any λkv=>decide<|kv.1=k)=(Xe kvs k).isSome
 | []=>rfl
 | p ::r=>by
  rw[xF]
  by_cases e:p.1=k
  ·simp only[yT e,og e,Bool.true_or,Option.isSome_some]
  ·rw[wa e,ow e,FY];show Bg k r
def BZ(kvs:lX (κ×V))(k:κ)(v:V):(Wj kvs k v).length<=kvs.length+1:=by
 unfold Wj;split
 ·rw[mV];lia
 ·rw[oj,pJ,CL];lia
def Qk{kvs:lX (κ×V)}{k:κ}(v:V)(h:Xe kvs k=none):Wj kvs k v=kvs++[(k,v)]:=by
 unfold Wj;rw[Bg,h];show ng (by lk)
def qp.isSome_eq(r:qp o u):o.isSome=u.isSome:=by
 cases o with
 | none=>cases u with
  | none=>rfl
  | some _=>show(show False from r).elim
 | some _=>cases u with
  | none=>show(show False from r).elim
  | some _=>rfl
def qp.getD(r:qp o u)(rd:Yg d d'):Yg (o.getD d) (u.getD d'):=by
 cases o with
 | none=>cases u with
  | none=>show rd
  | some _=>show(show False from r).elim
 | some _=>cases u with
  | none=>show(show False from r).elim
  | some _=>show r
def KV.val{kvs:lX (κ×V)}{vs:lX (κ×ma)}(r:KV kvs vs)(k:κ):qp (Xe kvs k) (valueAt vs k):=by
 unfold KV at r
 induction r with
 | nil=>show rL
 | @cons p q o y h t u =>
  obtain⟨w,s⟩:=h
  by_cases e:p.1=k
  ·have x:q.1=k:=w.symm.trans e;have b:valueAt (q ::y) k=some q.2:=by simp[valueAt,yG,x]
   rw[yT e,b];show s
  ·have x:¬q.1=k:=λz=>e<|w.trans z
   have b:valueAt (q ::y) k=valueAt y k:=by simp[valueAt,yG,x]
   rw[wa e,b];show u
def KV.any{kvs:lX (κ×V)}{vs:lX (κ×ma)}(r:KV kvs vs)(k:κ):(kvs.any λkv=>decide<|kv.1=k)=vs.any λkv=>decide (kv.1=k):=by
 unfold KV at r
 induction r with
 | nil=>rfl
 | cons h t z=>rw[xF,xF,z,h.1]
def KV.repl{kvs:lX (κ×V)}{vs:lX (κ×ma)}(r:KV kvs vs)(k:κ)(w:Yg y u) :
  KV (kvs.map λkv=>if kv.1=k then(kv.1,y)else kv) (vs.map λkv=>if kv.1=k then(kv.1,u)else kv):=by
 unfold KV at r ⊢
 induction r with
 | nil=>show .nil
 | @cons p q n l h t s =>
  rw[oq,oq];refine .cons ?_ s;obtain⟨x,o⟩:=h
  by_cases e:p.1=k
  ·rw[nj e,nj<|x.symm.trans e];show#[x,w]
  ·rw[ng e,ng λz=>e<|x.trans z];show#[x,o]
def KV.put{kvs:lX (κ×V)}{vs:lX (κ×ma)}(r:KV kvs vs)(k:κ)(z:Yg y u):KV (Wj kvs k y) (stored vs k u):=by
 unfold Wj stored;rw[r.any k]
 by_cases e:(vs.any λkv=>decide<|kv.1=k)=true
 ·rw[nj e,nj e];show r.repl k z
 ·rw[ng e,ng e];show Cb r #[rfl,z]
def KV.drop{kvs:lX (κ×V)}{vs:lX (κ×ma)}(r:KV kvs vs)(k:κ):KV (wA kvs k) (without vs k):=by
 unfold KV at r ⊢;unfold wA without
 induction r with
 | nil=>show .nil
 | @cons p q s o h t x =>
  obtain⟨y,w⟩:=h;rw[rB,rB]
  by_cases e:p.1=k
  ·have a:¬decide (p.1≠k)=true:=by simp[e]
   have b:¬decide (q.1≠k)=true:=by simp[y.symm.trans e]
   rw[ng a,ng b];show x
  ·have u:¬q.1=k:=λz=>e<|y.trans z
   have a:decide (p.1≠k)=true:=by simp[e]
   have b:decide (q.1≠k)=true:=by simp[u]
   rw[nj a,nj b];show .cons #[y,w] x
def KV.length{kvs:lX (κ×V)}{vs:lX (κ×ma)}(r:KV kvs vs):kvs.length=vs.length:=nW r
def Zzp(kvs:lX (κ×V))(k:κ):(wA kvs k).length<=kvs.length:=wW _ _
end
def vz(r:Yg (kV k) u):(Z4 P w).is k u=true:=by
 cases k with
 | inl i=>obtain⟨t,e⟩:=(show ∃t,u=Value.int i t from r);subst e;show Zs9 P w i t
 | inr x=>obtain⟨t,e⟩:=(show ∃t,u=Value.str x t from r);subst e;show Zrm P w x t
theorem Ef :∀{z:lX nI}{us:lX ma},Ya (z.map kV) us->ItemsAre (Z4 P w) z us
 | [],_,r=>by rw[uS]at r;cases r;show .nil
 | k ::z,_,r=>by
  rw[oq]at r;cases r with
  | cons h t=>show .cons (vz h)<|Ef t
abbrev KT(H:Hp):lX (lX nI×V)->lX (lX nI×lZ×ma)->Prop:=Paired λp q=>p.1=q.1/\H q.2.1=some (.tup<|p.1.map kV)/\Yg p.2 q.2.2
def KT.val(r:KT H kvs xs)(k:lX nI):qp (Xe kvs k) ((atKey xs k).map (·.2)):=by
 induction r with
 | nil=>show rL
 | @cons p q o y h t u =>
  obtain⟨w,_,s⟩:=h
  by_cases e:p.1=k
  ·have x:q.1=k:=w.symm.trans e;have b:atKey (q ::y) k=some q.2:=by simp[atKey,yG,x]
   rw[yT e,b];show s
  ·have x:¬q.1=k:=λz=>e<|w.trans z
   have b:atKey (q ::y) k=atKey y k:=by simp[atKey,yG,x]
   rw[wa e,b];show u
def KT.repl(r:KT H kvs xs)(k:lX nI)(s:Yg y u) :
  KT H (kvs.map λkv=>if kv.1=k then(kv.1,y)else kv) (xs.map<|putAt k u):=by
 induction r with
 | nil=>show .nil
 | @cons p q l j h t o =>
  rw[oq,oq];refine .cons ?_ o;obtain⟨x,w,n⟩:=h;unfold putAt
  by_cases e:p.1=k
  ·rw[nj e,nj<|x.symm.trans e];show#[x,w,s]
  ·rw[ng e,ng λz=>e<|x.trans z];show#[x,w,n]
def KT.put(r:KT H kvs xs)(k:lX nI)(x:H b=some (.tup<|k.map kV))(z:Yg y u) :
  KT H (Wj kvs k y) (storedH xs k b u):=by
 have e:(kvs.any λkv=>decide<|kv.1=k)=(atKey xs k).isSome:=by
  rw[Bg,(r.val k).isSome_eq,FQ]
 unfold Wj storedH;rw[e]
 by_cases q:(atKey xs k).isSome=true
 ·rw[nj q,nj q];show r.repl k z
 ·rw[ng q,ng q];show Cb r #[rfl,x,z]
def KT.keeps(r:KT H kvs xs)(x:∀b y,H b=some (.tup y)->w b=some (.tup y)):KT w kvs xs :=
 Paired.mapP r λ_ _ z=>#[z.1,x _ _ z.2.1,z.2.2]
section
def OD(ok:oz P w H h)(e:Rd H a u):Z7 P w H h a u:=e.ok ok
def ri(ok:oz P w H h)(e:Rd H a (.dK kvs)):kvs.length<=sizeLine/\(a ==sysModules)=false/\∃vs,KV kvs vs/\h.DictOf (Z4 P w) a vs :=
 show Z7 P w H h a (.dK kvs)from OD ok e
def Bb(ok:oz P w H h)(e:H a=some (.dK kvs)):kvs.length<=sizeLine/\(a ==sysModules)=false/\∃vs,KV kvs vs/\h.DictOf (Z4 P w) a vs:=ri ok<|.inl e
def zc(ok:oz P w H h)(e:H a=some (.tup<|z.map kV)):(tupleKind<|Z4 P w).is h z a:=by
 obtain⟨_,y,r,o,x,u,n,s⟩:=(show Z7 P w H h a (.tup<|z.map kV)from ok a _ e)
 show#[o,y.toArray,n,x,u,s,by simpa using Ef r]
def xc(ok:oz P w H h)(e:Rd H a (.dT kvs)):kvs.length<=sizeLine/\(a ==sysModules)=false/\
  ∃xs,KT H kvs xs/\h.DictOfH (tupleKind<|Z4 P w) a xs:=by
 obtain⟨z,y,xs,r,o,n,j,i,g,d,c,Y⟩:=(show Z7 P w H h a (.dT kvs)from OD ok e)
 refine#[z,y,xs,r,o,n,j,i,g,d,c,λx u=>?_,Y];have all:∀{l:lX (lX nI×V)}{m:lX (lX nI×lZ×ma)},KT H l m->∀x∈m,(tupleKind<|Z4 P w).is h x.1 x.2.1:=by
  intro l m q
  induction q with
  | nil=>intro x u;show nomatch u
  | @cons p q Q N s t U =>
   intro x u;rcases oh.mp u with e|u
   ·subst e;show zc ok (by rw[<-s.1];show s.2.1)
   ·show U x u
 show all r x u
def MO(ok:oz P w H h)(e:H a=some (.dT kvs)):kvs.length<=sizeLine/\(a ==sysModules)=false/\
  ∃xs,KT H kvs xs/\h.DictOfH (tupleKind<|Z4 P w) a xs:=xc ok<|.inl e
end
def Wc(H:Hp)(a:lZ)(y:V)(r:me V):Prop :=
 (∃z k,Rd H a (.dK z)/\y=kV k/\r=Xe z k)\/∃z k b,Rd H a (.dT z)/\y=.ref b/\H b=some (.tup<|k.map kV)/\r=Xe z k
def qL(H:Hp)(a:lZ)(y v:V)(x:Hp):Prop :=
 (∃z k,H a=some (.dK z)/\y=kV k/\z.length<sizeLine/\x=mT H a (.dK<|Wj z k v))\/
 ∃z k b,H a=some (.dT z)/\y=.ref b/\H b=some (.tup<|k.map kV)/\z.length<sizeLine/\x=mT H a (.dT<|Wj z k v)
def Wc.k{H:Hp}{a:lZ}{kvs:lX (nI×V)}{k:nI}(e:H a=some (.dK kvs)):Wc H a (kV k) (Xe kvs k):=.inl #[kvs,k,.inl e,rfl,rfl]
def Wc.t{H:Hp}{a b:lZ}{kvs:lX (lX nI×V)}{k:lX nI}(e:H a=some (.dT kvs))(z:H b=some (.tup<|k.map kV)):Wc H a (.ref b) (Xe kvs k):=.inr #[kvs,k,b,.inl e,rfl,z,rfl]
def qL.k{H:Hp}{a:lZ}{kvs:lX (nI×V)}{k:nI}{v:V}(e:H a=some (.dK kvs))(z:kvs.length<sizeLine):qL H a (kV k) v (mT H a<|.dK<|Wj kvs k v):=.inl #[kvs,k,e,rfl,z,rfl]
def qL.t{H:Hp}{a b:lZ}{kvs:lX (lX nI×V)}{k:lX nI}{v:V}(e:H a=some (.dT kvs))(z:H b=some (.tup<|k.map kV))(y:kvs.length<sizeLine) :
  qL H a (.ref b) v (mT H a<|.dT<|Wj kvs k v):=.inr #[kvs,k,b,e,rfl,z,y,rfl]
section
variable {E:ma->md->Prop}
def mS.big(I:mS X y z H s):sysModules<#v[s]:=by
 have h:mainGlobals<#v[s]:=(I.mod.glob.keeps I.bk).lt;show uq (by lk) h
def Uc{Q:ma->md->Prop}(U:A.units+1<cLine)(I:mS X N z H s)(g:Wc H a y (some v))(Y:Yg y u)(h:∀w s',mS X N z H s'->Yg v w->Q w s') :
  wpAny (model X.prog X.w) A (getItem (.ref a) u) Q E s:=by
 rcases g with⟨r,k,e,q,l⟩|⟨r,k,b,e,q,M,l⟩
 ·subst q;obtain⟨x,hd,p,n,j⟩:=ri I.hok e;obtain⟨w,i,d⟩:=qp.some_of (v:=v) (o:=valueAt p k) (by rw[l];show n.val k);show wpAny_getItem_of (vz Y) j.mapOf i<|h w _ (I.tok _) d
 ·subst q;cases(show u=Value.ref b from Y);obtain⟨x,hd,L,n,j⟩:=xc I.hok e;obtain⟨w,i,d⟩:=qp.some_of (v:=v) (o:=(atKey L k).map (·.2)) (by rw[l];show n.val k);obtain⟨p,J,c⟩:=oo.mp i;refine wpAny_getItem_heap (yb U) (zc I.hok M) j J ?_;rw[c];show h w _ (I.tok _) d
def Yjp{Q:ma->md->Prop}(i:A.units+1<cLine)(I:mS X d z H s)(g:Wc H a y o)(j:Yg y u)(h:∀s',mS X d z H s'->Q (.bool o.isSome) s') :
  wpAny (model X.prog X.w) A (compareOp .In u<|.ref a) Q E s:=by
 rcases g with⟨w,k,e,r,l⟩|⟨w,k,b,e,r,c,l⟩
 ·subst r;obtain⟨x,hd,q,p,n⟩:=ri I.hok e;refine wpAny_in_of (vz j) hd n.mapOf ?_;rw[<-(p.val k).isSome_eq,<-l];show h _<|I.tok _
 ·subst r;cases(show u=Value.ref b from j);obtain⟨x,hd,Y,p,n⟩:=xc I.hok e;refine wpAny_in_heap (yb i) (zc I.hok c) hd n ?_;have q:=(p.val k).isSome_eq;rw[FQ]at q;rw[<-q,<-l];show h _<|I.tok _
def Tj{Q:ma->md->Prop}(i:A.units+1<cLine)(I:mS X d z H s)(g:Wc H a y o)(j:Yg y u)(h:∀s',mS X d z H s'->Q (.bool (!o.isSome)) s') :
  wpAny (model X.prog X.w) A (compareOp .NotIn u<|.ref a) Q E s:=by
 rcases g with⟨w,k,e,r,l⟩|⟨w,k,b,e,r,c,l⟩
 ·subst r;obtain⟨x,hd,q,p,n⟩:=ri I.hok e;refine wpAny_notIn_of (vz j) hd n.mapOf ?_;rw[<-(p.val k).isSome_eq,<-l];show h _<|I.tok _
 ·subst r;cases(show u=Value.ref b from j);obtain⟨x,hd,Y,p,n⟩:=xc I.hok e;refine wpAny_notIn_heap (yb i) (zc I.hok c) hd n ?_;have q:=(p.val k).isSome_eq;rw[FQ]at q;rw[<-q,<-l];show h _<|I.tok _
def Gi(I:mS X u z H s)(r:AJ (H a))(p:Heap.SameBut a s.heap h')(o:∃q,h'.get? a=some q)(new:Z7 X.prog X.w (mT H a w) h' a w) :
  mS X u z (mT H a w) {s with heap:=h',toks:=t'} :=
 I.write (x:=a) (e:=a) r (.inl rfl) (λb q n y=>(p.2 b n).trans y) o new
def zO(z:kvs.length<=sizeLine)(hd:(a ==sysModules)=false)(y:KV kvs vs)(dd:h'.DictOf (Z4 P w) a vs) :
  Z7 P w x h' a (.dK kvs):=#[z,hd,vs,y,dd]
def XB{Q:Unit->md->Prop}(C:A.units+1<cLine)(I:mS X B z H s)(g:qL H a y v H')(M:Yg y u)(L:Yg v r)(h:∀s',mS X B z H' s'->Q () s') :
  wpAny (model X.prog X.w) A (setItem (.ref a) u r) Q E s:=by
 rcases g with⟨w,k,e,j,l,i⟩|⟨w,k,b,e,j,J,l,i⟩
 ·subst j i;obtain⟨x,hd,c,o,d⟩:=Bb I.hok e;have Y:c.length<=sizeLine:=by rw[<-o.length];show x
  have U:(Wj w k v).length<=sizeLine:=by have:=BZ w k v;lia
  refine wpAny_setItem_pairs (hsz:=Y) (vz M) d λG p N=>h _ ?_
  have D:∃q,G.get? a=some q:=let⟨q,_,_,n,_⟩:=p;#[q,n];show Gi I (by rw[e];show rL) N D<|zO U hd (o.put k L) p
 ·subst j i;cases(show u=Value.ref b from M);obtain⟨x,hd,xs,o,d⟩:=MO I.hok e;have Y:xs.length<=sizeLine:=by rw[<-nW o];show x
  have U:(Wj w k v).length<=sizeLine:=by have:=BZ w k v;lia
  refine wpAny_setItem_heap (hsz:=Y) (yb C) (zc I.hok J) d λG p N=>h _ ?_
  obtain⟨q,es,ep,n,h2,h3,h4,_,h5⟩:=p;refine Gi I (by rw[e];show rL) N #[q,n] #[U,hd,_,(o.put k J L).keeps λc ys D=>?_,q,es,ep,n,h2,h3,h4,h5];rw[Zd (Nz D e (λx=>nomatch x))];show D
def Yhz{Q:ma->md->Prop}(I:mS X w z H s)(e:Rd H a (.dK kvs))(h:∀t s',mS X w z H s'->Q (.int kvs.length t) s'):wpAny (model X.prog X.w) A (call (.builtin "len") [.ref a]) Q E s:=by
 obtain⟨y,hd,r,x,u⟩:=ri I.hok e;refine call_len_dict hd u (by rw[<-x.length];rw[tR]at y;lia) ?_;rw[<-x.length];show h _ _<|I.tok _
end
def Kg(i:ml):Prop:=∀z y,subscripted i false z y=operate [z,y] (getItem z y)
def XJ{prog:mn}{w:mj}{A:mo}{E:ma->md->Prop}{s:md}{env:Env}{value slice:ml}{pos:Pos}{T id:String}{Q:ma->md->Prop}
  (l:typeLookup (.type T) "__getitem__"=pure (some<|.builtin id)) (j:Kg slice)
  (h:wpAny (model prog w) A (eval value env) (λo q=>wpAny (model prog w) A (eval slice env) (λi y=>y.TypeIs o T/\wpAny (model prog w) A (getItem o i) Q E y) E q) E s) :
  wpAny (model prog w) A (eval (.Subscript value slice pos) env) Q E s:=by
 refine Subscript_<|pX h (λo q z=>pX z (λi y u=>?_) λ_ _ x=>x) λ_ _ x=>x;obtain⟨p,u⟩:=u;unfold subscriptTail;refine mU ?_;rw[getitemInPython_of_ne p.not_modules];refine mU<|Hv p l ?_;have fin:wpAny (model prog w) A (subscripted slice false o i) (λr n=>wpAny (model prog w) A (letTemporaryGo value o r >>=λ_=>pure r) Q E n) E y:=by
  rw[j o i];show wpAny_operating<|pX u (λr n z=>mU<|wpAny_letTemporaryGo<|nk z) λ_ _ x=>x
 first
  | show nk (mU fin)
  | show mU (nk<|mU fin)
  | show mU fin
def WG(I:mS X u z H s)(g:Wc H a y o):s.TypeIs (.ref a) "dict":=by
 rcases g with⟨x,k,e,_,_⟩|⟨x,k,b,e,_,_,_⟩
 ·obtain⟨_,_,r,_,w⟩:=ri I.hok e;show w.typeIs
 ·obtain⟨_,_,r,_,w⟩:=xc I.hok e;show w.typeIs
inductive Cv(H:Hp)(y:V)(Q:VK):V->Prop
 | mk {a v}:Wc H a y (some v)->Q v H->Cv H y Q (.ref a)
def ZS(w u:TE):TE:=λz H Q=>w z H λx s=>u z s λy r=>Cv r y Q x
inductive Os(H:Hp)(y v:V)(k:Hp->Prop):V->Prop
 | mk {a H4}:qL H a y v H4->k H4->Os H y v k (.ref a)
def UP(w u s:TE):TS:=λD z H=>s z H λv r=>w z r λx q=>u z q λy p=>Os p y v (D.nx z) x
def vB(q:X.A.units+1<cLine)(p:PE X o n)(l:PE X i j)(e:Kg i):PE X (.Subscript o i pos) (ZS n j):=by
 intro w s z H Q I h;refine XJ PySem.F.slot_dict_getitem.lookup e<|ny (p w s z H _ I h) λu y ⟨x,d,c,Y,U⟩=>ny (l w y z d _ c U) λG E N=>?_;obtain⟨y,M,r,L,@⟨a,v,g,J⟩⟩:=N;obtain rfl:u=Value.ref a:=Y;show#[WG r g,Uc q r g L λd c y x=>#[v,M,y,x,J]]
def tS(q:X.A.units+1<cLine)(p:PE X o n)(l:PE X i j)(e:PE X value d)(c:swapsWith value (some<|.Subscript o i Y) pos.line X.env=pure false) :
  PS X (.Assign [.Subscript o i Y] value pos) (UP n j d):=by
 intro w s z H D I h;refine wpAny_Assign_Subscript (ny (e w s z H _ I h) λr y ⟨v,U,Q,N,M⟩=>ny (p w y z U _ Q M) λu L ⟨x,J,G,E,C⟩=>ny (l w L z J _ G C) λiv s3 B=>?_) c;obtain⟨y,x,A,ry,@⟨a,H4,g,q3⟩⟩:=B;obtain rfl:u=Value.ref a:=E;show XB q A g ry N λs4 I4=>#[z,H4,I4,q3]
def Zyr(h:mi)(z:sysModules<h.objs.size):Z7 P w H (h.push {cls:=.type "dict",data:=.dict #[]}) h.objs.size (.dK []) :=
 #[rR _,sO.mpr<|oW<|oi z,[],.nil,Heap.DictOf.new h]
def Zys(h:mi)(z:sysModules<h.objs.size):Z7 P w H (h.push {cls:=.type "dict",data:=.dict #[]}) h.objs.size (.dT []) :=
 #[rR _,sO.mpr<|oW<|oi z,[],.nil,_,#[],0,oG _ rfl,#[rfl,rfl,rfl],rfl,rfl,uw]
def Yet:TE:=λ_ H Q=>∀p,H p=none->Q (.ref p) (mT H p<|.dK [])
def Yf6:TE:=λ_ H Q=>∀p,H p=none->Q (.ref p) (mT H p<|.dT [])
def SB:PE X (.Dict [] [] pos) Yet:=λy s z H Q I h =>
 wpAny_Dict_empty #[.ref #v[s],_,I.laid (a:=#v[s]) (o:=.dK []) (t':=s.toks) (λ_ _ q=>nZ _ q) (nK _)<|Zyr s.heap I.big,rfl,h _<|I.hok.fresh<|nK _]
def Tp:PE X (.Dict [] [] pos) Yf6:=λy s z H Q I h =>
 wpAny_Dict_empty #[.ref #v[s],_,I.laid (a:=#v[s]) (o:=.dT []) (t':=s.toks) (λ_ _ q=>nZ _ q) (nK _)<|Zys s.heap I.big,rfl,h _<|I.hok.fresh<|nK _]
def yK(kvs more:lX (nI×V)):lX (nI×V):=more.foldl (λz kv=>Wj z kv.1 kv.2) kvs
def KV.merge:∀{more:lX (nI×V)}{z:lX (nI×ma)}{kvs:lX (nI×V)}{vs:lX (nI×ma)},KV more z->KV kvs vs->KV (yK kvs more) (merged vs z):=by
 intro more z kvs vs r;unfold KV at r
 induction r generalizing kvs vs with
 | nil=>intro q;show q
 | @cons p q w u h t y =>
  intro x;have e:KV (Wj kvs p.1 p.2) (stored vs q.1 q.2):=by
   have:=x.put p.1 h.2;rw[<-h.1];show this
  show y e
theorem LO:∀(more kvs:lX (nI×V)),(yK kvs more).length<=kvs.length+more.length
 | [],kvs=>by change kvs.length<=kvs.length+0;lia
 | p ::r,kvs=>by
  have z:=LO r<|Wj kvs p.1 p.2;have y:=BZ kvs p.1 p.2;change(yK (Wj kvs p.1 p.2) r).length<=_;rw[pJ];lia
structure M1(X:Cx)(o:Expr)(m:Str)(u5:Pos)(e:Expr)(j7:Pos):Prop where
 mM:attributeBase o m X.env (eval o X.env)=eval o X.env
 few:((backTo j7<|starEach [e] X.env).all (λx=>!x.1) && (backToKw j7<|keywordEach [] X.env).all (λx=>x.1.isSome)
  && decide (([e]:List Expr).length+([]:List Keyword).length+(if([]:List Keyword).isEmpty then 0 else 1)<30))=true
 line:(u5.endLine ==j7.line)=true
 trees:backTo j7 (starEach [e] X.env)=[(false,eval e X.env)]
structure M2(X:Cx)(o:Expr)(m:Str)(u5:Pos)(e f:Expr)(j7:Pos):Prop where
 mM:attributeBase o m X.env (eval o X.env)=eval o X.env
 few:((backTo j7<|starEach [e,f] X.env).all (λx=>!x.1) && (backToKw j7<|keywordEach [] X.env).all (λx=>x.1.isSome)
  && decide (([e,f]:List Expr).length+([]:List Keyword).length+(if([]:List Keyword).isEmpty then 0 else 1)<30))=true
 line:(u5.endLine ==j7.line)=true
 trees:backTo j7 (starEach [e,f] X.env)=[(false,eval e X.env),(false,eval f X.env)]
def Dl(H:Hp)(a:lZ):Prop:=(∃z,Rd H a<|.dK z)\/∃z,Rd H a<|.dT z
def Hq(I:mS X p z H s)(d:Dl H a) :
  s.TypeIs (.ref a) "dict"/\(∀b,Value.ref a=.ref b->∃y,s.heap.get? b=some y/\y.dict=none)/\(a ==sysModules)=false:=by
 rcases d with⟨w,e⟩|⟨w,e⟩
 ·obtain⟨_,hd,o,_,x⟩:=ri I.hok e;refine#[x.typeIs,λb q=>?_,hd];cases q;obtain⟨y,_,_,u,r,_⟩:=x;show#[y,u,r.2.1]
 ·obtain⟨_,hd,o,_,x⟩:=xc I.hok e;refine#[x.typeIs,λb q=>?_,hd];cases q;obtain⟨y,_,_,u,r,_⟩:=x;show#[y,u,r.2.1]
section
variable {E:ma->md->Prop}
def Ygp{Q:ma->md->Prop}(c:A.units+1<cLine)(I:mS X Y z H s)(g:Wc H a y o)(j:Yg y u)(rd:Yg d r)(h:∀i s',mS X Y z H s'->Yg (o.getD d) i->Q i s') :
  wpAny (model X.prog X.w) A (call (.builtin "dict.get") [.ref a,u,r]) Q E s:=by
 rcases g with⟨q,k,e,p,l⟩|⟨q,k,b,e,p,U,l⟩
 ·subst p;obtain⟨x,hd,N,n,w⟩:=ri I.hok e;refine zd FT w.typeIs Mh (QW _ _ _) (meets_dict_get_default (Z4 X.prog X.w) a (vz j) hd r) #[_,w.mapOf,h _ _ (I.tok _) ?_];rw[l];show(n.val k).getD rd
 ·subst p;cases(show u=Value.ref b from j);obtain⟨x,hd,N,n,w⟩:=xc I.hok e;refine zd FT w.typeIs Mh (QW _ _ _) (meetsH_dict_get_default (tupleKind<|Z4 X.prog X.w) a b hd r) #[yb c,k,N,zc I.hok U,w,h _ _ (I.tok _) ?_];rw[l];show(n.val k).getD rd
end
def Ygo(r q p:TE):TE:=λz H Q=>r z H λx u=>∃a,x=.ref a/\Dl u a/\q z u λy n=>p z n λw s=>∃o,Wc s a y o/\Q (o.getD w) s
def xP(q:X.A.units+1<cLine)(p:PE X o n)(l:PE X e j)(i:PE X f c)(m:M2 X o "get" Y e f U):PE X (.Call (.Attribute o "get" Y) [e,f] [] U) (Ygo n j c):=by
 intro w s z H Q I h;refine Fg m.mM m.few m.line Bu FT PySem.F.type_dict_get<|ny (p w s z H _ I h) λu N M=>?_;obtain⟨x,L,r,J,a,G,d,E⟩:=M;subst G;obtain rfl:u=Value.ref a:=J;obtain⟨D,C,_⟩:=Hq r d;refine#[D,C,?_];rw[m.trees];refine xD rfl (zR (wk (ny (l w N z L _ r E) λiv x ⟨y,B,A,ry,q2⟩ =>
  wk (ny (i w x z B _ A q2) λfv s3 ⟨y,H3,I3,rz,ov,g,q3⟩=>yj ?_))))
 show Ygp q I3 g ry rz λw' s4 I4 D3=>#[_,H3,I4,D3,q3]
section
variable {E:ma->md->Prop}
def Sj{Q:ma->md->Prop}(I:mS X r z H s)(e:Rd H a (.dK kvs))(h:∀p s',H p=none->mS X r z (mT H p<|.dK kvs) s'->Q (.ref p) s'):wpAny (model X.prog X.w) A (call (.type "dict") [.ref a]) Q E s:=by
 obtain⟨y,hd,q,w,n⟩:=ri I.hok e;refine kt_call_dict hd n (by rw[<-w.length];show y) λj x l=>?_
 refine h _ _ (I.hok.fresh<|nK _)<|I.laid (a:=#v[s]) (o:=.dK kvs) (t':=s.toks) (λb q u=>?_) (nK _)<|zO y (sO.mpr<|oW<|oi I.big) w x;show(l.2 b<|oi<|nS u).trans (nZ _ u)
end
end L2
namespace Att
open PySem PySem.W PySem.Calls PyProof.Rows
def WY :∀(ns:lX Int)(vs:lX ma),WellAll P h vs (ns.map WData.int)->IntsAre vs ns:=by
 intro ns
 induction ns with
 | nil =>
  intro vs w;rw[uS]at w;cases w;show .nil
 | cons n ns z =>
  intro vs w;rw[oq]at w;cases w with
  | cons a b =>
   cases a;show .cons _ _<|z _ b
def Zx8{l:OpenLaw}{n:Nat}(p:l.most=some n){P:Params}{h:mi}{args:lX WData}{vals:lX ma}
  (z:l.row.toRowW.claim.pre args=true) (w:WellAll P h vals args) :
  ∃a vs ns,vals=[Value.ref a]/\args=[WData.list (ns.map WData.int)]/\h.get? a=some {cls:=.type "list",data:=.seq vs.toArray}/\IntsAre vs ns/\ns.length<=n:=by
 have u:WShape.hasAll [] args [.list .int]=true:=(pre_splitW z).1;have s:l.pre.holds [] {args:=args}=true:=(pre_splitW z).2;obtain⟨d,r,rfl,o,j⟩:=hasAllW_cons u;obtain rfl:=hasAllW_nil j;obtain⟨r,rfl,i⟩:=hasW_list o;obtain⟨ns,rfl⟩:=items_int i;have g:ns.length<=n:=by
  unfold OpenLaw.pre at s;have y:(WTm.not<|.lt (.lit<|.int (n:Int))<|.len<|.arg 0).holds [] {args:=[.list (ns.map .int)]}=true:=by
   have y:=(holds_andW s).1;rw[p]at y;show y
  have x:=condW_of y<|w_not<|w_lt w_lit<|w_len_list<|w_arg rfl;rw[mV]at x;refine Nat.le_of_not_lt λq=>?_
  have e:(n:Int)<((ns.length:Nat):Int):=by lia
  first
   | (rw[og e]at x;show absurd x<|by lk)
   | (simp at x;lia)
 cases w with
 | cons r d =>
  cases d;cases r with
  | list c Y=>show#[_,_,ns,rfl,rfl,c,WY ns _ Y,g]
def Zw3(l:OpenLaw)(args:lX WData):l.row.toRowW.claim.post args (.bool true) args=true :=
 postW_of (r:=l.row.toRowW) (X:=(true ==true))
  (show WShape.has [] (.bool true) .bool=true by first|rfl|decide|simp[WShape.has,WShape.arms,WShape.armsAll])
  (show(WTm.eq .res<|.lit<|.bool true).value [] {args:=args,res:=some<|.bool true,after:=args}=some (.bool<|true ==true)from w_eq_bool (w_res rfl) w_lit) rfl
def attach_call{l:OpenLaw}{n:Nat}{q:mn}{Q:lX lY}{N:(lY->me ma)->mi->Prop}{M:mj->mi->Prop}{d:DefRec}
  (I:l.most=some n) (j:d.params.defaults=[])
  (call:∀(w:mj)(i z:md)(s h:lY->me ma)(y:lZ)(o:Obj)(g p e:ma)(a:lZ)(vs:lX ma)(ns:lX Int),
   Ground q Q [] N w i s h z.heap->M w z.heap->
   z.heap.get? y=some o->o.data=.func (docDef d.name d.params d.body d.scope g p e)->z.heap.CodeRec p d.name->s d.name=some (.ref y)->
   z.heap.get? a=some {cls:=.type "list",data:=.seq vs.toArray}->IntsAre vs ns->ns.length<=n->z.gens=#[]->
   codeAny (model l.prog w) callerA (.call (.ref y) #[[.ref a],[]]) (λr s'=>r=.ok (.ret<|.bool true)/\OldK z.heap s'.heap/\s'.os=z.os/\AllBare s'.gens) z) :
  WalkO q Q N M l.row.toRowW d [] (λf vs=>PySem.call f vs):=by
 intro w i z s h G Y y o g p e H kV E hd D L c C args vals as x J B U T2;obtain rfl:H=.none:=Dflts.none L j;obtain rfl:kV=.none:=Dflts.noKw L;obtain⟨a,vs,ns,rfl,rfl,u,A,g8⟩:=Zx8 I x U;refine enter_call<|uh (call w i z s h y o g p e a vs ns G Y E (fd_plain hd) D c u A g8 C) λr s' hq=>?_;obtain⟨rfl,h2,h3,h4⟩:=hq;show#[.inl #[.bool true,.bool true,[],rfl,λ_=>rfl,.bool true,Zw3 l _,λ_=>#[List.Pairwise.nil,λ_ hm=>(nomatch hm)]],h2,h3,h4]
end Att
namespace L2
open PySem PySem.Spec PyProof.Rows
def Zwn{vs:lX ma}{ns:lX Int}(h:IntsAre vs ns):Ya (ns.map V.int) vs:=by
 induction h with
 | nil=>show .nil
 | cons n t _ h=>show .cons #[t,rfl] h
end L2
/- THE LAST THEOREM (shape;LID,My.* are yours):
   My.Adr:a structure of the addresses that your layer names (classes,functions);My.Txt K t:a structure (Prop) of the equations over K;
   My.txt_mk:{K} {implicit addresses ..} (e1:nsIn K mainGlobals "law"=some (some<|.ref f)) (e2:K.lookup f=some #[oc,od,.func<|fnOf "law" "law" params body scope dV kV A4 pm an d6 ct,sl]) (e3:codeIn K d6 "law"=true) .. :∃t,My.Txt K t
(the tactic k_is has no namespace:write k_is) -/
namespace L2
open PySem PySem.Spec PyProof.Rows
def Z5(s:mh)(j:Nat):mh:=match s with
 | .ClassDef _ _ _ body _ _ _ _ _ _ _=>body.getD j (.Pass #[0,0,0,0])
 | _=>.Pass #[0,0,0,0]
def Wz(s:mh):Arguments:=match s with
 | .FunctionDef _ a _ _ _ _ _ _ _ _=>a
 | _=>{posonlyargs:=[],args:=[],vararg:=none,kwonlyargs:=[],kw_defaults:=[],kwarg:=none,defaults:=[]}
def Y1(s:mh):lX mh:=match s with
 | .FunctionDef _ _ b _ _ _ _ _ _ _=>b
 | _=>[]
def Zj(s:mh):Scope:=match s with
 | .FunctionDef _ _ _ _ _ _ z _ _ _=>z
 | _=>{kind:=.function,names:=[],isGenerator:=false,isCoroutine:=false}
abbrev ph:vf:=λ_ _ _ _ _ _=>False
abbrev E0:XK:=λ_ _ _=>False
def Z0:tO ph X E0:=λ_ _ _ _ _ _ _ h=>h.elim
structure qX(K:Frag)(x qual:Str)(st:Stmt)(f:Addr)(fd:FuncData):Prop where
 ex:∃(oc:Value)(od:Option Addr)(kV A4 pm:Value)(an:Option Addr)(d6 ct:Value)(N6:Array (Option Value)),
  fd=fnOf x qual (Wz st) (Y1 st) (Zj st) .none kV A4 pm an d6 ct/\K.lookup f=some #[oc,od,.func fd,N6]/\codeIn K d6 qual=true
 kp:keepIn K (.ref f)=true
section
variable {P:mn} {w:mj} {K:mf} {mg:lY->me ma} {mM:mi}
def qX.ok{x qual:lY}{st:mh}{f:lZ}{fd:mq}{N ps:lX lY}{k:Nat}{y:Sp}(F:qX K x qual st f fd)(S:Zy N ps (Zj st))(len:∀vs H Q E,y vs H Q E->vs.length=ps.length)
  (r:∀(z:ma)(A:mo)(u:lX Env)(s:md)(H:Hp)(vs:lX V)(Q:VK)(E:XK),Y0 k (A.deeper<|envOfC qual (Zj st) #v[s] f z)->y vs H Q E->
   ∃t,qV (W8 ph P w K mg mM N qual (Zj st) f z A u s H E).nox (Y1 st) t/\t {nx:=λ_ p=>Q .non p,rt:=Q} (start N vs) H):Xm P w K mg mM ph (k+1) f fd ps y:=by
 obtain⟨j,i,kV,g,e,d,z,c,a,rfl,lk,o⟩:=F.ex;refine Dj lk o S len λA u s H vs Q E n l=>?_
 obtain⟨t,h,q⟩:=r z A u s H vs Q E n l;show#[t,h.nox,q]
def qX.binds{x qual:lY}{st:mh}{f:lZ}{fd:mq}{ps:lX lY}(F:qX K x qual st f fd)
  (h:∀(kV z y:ma)(u:me lZ)(s r:ma)(us:lX ma),us.length=ps.length->bindArgs (fnOf x qual (Wz st) (Y1 st) (Zj st) .none kV z y u s r) #[us,[]]=pure (ps.zip us)):qG K fd ps []:=by
 obtain⟨q,p,kV,z,y,u,s,r,o,rfl,lk,n⟩:=F.ex;show .all<|h kV z y u s r
def FI{x qual:lY}{st:mh}{f:lZ}{q:ma}{od y:me lZ}{p:Array (me ma)}{kV u s z r:ma}(l:K.lookup f=some #[q,od,.func<|fnOf x qual (Wz st) (Y1 st) (Zj st) .none kV u s y z r,p])
  (c:codeIn K z qual=true) (k:keepIn K (.ref f)=true):qX K x qual st f (fnOf x qual (Wz st) (Y1 st) (Zj st) .none kV u s y z r):=#[#[q,od,kV,u,s,y,z,r,p,rfl,l,c],k]
end
def Xv(z:Y0 k A):A.units+1<cLine:=Fy (Nat.add_le_add_left (by lk:1<=64) _) z.units
def Zp(h:n<=1000):n<sizeLine:=Fy h (by lk)
variable {X:Cx}
def pv(i:Nat)(z:X.N[i]? =some x:=by rfl)(y:Df X.env.scope x:=by first|show yP rfl|show zk (yP rfl)|show zk<|zk rfl)(hd:(x ==("__debug__":lY))=false:=by lk)
  (w:(x ==("__classdict__":lY))=false:=by lk):PE X (.Name x pos) (rJ i):=Ygd z y hd w
def UB:Y5 X (.builtin "len") (λxs H Q=>∃a kvs,xs=[V.ref a]/\H a=some (.dK kvs)/\Q (.int kvs.length) H):=by
 intro p s z H xs o Q I r h;obtain⟨a,kvs,rfl,y,q⟩:=h;obtain⟨u,rfl,x⟩:=Wr r;cases x;show Yhz I (.inl y) λt n w=>#[.int kvs.length,H,w,#[t,rfl],q]
def BE{A B:Prop}(h:B):if false=true then A else B:=by
 rw[ng oK];show h
def Yi7{A B:Prop}(h:A):if true=true then A else B:=by
 rw[nj rfl];show h
def Yl{c A B:Prop}[Decidable c](z:c->A)(y:¬c->B):if c then A else B:=by
 by_cases h:c
 ·rw[nj h];show z h
 ·rw[ng h];show y h
def mK(H z:Hp):Prop:=∀b o,H b=some o->z b=some o
def mK.refl(H:Hp):mK H H:=λ_ _ h=>h
def mK.trans(a:mK H z)(b:mK z y):mK H y:=λc o h=>b c o<|a c o h
def mK.free(e:mK H z)(h:z l=Option.none):H l=Option.none:=by
 cases q:H l with
 | none=>rfl
 | some o =>
  rw[e l o q]at h;cases h
def mK.seq{K:mf}{H z:Hp}{a:lZ}{xs:lX V}(e:mK H z)(h:SqL K H a xs):SqL K z a xs:=by
 rcases h with(h|⟨o,h⟩)|h
 ·show .inl<|.inl<|e _ _ h
 ·show .inl<|.inr #[o,e _ _ h]
 ·show .inr h
end L2
section
namespace L2
open PySem PySem.Spec PyProof.Rows
section
variable {R:Result->md->Prop}
def WD(I:Nat->md->Prop)
  (Q:∀n s,I n s->wpAny (model prog w) A (pyNext it) (λr j=>match r with
   | none=>R (.ok .next) j
   | some v=>wpAny (model prog w) A (letOwnedTupleGo i it v) (λ_ z=>wpAny (model prog w) A (assign i env v) (λ_ e =>
     wpAny (model prog w) A (forIn d true λc r=>if r=true then do let ok <-isTrue c env (eval c env);pure (ForInStep.yield ok)else pure (ForInStep.yield r)) (λok g =>
      if ok=true then wpAny (model prog w) A (eval a env) (λx u =>
       wpAny (model prog w) A (call (.builtin "list.append") [Y,x]) (λ_ q=>∃m,m<n/\I m q) (λ_ _=>False) u) (λ_ _=>False) g
      else ∃m,m<n/\I m g) (λ_ _=>False) e) (λ_ _=>False) z) (λ_ _=>False) j) (λ_ _=>False) s)
  (n:Nat) (h:I n s) :
  codeAny (model prog w) A (.compLoop (.ListComp a [#[i,N,d,0]] scope pos) 0 it Y env) R s:=by
 refine codeAny_loop rfl I (λn s M=>?_) n h;change wpAny _ A ((compTurn (.ListComp a [#[i,N,d,0]] scope pos) 0 it Y env).onRaise (λx=>do noteFrame x env;theTreesLotGoes x)) _ _ s;refine wpAny_noted ?_;rw[compTurn_list];refine mU<|Ag<|mU<|pX (Q n s M) (λr j p=>?_) λ_ _ y=>y.elim;cases r with
 | none=>show nk p
 | some v =>
  refine mU<|pX p (λ_ z o=>?_) λ_ _ y=>y.elim;refine mU<|pX o (λ_ e l=>mU<|pX l (λok g U=>?_) λ_ _ y=>y.elim) λ_ _ y=>y.elim;cases ok with
  | false=>show nk #[rfl,U]
  | true =>
   show mU<|mU<|pX U (λx u l=>mU<|pX l (λ_ q L=>nk<|nk #[rfl,L]) λ_ _ y=>y.elim) λ_ _ y=>y.elim
end
def Y6(X:Cx)(scope:Scope)(z:lX (lY×lZ))(y:lX lY)(s:md)(H:Hp)(C:lZ)(ex:lX lZ):Cx where
 prog:=X.prog
 w:=X.w
 K:=X.K
 mg:=X.mg
 mM:=X.mM
 A:=X.A
 N:=y
 mw:=s
 mz:=H
 env:=compEnvC scope z C X.env
 mJ:=X.stack
 stack:=X.stack
 ex:=ex
 fn:=λ_=>false
 calm:=X.calm
 pn:=[]
 xe:=λ_ _=>False
structure X9(X:Cx)(scope:Scope)(cl:List (Str×Addr))(N':List Str)(fr:St->St):Prop where
 kind:scope.kind=.function
 cell:∀y∈scope.names,y.2≠.cell
 names:∀y∈scope.names,y.2=.local->scope.names.lookup y.1=some .local
 clos:closureFor scope X.env=pure cl
 sub:∀x c,cl.lookup x=some c->X.env.cells.lookup x=some c
 has:∀x,((relabel scope X.env).names.lookup x=some .cell\/(relabel scope X.env).names.lookup x=some .free)->∃c,cl.lookup x=some c
 len:∀σ:St,σ.length=X.N.length->(fr σ).length=N'.length
 fr:∀(σ:St)(i:Nat)(x:Str)(v:V),N'[i]? =some x->(fr σ)[i]? =some (some v)->Df (relabel scope X.env) x->
  ((relabel scope X.env).names.lookup x=some .cell\/(relabel scope X.env).names.lookup x=some .free)/\
  (X.env.kindOf x=some .cell\/X.env.kindOf x=some .free)/\∃j:Nat,X.N[j]? =some x/\σ[j]? =some (some v)
def Wb(a b:St):Prop:=∀(i:Nat)(v:V),a[i]? =some (some v)->b[i]? =some (some v)
def Wb.set(h:a[i]? =some none):Wb a (a.set i<|some v):=λj u e=>by
 by_cases z:i=j
 ·subst z;rw[h]at e;cases e
 ·rw[Ep z];show e
def Wb.trans(h:Wb a b)(k:Wb b c):Wb a c:=λi v e=>k i v<|h i v e
def PF(X:Cx)(x:lX ml)(t:TT):Prop :=
 ∀(y:lX (lZ×Obj)) (s:md) (z:St) (H:Hp) (Q:Bool->Hp->Prop),mS X y z H s->t z H Q->
  ∅ (forIn x true λc r=>if r=true then do let ok <-isTrue c X.env (eval c X.env);pure (ForInStep.yield ok)else pure (ForInStep.yield r)) (TP X y z Q) X.xe s
def Bv:TT:=λ_ H Q=>Q true H
def Wi:PF X [] Bv:=λ_ _ _ H _ I h=>wpAny_tests_nil #[H,I,h]
def sS(h:PT X c t):PF X [c] t:=λy s z H Q I x=>wpAny_tests_one<|h y s z H Q I x
def sw(J:It)(fr:St->St)(g:TG)(n:TT)(l:TE)(Q:VK)(z:St)(j:Hp)(D:lZ):Prop :=
 ∃W:Nat->Nat->lX V->Hp->Prop,(∃m,W 0 m [] (mT j D<|.lst []))/\∀i m u H,W i m u H->
  (J.stop i H/\Q (.ref D) H)\/(J.go i H/\∃N:lX V->Hp->Prop,(∀s r,N s r->∃q,q<m/\W (i+1) q s r)/\
   ∀x r,J.yld i H x r->g x (fr z) r λw h=>Wb (fr z) w/\n w h λb p =>
    if b=true then l w p λy o=>o D=some (.lst u)/\u.length<sizeLine/\N (u++[y]) (mT o D<|.lst<|u++[y])else N u p)
def Bd(x:TI)(fr:St->St)(g:TG)(w:TT)(u:TE):TE:=λz H Q=>x z H λJ y=>∀D,y D=none->sw J fr g w u Q z y D
section
variable {X:Cx} {fr:St->St}
def Yda(I:mS X l z H s)(S:X9 X scope j i fr)(p:#v[s]<=C)(r:∀b∈n,uc X l H b)(g:∀b∈n,∃o,s.heap.get? b=some o):(Y6 X scope j i s H C n).Ok where
 mod:=I.ok.mod
 kind:=S.kind
 glob:=I.ok.glob
 blt:=I.ok.blt
 above:=p
 inj:=λx y c d a=>I.ok.inj x y c (S.sub x c d) (S.sub y c a)
 has:=λx h=>S.has x h
 cab:=λx c h=>absurd (show false=true from h) oK
 hd:=I.ok.hd
 frames:=I.ok.frames
 stk:=.inl rfl
 exf:=λb u=>by
  obtain⟨o,e⟩:=g b u;refine#[oi<|pF (nS e) p,λx c h=>(r b u).2.2.2.2.1 x c (S.sub x c h)]
 bs:=I.bs
 bsz:=oy I.ok.bsz I.sz
 noex:=λb o e u=>by
  rcases(r b u).2.2.2.1 with w|w
  ·show I.ok.noex b o e w
  ·show absurd (pF (nS e)<|oy I.ok.bsz w) (rf _)
 exfs:=λb u w=>by
  rcases oh.mp (I.stkSub b w)with q|q
  ·show(r b u).2.1 q
  ·show(r b u).2.2.1 q
 funs:=I.stack
 frf:=I.stkFree
def Zt9{h:lY->me ma}(I:mS X J z H s)(S:X9 X scope G E fr)(a:#v[s]<C)(g:D=#v[s])(B:∀b∈U,uc X J H b)(A:∀b∈U,∃o,s.heap.get? b=some o)
  (n:∀b o,s.heap.get? b=some o->w.get? b=some o) (hl:w.get? D=some {cls:=.type "list",data:=.seq ([]:lX ma).toArray 0}) (hn:w.Ns C h) (hCz:w.objs.size<=C+1) :
  mS (Y6 X scope G E s H C U) [] (fr z) (mT H D<|.lst []) {s with heap:=w,toks:=tk}:=by
 have fD:H D=none:=I.hok.fresh<|xr g.symm;have fC:H C=none:=I.hok.fresh<|pU a;have Y:D≠C:=by rw[g];show oi a
 refine#[Yda I S (pU a) B A,rfl,I.bare,Un.laid n (xr g.symm) fD,#[h,hn,λi x v e1 e2 e3=>?_],λx c e=>?_,?_,λx c e=>?_,λp u=>absurd (show p∈([]:lX (lZ×Obj))from u) (by simp),?_,S.len z I.len]
 ·obtain⟨Q,N,j,j1,j2⟩:=S.fr z i x v e1 e2 e3;obtain⟨c,M⟩:=S.has x Q;have O9:=S.sub x c M;obtain⟨m,_,p⟩:=I.loc;obtain⟨u,r,l⟩:=p j x v j1 j2 (by rcases N with k|k;show .inr<|.inl k;show .inr<|.inr k);refine#[u,r,.inr #[Q,c,M,?_]];rcases l with⟨k,_⟩|⟨_,c2,L,o,y,d⟩
  ·rcases N with q|q<;>(rw[k]at q;cases q)
  ·rw[O9]at L;cases L;show#[o,n _ _ y,d]
 ·obtain⟨v,o,y,d⟩:=I.cell x c<|S.sub x c e;show#[v,o,n _ _ y,d]
 ·change mT H D (.lst []) C=none;rw[Zd Y.symm];show fC
 ·change mT H D (.lst []) c=none;rw[Zd (λy=>?_)]
  ·show I.freeC x c<|S.sub x c e
  ·obtain⟨v,o,q,d⟩:=I.cell x c<|S.sub x c e;have:=nS q;rw[y,g]at this;show rf _ this
 ·show I.hok.laid n (xr g.symm) #[rR _,[],0,.nil,hl]
def OU(I:mS X h z H s)(d:#v[s]<C)(a:∀b∈p,uc X h H b)(J:mS (Y6 X scope D B s H C p) [] (fr z) x s2)(l:Heap.SameBut C s2.heap h') :
  mS X h z x {s2 with heap:=h'}:=by
 have g:x C=none:=J.free;have u:Un (oS X.stack) p H x s.heap s2.heap:=J.mM;have j:∀b o,s.heap.get? b=some o->b≠C:=λb o e=>oi<|uq (nS e) d
 have Y:Un (oS X.stack) p H x s.heap h':=by
  refine#[λb o e n w r=>?_,λb o e n w r=>?_,u.free,λb o e r=>?_,u.tups,u.frzs,u.tbls]
  ·rw[l.2 b (j b o e)];show u.keep b o e n w r
  ·obtain⟨U,q⟩:=u.slot b o e n w r;show#[U,by rw[l.2 b (j b o e)];show q]
  ·obtain⟨U,q⟩:=u.there b o e r;show#[U,by rw[l.2 b (j b o e)];show q]
 have i:oz X.prog X.w x h':=λb o e=>by
  refine(J.hok b o e).stay (λc v Q q=>?_) (λ_ q=>q) λ_ _ q=>q
  have N:c≠C:=by
   rintro rfl;rcases Q with y|y
   ·rw[<-y,g]at e;cases e
   ·rw[g]at y;cases y
  rw[l.2 c N];show q
 refine I.call' (s':={s2 with heap:=h'}) (ch:=p) J.os Y i J.bare λb w=>?_
 obtain⟨_,M,U,L,G,E⟩:=a b w;show#[L,M,G,E]
end
def MQ{fr:St->St}{use:me (ma->Sem Unit)}{QQ:ma->md->Prop}
  (hc:X.calm=true) (S:X9 X scope M L fr) (hi:PI X tg u6 wi) (hg:∀s H C ex,PG (Y6 X scope M L s H C ex) tg g) (hf:∀s H C ex,PF (Y6 X scope M L s H C ex) K4 tf)
  (he:∀s H C ex,PE (Y6 X scope M L s H C ex) N1 te) (hs:∀x,foldedSetIterable u6 X.env x=pure x:=by intro _;rfl) (I:mS X c7 z H s) (h:Bd wi fr g tf te z H Q)
  (fin:∀{s2 U l C H3 s4},mS X c7 z U s2->#v[s2]<C->(∀b∈l,uc X c7 U b)->mS (Y6 X scope M L s2 U C l) [] (fr z) H3 s4->Q (.ref #v[s2]) H3->compPost (model X.prog X.w) X.A X.xe use QQ (.ref #v[s2]) C (.ok .next) s4) :
  ∅ (comprehension (.ListComp N1 [#[tg,u6,K4,0]] scope pos) scope X.env B5 (newList []) false (eval u6 X.env) use) QQ X.xe s:=by
 refine wpAny_comprehension_free (use:=use) rfl hs S.clos S.kind S.names<|ny (hi c7 s z H _ I h) λv d u=>ny u λr s2 h2=>?_;obtain⟨it,l,tn,J,U,e,I2,T,d9,f2,q⟩:=h2;subst e;refine tE<|wpAny_newFunctionEnv S.cell (by intro y u;simp at u) (λj a U8=>?_) S.kind;dsimp only at a U8 ⊢;generalize hP:s2.heap.push {cls:=.type "list",dict:=none,data:=.seq ([]:lX ma).toArray}=P at a U8 ⊢;have hPz:P.objs.size=#v[s2]+1:=by rw[<-hP,rS]
 have D:#v[s2]<P.objs.size:=by rw[hPz];show xW _
 have A:∀b∈l,∃o,s2.heap.get? b=some o:=λb Y=>let⟨o,e,_⟩:=T.obj _ _ d9 b Y;#[o,e]
 have G:∀b,b<#v[s2]->b≠P.objs.size:=λb Y=>oi<|uq Y D
 have old:∀b o,s2.heap.get? b=some o->j.get? b=some o:=λb o e=>U8.extBut b o (G b<|nS e)<|nZ _<|hP ▸ nZ _ e
 have A1:j.get? #v[s2]=some {cls:=.type "list",data:=.seq ([]:lX ma).toArray 0}:=U8.extBut _ _ (oi D)<|nZ _<|hP ▸ oG _ rfl;have fD:U #v[s2]=none:=I2.hok.fresh<|nK _;obtain⟨W,⟨m0,w0⟩,P5⟩:=q #v[s2] fD;have hz:j.objs.size<=P.objs.size+1:=by
  have e:=U8.1;rw[rS]at e;show xr e
 have st1:tn 0 j:=T.keep _ _ _ d9 λb Y o e=>old b o e
 have P6:∀{C9:lX (lZ×Obj)}{E:Hp},(∀p∈C9,p.1∉l)->(∀b∈l,E b=none)->∀b∈l,uc (Y6 X scope M L s2 U P.objs.size l) C9 E b:=λ{C9 E} hp hn b Y=>by
  obtain⟨o,e⟩:=A b Y;obtain⟨_,f1,f2',u,f4,r⟩:=f2 b Y;refine#[hn b Y,G b<|nS e,λw=>?_,.inl Y,λx c h=>f4 x c<|S.sub x c h,λp E5 w=>?_]
  ·rcases oh.mp (I2.stkSub b w)with q|q
   ·show f1 q
   ·show f2' q
  ·have u:p∈C9:=by simpa[Y6]using E5
   show hp p u (by rw[w];show Y)
 have B:∀s3:md,s3={s2 with heap:=j,toks:=s2.toks+([]:lX (lY×ma)).length}->
   codeAny (model X.prog X.w) X.A (.compLoop (.ListComp N1 [#[tg,u6,K4,0]] scope pos) 0 (.ref it) (.ref #v[s2])<|compEnvC scope M P.objs.size X.env) (compPost (model X.prog X.w) X.A X.xe use QQ (.ref #v[s2]) P.objs.size) s3:=by
  rintro s3 rfl;have I3:mS (Y6 X scope M L s2 U P.objs.size l) [] (fr z) (mT U #v[s2] (.lst [])) {s2 with heap:=j,toks:=s2.toks+([]:lX (lY×ma)).length}:=Zt9 I2 S D rfl f2 A old A1 a hz;refine WD (λn u=>∃i ys E,mS (Y6 X scope M L s2 U P.objs.size l) [] (fr z) E u/\tn i u.heap/\(∀b∈l,E b=none)/\W i n ys E) ?_ m0 #[0,[],_,I3,st1,λb Y=>?_,w0]
  ·rintro n s3 ⟨i,ys,H3,I3,x8,fr3,w3⟩;rcases P5 i n ys H3 w3 with⟨stop,qn⟩|⟨go,N,hN,step⟩
   ·refine ny (T.done (Y6 X scope M L s2 U P.objs.size l) rfl rfl rfl hc i [] s3 (fr z) H3 _ I3 (P6 (by simp) fr3) x8 stop) λr s4 ⟨hr,u⟩=>?_
    subst hr;show fin I2 D f2 u qn
   ·refine ny (T.item (Y6 X scope M L s2 U P.objs.size l) rfl rfl rfl hc i [] s3 (fr z) H3 _ I3 (P6 (by simp) fr3) x8 go) λr s4 ⟨u,hr,h4⟩=>?_
    subst hr;refine ny h4 λ_ s5 h9=>?_
    obtain⟨x,H5,I5,r5,y5,B9,fr5⟩:=h9;have I5':=I5.pinned (P6 (by simp) fr5)<|T.obj _ _ B9;refine ny (hg s2 U P.objs.size l _ s5 (fr z) H5 x u _ I5' r5<|step x H5 y5) λ_ s6 ⟨J,H6,I6,kp,q6⟩=>?_
    refine ny (hf s2 U P.objs.size l _ s6 J H6 _ I6 q6) λok s7 ⟨H7,I7,q7⟩=>?_
    have again:∀{σ8:St}{H8:Hp}{s8:md}{c:lX V},Wb (fr z) σ8->mS (Y6 X scope M L s2 U P.objs.size l) ([]++AH l s5.heap) σ8 H8 s8->N c H8->
      ∃m,m<n/\∃i ys E,mS (Y6 X scope M L s2 U P.objs.size l) [] (fr z) E s8/\tn i s8.heap/\(∀b∈l,E b=none)/\W i m ys E:=λ{σ8 H8 s8 c} kp8 I8 n8=>by
     obtain⟨m',hm,w8⟩:=hN c H8 n8;refine#[m',hm,i+1,c,H8,(I8.unpinned).weak (by rw[I8.len];show S.len z I2.len) kp8,T.keep _ _ _ B9 λb Y o e=>(I8.pin (b,o)<|rF _<|rF _<|Cq Y e).1,λb Y=>?_,w8];obtain⟨o,e,d⟩:=T.obj _ _ B9 b Y;show(I8.pin (b,o)<|rF _<|rF _<|Cq Y e).2.1
    cases ok with
    | false=>show again kp I7 q7
    | true =>
     refine ny (he s2 U P.objs.size l _ s7 J H7 _ I7 q7) λuy s8 h9=>?_
     obtain⟨y,H8,I8,r8,d,hz8,q8⟩:=h9;show ny (Rg _ s8 J H8 (.ref #v[s2]) [y] (.ref #v[s2]) [uy] (λ_ H9=>N (ys++[y]) H9) I8 rfl (.cons r8 .nil) #[d,hz8,q8]) λ_ s9 ⟨v9,H9,I9,_,q9⟩=>again kp I9 q9
  ·change mT U #v[s2] (.lst []) b=none;obtain⟨o,e⟩:=A b Y;rw[Zd (oi<|nS e)];show(f2 b Y).1
 show codeAny_compStart_list (B _ rfl)<|T.self X.A 0 _ _ _ st1<|B _ rfl
def TJ{fr:St->St}
  (l:X.calm=true) (S:X9 X scope w u fr) (j:PI X p o i) (e:∀s H C y,PG (Y6 X scope w u s H C y) p g) (d:∀s H C y,PF (Y6 X scope w u s H C y) c a)
  (Y:∀s H C y,PE (Y6 X scope w u s H C y) U N) (M:∀x,foldedSetIterable o X.env x=pure x:=by intro _;rfl):PE X (.ListComp U [#[p,o,c,0]] scope pos) (Bd i fr g a N):=by
 intro B s z H Q I h;rw[eval_ListComp];show MQ l S j e d Y M I h λL r J n G=>let⟨E,q,_⟩:=n.loc;#[E,q,λA D=>#[.ref _,_,OU L r J n D,rfl,G]]
section
variable {K:mf} {a:lZ} {fr:St->St} {g:TG} {tf:TT} {te:TE} {Q:VK} {σ:St} {H1:Hp} {D:lZ}
def qB(fr:St->St)(g:TG)(tf:TT)(te:TE)(σ:St)(D:lZ)(x:V)(w:lX V)(H:Hp)(N:lX V->Hp->Prop):Prop :=
 g x (fr σ) H λz r=>Wb (fr σ) z/\tf z r λb u=>if b=true then te z u λy s=>s D=some (.lst w)/\w.length<sizeLine/\N (w++[y]) (mT s D<|.lst<|w++[y])else N w u
def Yz(Pv:Nat->lX V->Hp->Prop)(r:Pv 0 [] (mT H1 D<|.lst []))(w:∀i z H,i<=xs.length->Pv i z H->SqL K H a xs)
  (q:∀i x z H,xs[i]? =some x->Pv i z H->qB fr g tf te σ D x z H (Pv<|i+1)) (hd:∀z H,Pv xs.length z H->Q (.ref D) H):sw (uT K a) fr g tf te Q σ H1 D:=W3 Pv r (λs H p=>#[xs,w _ s H (nK _) p,nK _]) (λi s H u p=>#[#[xs,xs[i],w i s H (pU u) p,oR u],λx o ⟨e,y⟩=>e ▸ q i x s _ (y xs<|w i s H (pU u) p) p]) hd
def Gq(Pv:Nat->lX V->Hp->Prop)(r:Pv 0 [] (mT H1 D<|.lst []))(w:∀i z H,i<=xs.length->Pv i z H->SqT K H a xs)
  (q:∀i x z H,xs[i]? =some x->Pv i z H->qB fr g tf te σ D x z H (Pv<|i+1)) (hd:∀z H,Pv xs.length z H->Q (.ref D) H):sw (DW K a) fr g tf te Q σ H1 D:=W3 Pv r (λs H p=>#[xs,w _ s H (nK _) p,nK _]) (λi s H u p=>#[#[xs,xs[i],w i s H (pU u) p,oR u],λx o ⟨e,y⟩=>e ▸ q i x s _ (y xs<|w i s H (pU u) p) p]) hd
def Qu{lo:Int}{n:Nat}(Pv:Nat->lX V->Hp->Prop)(u:Pv 0 [] (mT H1 D<|.lst []))
  (r:∀i z H,i<n->Pv i z H->qB fr g tf te σ D (.int<|lo+i) z H (Pv<|i+1)) (hd:∀z H,Pv n z H->Q (.ref D) H):sw (zm lo n) fr g tf te Q σ H1 D:=W3 Pv u (λ_ _ _=>nK _) (λi s H w p=>#[w,λx q ⟨e,y⟩=>by subst e y;show r i s _ w p]) hd
def Gv(x:lY):It:=#[λi _=>i<x.cps.size,λi H v z=>z=H/\∃c,x.cps[i]? =some c/\v=.str #[(List.toArray [c])],λi _=>x.cps.size<=i]
def ZY(Pv:Nat->lX V->Hp->Prop)(y:Pv 0 [] (mT H1 D<|.lst []))
  (w:∀i c z H,x.cps[i]? =some c->Pv i z H->qB fr g tf te σ D (.str #[(List.toArray [c])]) z H (Pv<|i+1)) (hd:∀z H,Pv x.cps.size z H->Q (.ref D) H):sw (Gv x) fr g tf te Q σ H1 D:=W3 Pv y (λ_ _ _=>nK _) (λi s H u p=>#[u,λv o ⟨e,c,r,q⟩=>by subst e q;show w i c s _ r p]) hd
end
def Vz{P:mn}{w:mj}{K:mf}{D:ml}(it:lZ)(x:lY)(t:Tok):wq P w K D (Gv x) [it] it (λi h=>h.IsStrIter it "str_ascii_iterator" x t i) where
 mem:=by simp
 obj:=λi h st b u=>by
  have e:b=it:=by simpa using u
  subst e;obtain⟨o,e,c,d⟩:=st;show#[o,e,λv y=>by rw[d]at y;cases y]
 keep:=λi h q st k=>by
  obtain⟨o,e,r⟩:=st;show#[o,k it (by simp) o e,r]
 item:=by
  intro X n l j M i L s z H E I p st g;subst n l j;obtain⟨a,Y,C,U,Q,N⟩:=p it (by simp);have J:i<x.cps.size:=g;refine wpAny_pyNext_ascii_item st (c:=x.cps[i]) (by simp[J]) λq G B=>?_
  have A:mS X L z H {s with heap:=q,toks:=s.toks+1}:=I.turned (λb o u e=>(B.2 b u).trans e) a Y U Q N;obtain⟨o,e,c,d⟩:=id G;show#[_,rfl,zJ (s:={s with heap:=q,toks:=s.toks+1}) e c d (by lk) #[.str #[(List.toArray [x.cps[i]])],H,A,#[_,rfl],#[rfl,_,by simp[J],rfl],G,λb u=>(p b u).1]]
 done:=by
  intro X n l j M i L s z H E I p st g;subst n l j;obtain⟨a,Y,C,U,Q,N⟩:=p it (by simp);have N2:x.cps.size<=i:=g;show wpAny_pyNext_ascii_end (I.ok.hd M) st (by simp[N2]) λq eb=>#[rfl,I.turned (t':=s.toks) (λb o u e=>eb b o u e) a Y U Q N]
 self:=λ_ _ _ _ _ st h=>wpAny_pyIter_striter_ascii st h
def TV(y:TE):TI:=λz H R=>y z H λv w=>∃x,v=.str x/\x.cps.all (· < 128)=true/\R (Gv x) w
def ZI{X:Cx}{p l:ml}{r:TE}(n:PE X l r):PI X p l (TV r):=by
 intro j s z H R I h;refine ny (n j s z H _ I h) λv w ⟨y,i,u,g,d⟩=>?_
 obtain⟨x,e,c,q⟩:=d;subst e;obtain⟨t,rfl⟩:=g;refine wpAny_pyIter_ascii c ?_;refine#[#v[w],[#v[w]],_,_,i,rfl,u.kept (t':=w.toks) λb o e=>nZ _ e,Vz _ x t,#[_,oG _ rfl,rfl,rfl],λb a=>?_,q];have e:b=#v[w]:=by simpa using a
 subst e;show u.fpOk (nK _)<|u.hok.fresh<|nK _
theorem Ya.at_bool:∀{bs:lX Bool}{us:lX ma}{i:Nat}{u:ma},Ya (bs.map V.bl) us->us[i]? =some u->∃b,bs[i]? =some b/\u=.bool b
 | [],_,_,_,.nil,e=>by simp at e
 | b ::bs,_,0,u,.cons r _,e=>by
  simp at e;subst e;show#[b,rfl,r]
 | b ::bs,_,i+1,u,.cons _ t,e=>by
  obtain⟨c,z,y⟩:=Ya.at_bool (i:=i) t (by simpa using e);show#[c,by simpa using z,y]
def XE(bs:lX Bool):(List.range bs.length).all (λi=>bs.getD i false)=bs.all id:=by
 have e:(List.range bs.length).map (λi=>bs.getD i false)=bs:=by
  apply List.ext_getElem
  ·simp
  ·intro i z y;simp at z;simp[z]
 calc (List.range bs.length).all (λi=>bs.getD i false)=((List.range bs.length).map (λi=>bs.getD i false)).all id:=by rw[List.all_map];rfl
  _=bs.all id:=by rw[e]
def Tb(l:X.calm=true):Y5 X (.builtin "all") (λxs H Q=>∃(p:lZ)(bs:lX Bool),xs=[.ref p]/\SqL X.K H p (bs.map V.bl)/\Q (.bl<|bs.all id) H):=by
 intro N s z H xs M Q I r h;obtain⟨p,bs,rfl,j,q⟩:=h;obtain⟨u,rfl,g⟩:=Wr r;cases g;obtain⟨x,n,w,y⟩:=I.list j;have d:p<#v[s]:=by obtain⟨_,_,e,_⟩:=w;show nS e
 refine call_all_walk<|xJ w.isList ?_;refine#[#v[s],_,_,x.toArray.size,_,_,λi=>bs.getD i false,rfl,Az (A:=X.A.in1) (show X.A.in1.handled=none from I.ok.hd l) #v[s] p (oi d) x.toArray,#[#[_,oG _ rfl,rfl,rfl],w.isList.push _],?_,λy c k=>?_]
 ·intro i v u o L a Y;obtain⟨b,U,rfl⟩:=Ya.at_bool (i:=i) n (by simpa using a);refine uW ?_;have e:bs.getD i false=b:=by rw[ua,U];rfl
  have y:o (bs.getD i false) u:=Y;rw[e]at y;show y
 ·have u:=n.length;rw[mV]at u;refine#[.bl<|bs.all id,H,?_,?_,q]
  ·refine I.kept (t':=c) λb o e=>k b o ?_<|nZ _ e
   have:=nS e;intro y;have a:b=#v[s]:=by simpa using y
   rw[a]at this;show rf _ this
  ·change Value.bool ((List.range x.toArray.size).all λi=>bs.getD i false)=Value.bool (bs.all id);rw[oM,<-u,XE]
def Zrk:Y5 X (.builtin "isinstance") (λxs H Q=>∃x c b t,xs=[x,c]/\Xx X.K H x t/\((∃n,c=.ty n/\kitOne X.K t (.type n)=some b)\/∃a,c=.ref a/\kitOne X.K t (.ref a)=some b)/\Q (.bl b) H):=by
 intro l s z H xs j Q I r h;obtain⟨x,c,b,t,rfl,w,k,q⟩:=h;obtain⟨u,i,rfl,p,o⟩:=wn r;rcases k with⟨n,rfl,k⟩|⟨a,rfl,k⟩
 ·cases o;show Nl I p w k λy=>#[.bl b,H,I.tok y,rfl,q]
 ·cases o;show Nl I p w k λy=>#[.bl b,H,I.tok y,rfl,q]
def Lz:V->me Int->me Int->Hp->VK->Prop:=λx lo y H Q=>∃z,x=.str z/\z.length<=sizeLine/\Q (.str<|Txt.slice z lo y) H
def Yf3:sH X Lz:=by
 intro U s z H x v N M lo L J Q I c a Y e h;obtain⟨y,rfl,r,q⟩:=h;obtain⟨t,rfl⟩:=c;refine#["str",_,F.slot_str_getitem.lookup,xj _ _ _,?_];obtain⟨o,p,n,hd⟩:=a;cases Y with
 | none =>
  cases e with
  | none=>show DL (l:=none) (u:=none) (st:=none) #[o,p,n,hd] rfl (DH #[oy (Co y none none) r,λw k=>#[.str<|Txt.slice y none none,H,I.tok k,#[w,rfl],q]])
  | int j g=>show DL (l:=none) (u:=some (j,g)) (st:=none) #[o,p,n,hd] rfl (DH #[oy (Co y none<|some j) r,λw k=>#[.str<|Txt.slice y none<|some j,H,I.tok k,#[w,rfl],q]])
 | int i d =>
  cases e with
  | none=>show DL (l:=some (i,d)) (u:=none) (st:=none) #[o,p,n,hd] rfl (DH #[oy (Co y (some i) none) r,λw k=>#[.str<|Txt.slice y (some i) none,H,I.tok k,#[w,rfl],q]])
  | int j g=>show DL (l:=some (i,d)) (u:=some (j,g)) (st:=none) #[o,p,n,hd] rfl<|DH #[oy (Co y (some i)<|some j) r,λw k=>#[.str<|Txt.slice y (some i)<|some j,H,I.tok k,#[w,rfl],q]]
def MK(M:St->Hp->St->Hp->Prop)(t:TS):TS:=λD z H=>t {D with nx:=M z H} z H/\∀y x,M z H y x->D.nx y x
def UU{X:Cx}{st:mh}{t:TS}(M:St->Hp->St->Hp->Prop)(h:PS X st t):PS X st (MK M t):=by
 intro r s z H D I x;refine ny (h r s z H {D with nx:=M z H} I x.1) λf p q=>?_
 cases f with
 | next=>obtain⟨y,w,u,m⟩:=q;show#[y,w,u,x.2 y w m]
 | brk=>show q
 | cont=>show q
 | ret u=>show q
def zG:ml->Bool
 | .Starred .. =>false
 | _=>true
def Bo(h:zG e=true):starEach (e ::z) env=(false,eval e env) ::starEach z env:=by
 cases e<;>first
  | rfl
  | show absurd h oK
def Zb(z:PE X e y)(x:PA X w t)(h:zG e=true:=by rfl):PA X (e ::w) (uv y t):=UZ z x<|Bo h
structure WSs(X:Cx)(b:List Stmt)(D:qj)(σ:St)(H:Hp):Prop where
 run:∀(c7:List (Addr×Obj)) (s:Shared),mS X c7 σ H s->∅ (execs b X.env) (SP X c7 D) X.xe s
structure WS(X:Cx)(st:Stmt)(D:qj)(σ:St)(H:Hp):Prop where
 run:∀(c7:List (Addr×Obj)) (s:Shared),mS X c7 σ H s->∅ (exec st X.env) (SP X c7 D) X.xe s
structure WE(X:Cx)(e:Expr)(σ:St)(H:Hp)(Q:VK):Prop where
 run:∀(c7:List (Addr×Obj)) (s:Shared),mS X c7 σ H s->∅ (eval e X.env) (EP X c7 σ Q) X.xe s
section
variable {X:Cx} {b Zr:lX mh} {st:mh} {e:ml} {D:qj} {σ:St} {H:Hp} {t:TS} {te:TE} {Q:VK}
def Zo:qV X b (WSs X b):=λz s _ _ _ I h=>h.run z s I
def VN:PS X st (WS X st):=λz s _ _ _ I h=>h.run z s I
def zX:PE X e (WE X e):=λz s _ _ _ I h=>h.run z s I
def WSs.of(h:qV X b t)(q:t D σ H):WSs X b D σ H:=#[λz s I=>h z s σ H D I q]
def WS.of(h:PS X st t)(q:t D σ H):WS X st D σ H:=#[λz s I=>h z s σ H D I q]
def WE.of(h:PE X e te)(q:te σ H Q):WE X e σ H Q:=#[λz s I=>h z s σ H Q I q]
def WSs.step(h:PS X st t)(q:t {D with nx:=WSs X Zr D} σ H):WSs X (st ::Zr) D σ H:=WSs.of (Rs h Zo) q
def WSs.last(h:PS X st t)(q:t D σ H):WSs X [st] D σ H:=WSs.of (Yca h) q
def WSs.nil(q:D.nx σ H):WSs X [] D σ H:=WSs.of Zl q
def WSs.cut(M:St->Hp->Prop)(h:WS X st {D with nx:=M} σ H)(k:∀z y,M z y->WSs X Zr D z y):WSs X (st ::Zr) D σ H:=by
 refine WSs.step (t:=MK (λ_ _=>M)<|WS X st) (UU (λ_ _=>M) VN) #[h,λz y m=>k z y m]
end
def uR{z:Type}(P:z->Prop):lX z->Prop
 | []=>True
 | a ::l=>P a/\uR P l
theorem uR.mem{z:Type}{P:z->Prop}:∀{l:lX z}{a:z},uR P l->a∈l->P a
 | _ ::_,a,h,m=>by
  rcases oh.mp m with rfl|m
  ·show h.1
  ·show uR.mem h.2 m
theorem KW{env:Env}:∀{names:lX (lY×NameKind)}{x:lY},names.lookup x=some .free->
  (names.map λ(n,k)=>if(k ==NameKind.free && env.scope.kind ==.function && env.kindOf n ==some .cell)then(n,NameKind.cell)else(n,k)).lookup x=some .cell\/
  (names.map λ(n,k)=>if(k ==NameKind.free && env.scope.kind ==.function && env.kindOf n ==some .cell)then(n,NameKind.cell)else(n,k)).lookup x=some .free
 | [],_,h=>by simp at h
 | (n,k) ::r,x,h=>by
  have w:=@KW env r x
  by_cases z:x ==n
  ·have u:k=.free:=by
    rw[rH,z]at h;show pc h
   subst u
   by_cases y:(NameKind.free ==NameKind.free && env.scope.kind ==.function && env.kindOf n ==some .cell)=true
   ·left
    rw[oq];change List.lookup x ((if _ then(n,NameKind.cell)else(n,NameKind.free)) ::_)=_;rw[nj y,rH,z]
   ·right
    rw[oq];change List.lookup x ((if _ then(n,NameKind.cell)else(n,NameKind.free)) ::_)=_;rw[ng y,rH,z]
  ·have z:(x ==n)=false:=by simpa using z
   rw[rH,z]at h;have q:=w h;rw[oq];have e:∀(b:Bool)(l:lX (lY×NameKind)),List.lookup x ((if b=true then(n,NameKind.cell)else(n,k)) ::l)=l.lookup x:=λb l=>by
    cases b<;>simp[rH,z]
   rcases q with q|q
   ·show .inl<|(e _ _).trans q
   ·show .inr<|(e _ _).trans q
def NS{env:Env}:∀{names:lX (lY×NameKind)}{x:lY},
    ((names.map λ(n,k)=>if(k ==NameKind.free && env.scope.kind ==.function && env.kindOf n ==some .cell)then(n,NameKind.cell)else(n,k)).lookup x=some .cell\/
     (names.map λ(n,k)=>if(k ==NameKind.free && env.scope.kind ==.function && env.kindOf n ==some .cell)then(n,NameKind.cell)else(n,k)).lookup x=some .free)->
    names.lookup x=some .cell\/names.lookup x=some .free
  | [],_,h=>by simp at h
  | (n,k) ::r,x,h=>by
    have w:=@NS env r x;rw[oq]at h
    by_cases y:x ==n
    · rw[rH,y];have e:∀(c:Prop) [Decidable c] (l:lX (lY×NameKind)),List.lookup x ((if c then(n,NameKind.cell)else(n,k)) ::l)=some (if c then .cell else k):=λc _ l=>by
        split<;>rw[rH,y]
      rcases h with h|h
      · have h:=(e _ _).symm.trans h;have h:=pc h;split at h
        · rename_i c
          right
          have:k=.free:=by
            rw[qk,qk]at c;simpa using c.1.1
          rw[this]
        · left;rw[h]
      · have h:=(e _ _).symm.trans h;have h:=pc h;split at h
        · cases h
        · right;rw[h]
    · have y:(x ==n)=false:=by simpa using y
      have e:∀(c:Prop) [Decidable c] (l:lX (lY×NameKind)),List.lookup x ((if c then(n,NameKind.cell)else(n,k)) ::l)=l.lookup x:=λc _ l=>by
        split<;>rw[rH,y]
      rw[rH,y];show w<|h.imp (λz=>(e _ _).symm.trans z) λz=>(e _ _).symm.trans z
def X9.std{X:Cx}{scope:Scope}{l:lX (lY×lZ)}{d:lX lY}(n:Nat)(r:lX Nat)(kind:scope.kind=.function)(cell:∀y∈scope.names,y.2≠.cell)
  (names:∀y∈scope.names,y.2=.local->scope.names.lookup y.1=some .local) (clos:closureFor scope X.env=pure l) (L:uR (λp=>X.env.cells.lookup p.1=some p.2) l)
  (Q:(scope.names.all λy=>y.2 !=.free || ((l.lookup y.1).isSome && (X.env.kindOf y.1 ==some .cell || X.env.kindOf y.1 ==some .free)))=true)
  (J:d.length=n+r.length) (I:uR (λp:Nat×Nat=>∃x,d[n+p.1]? =some x/\X.N[p.2]? =some x/\scope.names.lookup x=some .free) ((List.range r.length).zip r)) :
  X9 X scope l d (λz=>List.replicate n none++r.map λj=>(z[j]?).join) where
 kind:=kind
 cell:=cell
 names:=names
 clos:=clos
 sub:=λx c h=>uR.mem (P:=λp=>X.env.cells.lookup p.1=some p.2) (a:=(x,c)) L (sy h)
 has:=λx h=>by
  rcases NS (env:=X.env) h with h|h
  ·show absurd rfl<|cell _<|sy h
  ·have q:=wo.mp Q _<|sy h;simp only[De,FY,qk]at q;show Gg.mp q.1
 len:=λz _=>by simp[J]
 fr:=λz i x v H u _=>by
  have G:n<=i:=by
   rcases wS i n with g|Y
   ·rw[Bm (by simpa using g),FV,nj g]at u;cases u
   ·show Y
  rw[yM (by simpa using G),IT,nU]at u;cases s:r[i-n]? with
  | none=>rw[s]at u;cases u
  | some j =>
   rw[s]at u;have u:(z[j]?).join=some v:=pc u;have g:i-n<r.length:=by
    rcases wS (i-n) r.length with w|w
    ·show w
    ·rw[uZ w]at s;cases s
   have E:(i-n,j)∈(List.range r.length).zip r:=by
    rw[Pz];refine#[i-n,?_];rw[List.getElem?_zip_eq_some];show#[by simp[g],s]
   obtain⟨o,U,D,N⟩:=uR.mem I E;have e:n+(i-n)=i:=by lia
   simp only[e]at U;rw[H]at U;cases U;have q:=wo.mp Q _<|sy N;simp only[De,FY,qk,Bp,qN]at q;refine#[KW N,q.2,j,D,?_];cases M:z[j]? with
   | none=>rw[M]at u;cases u
   | some o=>rw[M]at u;show oY some u
inductive Tr where
 | non|int (i:Int)|str (x:Str)|tup (ts:List Tr)|lst (ts:List Tr)
noncomputable instance:DecidableEq Tr:=λ_ _=>Classical.propDecidable _
mutual
inductive Im(K:Frag)(H:Hp):Nat->Tr->V->Prop where
 | non {n:Nat}:Im K H n .non .non
 | int {n:Nat} (i:Int):Im K H n (.int i) (.int i)
 | str {n:Nat} (x:Str):Im K H n (.str x) (.str x)
 | tupI {n:Nat} {a:Addr} {xs:List V} {ts:List Tr}:SqT K H a xs->vL K H n ts xs->Im K H (n+1) (.tup ts) (.ref a)
 | lstI {n:Nat} {a:Addr} {xs:List V} {ts:List Tr}:SqL K H a xs->vL K H n ts xs->Im K H (n+1) (.lst ts) (.ref a)
inductive vL(K:Frag)(H:Hp):Nat->List Tr->List V->Prop where
 | nil {n:Nat}:vL K H n [] []
 | cons {n:Nat} {t:Tr} {v:V} {ts:List Tr} {vs:List V}:Im K H n t v->vL K H n ts vs->vL K H n (t ::ts) (v ::vs)
end
theorem vL.toP{K:mf}{H:Hp}{n:Nat}:∀{ts:lX Tr}{xs:lX V},vL K H n ts xs->Paired (Im K H n) ts xs
 | [],_,h=>by cases h;show .nil
 | _ ::_,_,h=>by
  cases h with
  | cons r t=>show .cons r t.toP
def vL.ofP{K:mf}{H:Hp}{n:Nat}{ts:lX Tr}{xs:lX V}(h:Paired (Im K H n) ts xs):vL K H n ts xs:=by
 induction h with
 | nil=>show .nil
 | cons r _ t=>show .cons r t
def Im.tup{K:mf}{H:Hp}{n:Nat}{a:lZ}{xs:lX V}{ts:lX Tr}(z:SqT K H a xs)(ps:Paired (Im K H n) ts xs):Im K H (n+1) (.tup ts) (.ref a):=.tupI z<|.ofP ps
def Im.lst{K:mf}{H:Hp}{n:Nat}{a:lZ}{xs:lX V}{ts:lX Tr}(z:SqL K H a xs)(ps:Paired (Im K H n) ts xs):Im K H (n+1) (.lst ts) (.ref a):=.lstI z<|.ofP ps
theorem Paired.get{z y:Type}{R:z->y->Prop}:∀{l₁:lX z}{l₂:lX y}{i:Nat}{a:z},Paired R l₁ l₂->l₁[i]? =some a->∃b,l₂[i]? =some b/\R a b
 | _,_,_,_,.nil,e=>by simp at e
 | _,_,0,_,.cons r _,e=>by simp at e;subst e;show#[_,rfl,r]
 | _,_,i+1,a,.cons _ t,e=>by
  obtain⟨u,x,w⟩:=Paired.get (i:=i) (a:=a) t (by simpa using e);show#[u,by simpa using x,w]
theorem Paired.get'{y z:Type}{R:y->z->Prop}:∀{l₁:lX y}{l₂:lX z}{i:Nat}{b:z},Paired R l₁ l₂->l₂[i]? =some b->∃a,l₁[i]? =some a/\R a b
 | _,_,_,_,.nil,e=>by simp at e
 | _,_,0,_,.cons r _,e=>by simp at e;subst e;show#[_,rfl,r]
 | _,_,i+1,a,.cons _ t,e=>by
  obtain⟨u,x,w⟩:=Paired.get' (i:=i) (b:=a) t (by simpa using e);show#[u,by simpa using x,w]
def Paired.append{z y:Type}{R:z->y->Prop}{x:lX z}{w:lX y}{u:lX z}{q:lX y}(h:Paired R x w)(s:Paired R u q):Paired R (x++u) (w++q):=by
 induction h with
 | nil=>show s
 | cons r t p=>show .cons r p
theorem Paired.strs{K:mf}{H:Hp}{n:Nat}:∀xs:lX lY,Paired (Im K H n) (xs.map Tr.str) (xs.map V.str)
 | []=>.nil
 | x ::xs=>.cons (.str x)<|Paired.strs (K:=K) (H:=H) (n:=n) xs
def mK.at(e:mK H z)(h:H b=some o):z b=some o:=e b o h
def mK.new(h:H p=none):mK H (mT H p o):=λb u e=>by rw[Zd (Ze e h)];show e
def Paired.uniq{z y:Type}{R:z->y->Prop}(f:∀a w b,R a b->R w b->a=w){l x:lX z}{m:lX y}(h:Paired R l m)(h':Paired R x m):l=x:=by
 induction h generalizing x with
 | nil=>cases h';rfl
 | cons r t u=>cases h' with
  | cons s q=>rw[f _ _ _ r s,u q]
variable {X:Cx}
def mS.lt_excl(I:mS X u z H s)(h:SqL X.K H a xs)(h':SqT X.K H a r):False:=by
 obtain⟨q,_,x,_⟩:=I.list h;obtain⟨y,_,w,_⟩:=I.tuple h';show SeqAt.ne_of_list_tuple x.isList (show s.heap.IsTuple a y.toArray from w) rfl
def Im.inj(I:mS X g z H s):∀{n:Nat}{t u:Tr}{v:V},Im X.K H n t v->Im X.K H n u v->t=u:=by
 intro n
 induction n with
 | zero=>intro t u v h r;cases h<;>cases r<;>rfl
 | succ n j =>
  intro t u v h r;cases h with
  | non=>cases r;rfl
  | int i=>cases r;rfl
  | str x=>cases r;rfl
  | tupI p o =>
   cases r with
   | tupI q w =>
    have e:=I.tuple_inj p q;subst e;rw[Paired.uniq (R:=Im X.K H n) (λ_ _ _ y l=>j y l) o.toP w.toP]
   | lstI q w=>show(I.lt_excl q p).elim
  | lstI p o =>
   cases r with
   | tupI q w=>show(I.lt_excl p q).elim
   | lstI q w =>
    have e:=I.list_inj p q;subst e;rw[Paired.uniq (R:=Im X.K H n) (λ_ _ _ y l=>j y l) o.toP w.toP]
def Yj(h:SeqAt.EqAt A s u v b)(e:b=z):SeqAt.EqAt A s u v z:=e ▸ h
def Mr(ts us:lX Tr):(((List.range<|min ts.length us.length).all λj=>decide<|ts[j]? =us[j]?) && ts.length ==us.length)=decide (ts=us):=by
 rw[su];simp only[qk,wo,yk,vo,qN]
 constructor
 ·rintro⟨h,e⟩;refine BB λi=>?_
  by_cases z:i<ts.length
  ·show h i (by lia)
  ·rw[uZ (by lia),uZ<|by lia]
 ·rintro rfl;show#[λ_ _=>rfl,rfl]
def Uo{ts us:lX Tr}(h:ts.length=us.length):((List.range ts.length).all λj=>decide<|ts[j]? =us[j]?)=decide (ts=us):=by
 have q:=Mr ts us;rw[h,Nat.min_self,AY,Bool.and_true]at q;rw[h];show q
def We(A:mo):A.in1.units=A.units+1:=rfl
def BG
  (d:∀{t u:Tr}{x y:V}{l h:ma},Im X.K H n t x->Im X.K H n u y->Yg x l->Yg y h->SeqAt.EqAt A s l h (decide<|t=u))
  (ps:Paired (Im X.K H n) ts xs) (c:Paired (Im X.K H n) us q) (g:Ya xs z) (e:Ya q its') :
  ∀j (p:j<z.toArray.size) (o:j<its'.toArray.size),SeqAt.EqAt A s z.toArray[j] its'.toArray[j] (decide<|ts[j]? =us[j]?):=by
 intro j p o;have a:=g.length;have Y:=e.length;have w:j<xs.length:=by simpa[a]using p
 have r:j<q.length:=by simpa[Y]using o
 obtain⟨t,U,Q⟩:=Paired.get' ps (i:=j) (b:=xs[j]) (by simp[w]);obtain⟨u,N,M⟩:=Paired.get' c (i:=j) (b:=q[j]) (by simp[r]);obtain⟨L,J,I⟩:=g.get (i:=j) (x:=xs[j]) (by simp[w]);obtain⟨G,E,D⟩:=e.get (i:=j) (x:=q[j]) (by simp[r]);have C:z.toArray[j]=L:=by
  have:z[j]? =some z.toArray[j]:=by simp[show j<z.length by simpa using p]
  rw[J]at this;show(pc this).symm
 have B:its'.toArray[j]=G:=by
  have:its'[j]? =some its'.toArray[j]:=by simp[show j<its'.length by simpa using o]
  rw[E]at this;show(pc this).symm
 rw[C,B,U,N];refine Yj (d Q M I D) ?_;rw[su];simp
def Im.tuple_rc(I:mS X G z H s)
  (l:∀{t u:Tr}{x y:V}{i h:ma},Im X.K H n t x->Im X.K H n u y->Yg x i->Yg y h->SeqAt.EqAt A.in1 s i h (decide<|t=u)) (g:A.units<cLine)
  (Y:SqT X.K H a xs) (ps:Paired (Im X.K H n) ts xs) (U:SqT X.K H b Q) (q:Paired (Im X.K H n) us Q) :
  SeqAt.RcAt A s (.ref a) (.ref b) (decide<|Tr.tup ts=Tr.tup us)/\SeqAt.RcNeAt A s (.ref a) (.ref b) (!decide (Tr.tup ts=Tr.tup us)):=by
 obtain⟨r,p,d,_⟩:=I.tuple Y;obtain⟨w,o,c,_⟩:=I.tuple U;have N:=p.length;have M:=o.length;have L:=nW ps;have J:=nW q;have e:((List.range<|min r.toArray.size w.toArray.size).all (λj=>decide<|ts[j]? =us[j]?) && r.toArray.size ==w.toArray.size)=decide (Tr.tup ts=Tr.tup us):=by
  rw[oM,oM,<-N,<-M,<-L,<-J,Mr,su];simp
 constructor
 ·rw[<-e];show SeqAt.RcAt.tuples (show s.heap.IsTuple a r.toArray from d) (show s.heap.IsTuple b w.toArray from c) g<|BG l ps q p o
 ·rw[<-e];show SeqAt.RcNeAt.tuples (show s.heap.IsTuple a r.toArray from d) (show s.heap.IsTuple b w.toArray from c) g<|BG l ps q p o
def Im.list_rc(I:mS X E z H s){n:Nat}{A:mo}{a b:lZ}{ts us:lX Tr}{xs c:lX V}
  (Y:∀{t u:Tr}{x y:V}{U Q:ma},Im X.K H n t x->Im X.K H n u y->Yg x U->Yg y Q->SeqAt.EqAt A.in1 s U Q (decide<|t=u)) (p:A.units<cLine)
  (M:SqL X.K H a xs) (ps:Paired (Im X.K H n) ts xs) (L:SqL X.K H b c) (i:Paired (Im X.K H n) us c) :
  SeqAt.RcAt A s (.ref a) (.ref b) (decide<|Tr.lst ts=Tr.lst us)/\SeqAt.RcNeAt A s (.ref a) (.ref b) (!decide (Tr.lst ts=Tr.lst us)):=by
 obtain⟨h,g,o,_⟩:=I.list M;obtain⟨r,d,l,_⟩:=I.list L;have J:=g.length;have D:=d.length;have G:=nW ps;have C:=nW i
 by_cases N:ts.length=us.length
 ·have e:((List.range h.toArray.size).all λj=>decide<|ts[j]? =us[j]?)=decide (Tr.lst ts=Tr.lst us):=by
   rw[oM,<-J,<-G,Uo N,su];simp
  have q:h.toArray.size=r.toArray.size:=by rw[oM,oM];lia
  constructor
  ·rw[<-e];show SeqAt.RcAt.lists o.isList l.isList q p<|BG Y ps i g d
  ·rw[<-e];show SeqAt.RcNeAt.lists o.isList l.isList q p<|BG Y ps i g d
 ·have e:decide (Tr.lst ts=Tr.lst us)=false:=ow λw=>N (by injection w with w;rw[w])
  have q:(h.toArray.size !=r.toArray.size)=true:=by rw[oM,oM];simp;lia
  rw[e];show#[SeqAt.RcAt.lists_lengths o.isList l.isList q p,SeqAt.RcNeAt.lists_lengths o.isList l.isList q p]
def Im.eqAt(I:mS X c7 z H s):∀(n:Nat)(A:mo){t u:Tr}{x y:V}{U Q:ma},Im X.K H n t x->Im X.K H n u y->Yg x U->Yg y Q->A.units+n<cLine->SeqAt.EqAt A s U Q (decide<|t=u):=by
 intro n
 induction n with
 | zero =>
  intro A t u x y U Q h N c o C;cases h<;>cases N<;>show Yj (zQ c o rfl rfl) (by rw[su];(delta rn;simp))
 | succ n B =>
  intro A t u x y U Q h N c o C;have e:A.units<cLine:=by lia
  have D:A.in1.units+n<cLine:=by rw[We];lia
  have L:∀{t u:Tr}{x y:V}{U Q:ma},Im X.K H n t x->Im X.K H n u y->Yg x U->Yg y Q->SeqAt.EqAt A.in1 s U Q (decide<|t=u):=λw z' r r'=>B A.in1 w z' r r' D
  cases h with
  | @tupI _ a xs ts M J =>
   cases c;obtain⟨G,rv,Y,_⟩:=I.tuple M;cases N with
   | non=>cases o;show Yj (SeqAt.EqAt.tuple_none (show s.heap.IsTuple _ G.toArray from Y) e) (ow λw=>nomatch w).symm
   | int i=>obtain⟨g,rfl⟩:=o;show Yj (SeqAt.EqAt.tuple_int i g (show s.heap.IsTuple _ G.toArray from Y) e) (ow λw=>nomatch w).symm
   | str i=>obtain⟨g,rfl⟩:=o;show Yj (SeqAt.EqAt.tuple_str i g (show s.heap.IsTuple _ G.toArray from Y) e) (ow λw=>nomatch w).symm
   | @tupI _ b ys us l p =>
    cases o
    by_cases E:a=b
    ·subst E;rw[Im.inj I (Im.tupI M J) (Im.tupI l p),og rfl];show DY _
    ·show SeqAt.EqAt.of_refs E (Im.tuple_rc I L e M J.toP l p.toP).1
   | lstI l p =>
    cases o;obtain⟨q,R7,d,_⟩:=I.list l;show Yj (SeqAt.EqAt.tuple_list (show s.heap.IsTuple _ G.toArray from Y) d.isList e) (ow λw=>nomatch w).symm
  | @lstI _ a xs ts M J =>
   cases c;obtain⟨G,rv,Y,_⟩:=I.list M;cases N with
   | non=>cases o;show Yj (SeqAt.EqAt.list_none Y.isList e) (ow λw=>nomatch w).symm
   | int i=>obtain⟨g,rfl⟩:=o;show Yj (SeqAt.EqAt.list_int i g Y.isList e) (ow λw=>nomatch w).symm
   | str i=>obtain⟨g,rfl⟩:=o;show Yj (SeqAt.EqAt.list_str i g Y.isList e) (ow λw=>nomatch w).symm
   | tupI l p =>
    cases o;obtain⟨q,R7,d,_⟩:=I.tuple l;show Yj (SeqAt.EqAt.list_tuple Y.isList (show s.heap.IsTuple _ q.toArray from d) e) (ow λw=>nomatch w).symm
   | @lstI _ b ys us l p =>
    cases o
    by_cases E:a=b
    ·subst E;rw[Im.inj I (Im.lstI M J) (Im.lstI l p),og rfl];show DY _
    ·show SeqAt.EqAt.of_refs E (Im.list_rc I L e M J.toP l p.toP).1
  | non =>
   cases c;cases N with
   | non=>cases o;show Yj (DY _) (og rfl).symm
   | int i=>obtain⟨g,rfl⟩:=o;show Yj (SeqAt.EqAt.none_int i g) (ow λw=>nomatch w).symm
   | str i=>obtain⟨g,rfl⟩:=o;show Yj (SeqAt.EqAt.none_str i g) (ow λw=>nomatch w).symm
   | tupI l p=>cases o;obtain⟨q,_,d,_⟩:=I.tuple l;show Yj (SeqAt.EqAt.none_tuple (show s.heap.IsTuple _ q.toArray from d) e) (ow λw=>nomatch w).symm
   | lstI l p=>cases o;obtain⟨q,_,d,_⟩:=I.list l;show Yj (SeqAt.EqAt.none_list d.isList e) (ow λw=>nomatch w).symm
  | int j =>
   cases N with
   | tupI l p=>obtain⟨g,rfl⟩:=c;cases o;obtain⟨q,_,d,_⟩:=I.tuple l;show Yj (SeqAt.EqAt.int_tuple j g (show s.heap.IsTuple _ q.toArray from d) e) (ow λw=>nomatch w).symm
   | lstI l p=>obtain⟨g,rfl⟩:=c;cases o;obtain⟨q,_,d,_⟩:=I.list l;show Yj (SeqAt.EqAt.int_list j g d.isList e) (ow λw=>nomatch w).symm
   | _=>show Yj (zQ c o rfl rfl) (by rw[su];(delta rn;simp))
  | str j =>
   cases N with
   | tupI l p=>obtain⟨g,rfl⟩:=c;cases o;obtain⟨q,_,d,_⟩:=I.tuple l;show Yj (SeqAt.EqAt.str_tuple j g (show s.heap.IsTuple _ q.toArray from d) e) (ow λw=>nomatch w).symm
   | lstI l p=>obtain⟨g,rfl⟩:=c;cases o;obtain⟨q,_,d,_⟩:=I.list l;show Yj (SeqAt.EqAt.str_list j g d.isList e) (ow λw=>nomatch w).symm
   | _=>show Yj (zQ c o rfl rfl) (by rw[su];(delta rn;simp))
def DO(K:mf)(neg:Bool):R2:=λx y H Q=>∃n t u,n<=60/\((∃z w,t=Tr.tup z/\u=Tr.tup w)\/∃z w,t=Tr.lst z/\u=Tr.lst w)/\Im K H n t x/\Im K H n u y/\Q (.bl<|if neg then !decide (t=u)else decide (t=u)) H
def SK{X:Cx}(M:X.A.units+64<cLine):om X (compareOp .Eq) (DO X.K false):=by
 intro L s z H x y v u Q I e d h;obtain⟨n,t,J,G,Y,c,a,q⟩:=h;rcases Y with⟨U,N,rfl,rfl⟩|⟨U,N,rfl,rfl⟩
 ·cases c with
  | tupI o l =>
   cases a with
   | tupI j p =>
    cases e;cases d;show(Im.tuple_rc (A:=X.A) I (λw i r g=>Im.eqAt I _ _ w i r g<|by rw[We];lia) (by lia) o l.toP j p.toP).1 _ _ _ _ #[.bl _,H,I,rfl,q]
 ·cases c with
  | lstI o l =>
   cases a with
   | lstI j p =>
    cases e;cases d;show(Im.list_rc (A:=X.A) I (λw i r g=>Im.eqAt I _ _ w i r g<|by rw[We];lia) (by lia) o l.toP j p.toP).1 _ _ _ _ #[.bl _,H,I,rfl,q]
def Yf4{X:Cx}(M:X.A.units+64<cLine):om X (compareOp .NotEq) (DO X.K true):=by
 intro L s z H x y v u Q I e d h;obtain⟨n,t,J,G,Y,c,a,q⟩:=h;rcases Y with⟨U,N,rfl,rfl⟩|⟨U,N,rfl,rfl⟩
 ·cases c with
  | tupI o l =>
   cases a with
   | tupI j p =>
    cases e;cases d;show(Im.tuple_rc (A:=X.A) I (λw i r g=>Im.eqAt I _ _ w i r g<|by rw[We];lia) (by lia) o l.toP j p.toP).2 _ _ _ _ #[.bl _,H,I,rfl,q]
 ·cases c with
  | lstI o l =>
   cases a with
   | lstI j p =>
    cases e;cases d;show(Im.list_rc (A:=X.A) I (λw i r g=>Im.eqAt I _ _ w i r g<|by rw[We];lia) (by lia) o l.toP j p.toP).2 _ _ _ _ #[.bl _,H,I,rfl,q]
def Jr(t:TA):TE:=λz H Q=>t z H λx w=>x.length<=sizeLine/\∀p y,mK w y->w p=none->y p=some (.tup x)->Q (.ref p) y
def VZ(t:TA):TE:=λz H Q=>t z H λx w=>x.length<=sizeLine/\∀p y,mK w y->w p=none->y p=some (.lst x)->Q (.ref p) y
def Zi{n}(h:PA X l t):PE X (.Tuple l n pos) (Jr t):=by
 intro j s z H Q I i;refine wpAny_Tuple_spliced<|ny (h pos j s z H _ I i) λg x ⟨d,w,p,r,y,q⟩=>#[by rw[<-r.length];show y,?_];have o:w #v[x]=none:=p.hok.fresh<|nK _;refine#[.ref #v[x],mT w #v[x] (.tup d),p.laid (t':=x.toks) (λb u e=>nZ _ e) (nK _) ?_,rfl,q _ _ (mK.new o) o Zc];show#[y,g,r,#[_,oG _ rfl,rfl,_,rfl]]
def Zm(h:PA X n t):PE X (.List n pos) (VZ t):=by
 intro l s z H Q I j;refine wpAny_List_spliced<|ny (h pos l s z H _ I j) λi x ⟨g,w,p,r,y,q⟩=>#[by rw[<-r.length];show y,?_];have o:w #v[x]=none:=p.hok.fresh<|nK _;refine#[.ref #v[x],mT w #v[x] (.lst g),p.laid (t':=x.toks) (λb u e=>nZ _ e) (nK _) ?_,rfl,q _ _ (mK.new o) o Zc];show#[y,i,0,r,oG _ rfl]
def om.imp{f:ma->ma->Sem ma}(h:om X f r)(g:∀x y H Q,w x y H Q->r x y H Q):om X f w:=λp s z H x y v u Q I o n q=>h p s z H x y v u Q I o n<|g _ _ _ _ q
def sH.imp{r y:V->me Int->me Int->Hp->VK->Prop}(h:sH X r)(g:∀x l u H Q,y x l u H Q->r x l u H Q):sH X y:=λw s z H x v p o lo n j Q I i e d c q=>h w s z H x v p o lo n j Q I i e d c<|g _ _ _ _ _ q
def Y5.imp{r y:lX V->Hp->VK->Prop}(h:Y5 X f r)(g:∀xs H Q,y xs H Q->r xs H Q):Y5 X f y:=λx s z H xs w Q I u q=>h x s z H xs w Q I u<|g _ _ _ q
def pG(H:Hp)(o:HO)(Q:VK):Prop:=∀p z,mK H z->H p=none->z p=some o->Q (.ref p) z
def pG.at(h:pG H o Q)(p:lZ)(z:H p=none):Q (.ref p) (mT H p o):=h p _ (mK.new z) z Zc
inductive Jf(H:Hp)(Q:VK):V->V->Prop
 | mk {l b xs zs}:H l=some (.lst xs)->H b=some (.lst zs)->xs.length+zs.length<=sizeLine->pG H (.lst<|xs++zs) Q->Jf H Q (.ref l) (.ref b)
def Jg:R2:=λx y H Q=>Jf H Q x y
def Sb:om X (binaryOp .Add) Jg:=Yfj.imp λx y H Q h=>by
 obtain@⟨l,b,z,w,u,s,r,q⟩:=h;show#[l,b,z,w,rfl,rfl,u,s,r,λp o=>q.at p o]
inductive OQ(K:Frag)(lo hi:Option Int)(H:Hp)(Q:VK):V->Prop
 | mk {a xs}:SqT K H a xs->¬(HT.sIx xs.length 0 lo=0/\HT.sIx xs.length xs.length hi=xs.length)->pG H (.tup<|rX xs lo hi) Q->OQ K lo hi H Q (.ref a)
def IL(K:mf):V->me Int->me Int->Hp->VK->Prop:=λx lo z H Q=>OQ K lo z H Q x
def TW:sH X (IL X.K):=SS.imp λx l u H Q h=>by
 obtain@⟨a,z,y,w,s⟩:=h;show#[a,z,rfl,y,w,λp r=>s.at p r]
inductive NK(K:Frag)(lo hi:Option Int)(H:Hp)(Q:VK):V->Prop
 | mk {a xs}:SqL K H a xs->pG H (.lst<|rX xs lo hi) Q->NK K lo hi H Q (.ref a)
def LG(K:mf):V->me Int->me Int->Hp->VK->Prop:=λx lo z H Q=>NK K lo z H Q x
def SQ:sH X (LG X.K):=SI.imp λx l u H Q h=>by
 obtain@⟨a,z,y,w⟩:=h;show#[a,z,rfl,y,λp s=>w.at p s]
def wy(o:lX V->Hp->VK->Prop)(M:Mk X.K C f)
  (F:Xm X.prog X.w X.K X.mg X.mM l k f fd ps j) (i:Y0 (k+1) X.A) (g:Gl X x) (d:X.mg x=some (.ref C)) (c:qG X.K fd ps ds) (hd:Ya a ds) (Y:tO l X E)
  (u:∀vs H Q,o vs H Q->∀x y,H x=none->H y=none->y≠x->j (.ref x ::(vs++a)) (mT (mT H y<|.own x) x<|.ins C y []) (λv U=>v=.non/\Q (.ref x) U) E)
  (N:PA X (e ::w) t) (L:(x ==("__debug__":lY))=false:=by lk) (J:starEach (e ::w) X.env=(false,eval e X.env) ::starEach w X.env:=by rfl) (G:(backTo pos<|starEach w X.env).any (·.1)=false:=by rfl) :
  PE X (.Call (.Name x p) (e ::w) [] pos) (yV o t):=by
 intro D s z H Q I h;refine uE<|xk I g d ?_ L;refine AQ (h₀:=X.mM) I.ok.mod.kin M.kp (ny (N pos D s z H _ I h) λA s1 ⟨vs,B,n,r,q⟩=>#[n.kIn,?_]) J G;show SV M F i c hd Y n r<|u vs B Q q
def Yfh(w:X.A.units+1<cLine):om X (compareOp .In) (λy x H Q=>∃a o,x=.ref a/\Wc H a y o/\Q (.bl o.isSome) H):=by
 intro j s z H y x v u Q I r p h;obtain⟨a,n,rfl,g,q⟩:=h;cases p;show Yjp w I g r λi l=>#[.bl n.isSome,H,l,rfl,q]
def Ss(w:X.A.units+1<cLine):om X (compareOp .NotIn) (λy x H Q=>∃a o,x=.ref a/\Wc H a y o/\Q (.bl (!o.isSome)) H):=by
 intro j s z H y x v u Q I r p h;obtain⟨a,n,rfl,g,q⟩:=h;cases p;show Tj w I g r λi l=>#[.bl (!n.isSome),H,l,rfl,q]
def Wl:om X (binaryOp .Add) (λx y H Q=>wu (λi j=>.int<|i+j) x y H Q\/(∃i j,x=.str i/\y=.str j/\i.length+j.length<=sizeLine/\Q (.str<|i++j) H)\/Jg x y H Q):=Yf5.or<|Zug.or Sb
def sz(h:n<=1000):n<=sizeLine:=pU<|Zp h
structure wU(K:Frag)(x qual:Str)(st:Stmt)(dV:Value)(f:Addr)(fd:FuncData):Prop where
 ex:∃(oc:Value)(od:Option Addr)(kV A4 pm:Value)(an:Option Addr)(d6 ct:Value)(N6:Array (Option Value)),
  fd=fnOf x qual (Wz st) (Y1 st) (Zj st) dV kV A4 pm an d6 ct/\K.lookup f=some #[oc,od,.func fd,N6]/\codeIn K d6 qual=true
 kp:keepIn K (.ref f)=true
section
variable {P:mn} {w:mj} {K:mf} {mg:lY->me ma} {mM:mi}
def wU.ok{x qual:lY}{st:mh}{r:ma}{f:lZ}{fd:mq}{N ps:lX lY}{k:Nat}{y:Sp}(F:wU K x qual st r f fd)(S:Zy N ps (Zj st))(len:∀vs H Q E,y vs H Q E->vs.length=ps.length)
  (q:∀(z:ma)(A:mo)(u:lX Env)(s:md)(H:Hp)(vs:lX V)(Q:VK)(E:XK),Y0 k (A.deeper<|envOfC qual (Zj st) #v[s] f z)->y vs H Q E->
   WSs (W8 ph P w K mg mM N qual (Zj st) f z A u s H E).nox (Y1 st) {nx:=λ_ p=>Q .non p,rt:=Q} (start N vs) H):Xm P w K mg mM ph (k+1) f fd ps y:=by
 obtain⟨j,i,kV,h,g,e,z,d,c,rfl,lk,o⟩:=F.ex;refine Dj lk o S len λA u s H vs Q E n l=>?_
 show#[_,qV.nox Zo,q z A u s H vs Q E n l]
def qX.okW{x qual:lY}{st:mh}{f:lZ}{fd:mq}{N ps:lX lY}{k:Nat}{z:Sp}(F:qX K x qual st f fd)(S:Zy N ps (Zj st))
  (y:∀(d6:ma)(A:mo)(mJ:lX Env)(s:md)(H:Hp)(vs:lX V)(Q:VK)(E:XK),Y0 k (A.deeper<|envOfC qual (Zj st) #v[s] f d6)->z vs H Q E->
   let X:=(W8 ph P w K mg mM N qual (Zj st) f d6 A mJ s H E).nox;let D:qj:={nx:=λ_ u=>Q .non u,rt:=Q};WSs X (Y1 st) D (start N vs) H) (len:∀vs H Q E,z vs H Q E->vs.length=ps.length:=by bv_omega):Xm P w K mg mM ph (k+1) f fd ps z :=
 F.ok S len λd6 A mJ s H vs Q E hr h=>#[_,Zo,y d6 A mJ s H vs Q E hr h]
def qX.okA{x qual:lY}{st:mh}{f:lZ}{fd:mq}{ps:lX lY}{k:Nat}{z:Sp}(F:qX K x qual st f fd)
  (y:∀(d6:ma)(A:mo)(mJ:lX Env)(s:md)(H:Hp)(vs:lX V)(Q:VK)(E:XK),Y0 k (A.deeper<|envOfC qual (Zj st) #v[s] f d6)->z vs H Q E->
   let X:=(W8 ph P w K mg mM ps qual (Zj st) f d6 A mJ s H E).nox;let D:qj:={nx:=λ_ u=>Q .non u,rt:=Q};WSs X (Y1 st) D (start ps vs) H) (len:∀vs H Q E,z vs H Q E->vs.length=ps.length:=by bv_omega) (S:Zy ps ps (Zj st):=by show{}):Xm P w K mg mM ph (k+1) f fd ps z:=F.okW S y len
def Le{x qual:lY}{st:mh}{f:lZ}{p y:ma}{od u:me lZ}{o:Array (me ma)}{kV s r z q:ma}(l:K.lookup f=some #[p,od,.func<|fnOf x qual (Wz st) (Y1 st) (Zj st) y kV s r u z q,o])
  (c:codeIn K z qual=true) (k:keepIn K (.ref f)=true):wU K x qual st y f (fnOf x qual (Wz st) (Y1 st) (Zj st) y kV s r u z q):=#[#[p,od,kV,s,r,u,z,q,o,rfl,l,c],k]
end
structure Dn(K:Frag)(x qual:Str)(st:Stmt)(ps:List Str) where
 f:Addr
 fd:FuncData
 F:qX K x qual st f fd
 b:qG K fd ps []
def FN{z:Type}{l:lX z}{a:z}(h:l[i]? =some a):l.drop i=a ::l.drop (i+1):=by
 have x:i<l.length:=by
  rcases wS i l.length with y|y
  ·show y
  ·rw[uZ y]at h;cases h
 rw[za x];rw[oR x]at h;rw[pc h]
theorem Xg:∀l:lX lY,(l.map V.str).all sR=true
 | []=>rfl
 | _ ::l=>by rw[oq,EE,Xg l];rfl
theorem X1(x:lY):∀l:lX lY,tL (.str x) (l.map V.str)=decide (x∈l)
 | []=>by simp[tL]
 | y ::l=>by
  have z:=X1 x l;unfold tL at z ⊢;rw[oq,xF,z,su]
  delta rn
  simp only[Bp,qN,vo,oh]
  constructor
  ·rintro(h|h)
   ·show .inl h.symm
   ·show .inr h
  ·rintro(h|h)
   ·show .inl h.symm
   ·show .inr h
end L2
end
section
namespace NM
open PySem L2
def qQ:lX Nat:=[97,98,99,100,101,102,103,104,105,106,107,108,109,110,111,112,113,114,115,116,117,118,119,120,121,122]
def BV:("abcdefghijklmnopqrstuvwxyz":lY).cps.toList=qQ:=by left
def Dq:("abcdefghijklmnopqrstuvwxyz":lY).length=26:=by left
end NM
end
section
namespace L2
open PySem PySem.Spec PyProof.Rows
def Yij:HO->Bool
 | .dK _=>true
 | .dT _=>true
 | _=>false
variable {X:Cx}
def oz.retold(x:oz P w H h)(hd:H d=some v)(r:∀y,v≠.own y)(p:∀xs,v≠.tup xs)(n:∀o y,v≠.frz o (.own y))(l:∀ps,v≠.tbl ps)(new:Z7 P w (mT H d u) h d u):oz P w (mT H d u) h:=λb q e=>by
 by_cases s:b=d
 ·subst s;rw[Zc]at e;cases e;show new
 ·rw[Zd s]at e;refine(x b q e).stay (λ_ _ _ z=>z) (λc z=>?_) (λc xs z=>?_) (λc j z=>?_) (λc ps z=>?_)
  ·rw[Zd (λy=>by subst y;rw[hd]at z;show r _<|pc z)];show z
  ·rw[Zd (λy=>by subst y;rw[hd]at z;show p _<|pc z)];show z
  ·rw[Zd (λy=>by subst y;rw[hd]at z;show n _ _<|pc z)];show z
  ·rw[Zd (λy=>by subst y;rw[hd]at z;show l _<|pc z)];show z
def Ot(hd:H d=some v)(s:∀y,v≠.own y)(r:∀xs,v≠.tup xs)(q:∀o y,v≠.frz o (.own y))(p:∀ps,v≠.tbl ps)(x:Z7 P w H h d u):Z7 P w (mT H d n) h d u :=
 x.stay (λ_ _ _ z=>z) (λc z=>by rw[Zd (λy=>by subst y;rw[hd]at z;show s _<|pc z)];show z) (λc xs z=>by rw[Zd (λy=>by subst y;rw[hd]at z;show r _<|pc z)];show z) (λc l z=>by rw[Zd (λy=>by subst y;rw[hd]at z;show q _ _<|pc z)];show z) (λc ps z=>by rw[Zd (λy=>by subst y;rw[hd]at z;show p _<|pc z)];show z)
def mS.retell(I:mS X h z H s)(hd:H d=some v)(g:∀y,v≠.own y)(l:∀xs,v≠.tup xs)(a:∀o y,v≠.frz o (.own y))(j:∀ps,v≠.tbl ps)(Y:∀o u,X.mz d≠some (.frz o u))(new:Z7 X.prog X.w (mT H d i) s.heap d i) :
  mS X h z (mT H d i) s:=by
 have r:∀b,H b=none->b≠d:=λb n x=>by subst x;rw[n]at hd;cases hd
 refine#[I.ok,I.os,I.bare,?_,I.loc,I.cell,?_,λw c e=>?_,λp U=>?_,I.hok.retold hd g l a j new,I.len]
 ·have b:=I.mM;refine#[b.keep,b.slot,λc q e n Q=>?_,b.there,λc xs e=>?_,λc N q e=>?_,λc ps e=>?_]
  ·have x:=b.free c q e n Q;rw[Zd (r c x)];show x
  ·have x:=b.tups c xs e;rw[Zd (λy=>by subst y;rw[hd]at x;show l _<|pc x)];show x
  ·have x:=b.frzs c N q e;rw[Zd (λy=>by subst y;show Y _ _ e)];show x
  ·obtain⟨m,x⟩:=b.tbls c ps e;show#[m,by rw[Zd (λy=>by subst y;rw[hd]at x;show j _<|pc x)];show x]
 ·rw[Zd (r _ I.free)];show I.free
 ·rw[Zd (r _<|I.freeC w c e)];show I.freeC w c e
 ·obtain⟨Q,q,N⟩:=I.pin p U;show#[Q,by rw[Zd (r _ q)];show q,N]
def mS.notFrz(I:mS X x z H s)(hd:H d=some v)(n:∀o u,v≠.frz o u):∀o u,X.mz d≠some (.frz o u):=λo u y=>by
 have:=I.mM.frzs d o u y;rw[hd]at this;show n _ _<|pc this
def mS.freeze(I:mS X n z H s)(hd:H d=some u)(w:Yij u=true)(l:s.heap.get? d=some o):mS X n z (mT H d<|.frz o u) s:=by
 have r:∀y,u≠.own y:=λy x=>by subst x;cases w
 have q:∀j,u≠.tup j:=λy x=>by subst x;cases w
 have p:∀o y,u≠.frz o (.own y):=λo y x=>by subst x;cases w
 refine I.retell hd r q p (λy x=>by subst x;cases w) (I.notFrz hd λ_ _ x=>by subst x;cases w) #[l,Ot hd r q p (λy x=>by subst x;cases w)<|I.hok d u hd]
def mS.thaw(I:mS X p z H s)(hd:H d=some (.frz o u))(n:∀o u,X.mz d≠some (.frz o u))(l:∀y,u≠.own y:=by show λ_ x=>nomatch x):mS X p z (mT H d u) s:=by
 obtain⟨_,q⟩:=I.hok d _ hd;have w:∀r y,HO.frz o u≠.frz r (.own y):=λr y x=>l y (HO.frz.inj x).2
 show I.retell hd (λ_ x=>nomatch x) (λ_ x=>nomatch x) w (λ_ x=>nomatch x) n<|Ot hd (λ_ x=>nomatch x) (λ_ x=>nomatch x) w (λ_ x=>nomatch x) q
def mK.thaw(hd:H d=some u)(h:mK (mT H d<|.frz o u) y):mK H (mT y d u):=λb q e=>by
 by_cases z:b=d
 ·subst z;rw[hd]at e;cases e;show Zc
 ·rw[Zd z];show h b q (by rw[Zd z];show e)
def mK.rd(e:mK H z)(h:Rd H a u):Rd z a u:=by
 rcases h with h|⟨o,h⟩
 ·show .inl<|e _ _ h
 ·show .inr #[o,e _ _ h]
def Py(d:lZ)(o:Obj)(kvs:lX (nI×V)):It :=
 #[λi H=>H d=some (.frz o<|.dK kvs)/\i<kvs.length,λi H x z=>z=H/\∃kv,kvs[i]? =some kv/\x=kV kv.1,λi H=>H d=some (.frz o<|.dK kvs)/\kvs.length<=i]
def Fp(h:(Z4 P w).is k u=true):Yg (kV k) u:=by
 rcases Xb (show vR k u=true from h)with⟨i,t,rfl,rfl⟩|⟨x,t,rfl,rfl⟩
 ·show#[t,rfl]
 ·show#[t,rfl]
def KV.get{kvs:lX (nI×V)}{vs:lX (nI×ma)}{i:Nat}{kv:nI×V}(r:KV kvs vs)(h:kvs[i]? =some kv):∃u,vs[i]? =some (kv.1,u)/\Yg kv.2 u:=by
 obtain⟨q,z,y,x⟩:=Paired.get r h;show#[q.2,by rw[z,y],x]
def Zxt{P:mn}{w:mj}{K:mf}{tg:ml}{d:lZ}{o:Obj}{kvs:lX (nI×V)}{vs:lX (nI×ma)}{ep:Nat}(it:lZ)(G:KV kvs vs)
  (D:∀h:mi,h.get? d=some o->h.DictAt (Z4 P w) d vs ep):wq P w K tg (Py d o kvs) [it] it (λi h=>h.IsKeyIter it d i vs.length ep) where
 mem:=by simp
 obj:=λi h st b x=>by
  have e:b=it:=by simpa using x
  subst e;obtain⟨q,e,c,l⟩:=st;show#[q,e,λv y=>by rw[l]at y;cases y]
 keep:=λi h p st k=>st.at λq e=>k it (by simp) q e
 item:=by
  intro X j g a C i B s z H E I n st Y;subst j g a;obtain⟨U,A⟩:=Y;obtain⟨Q,N,f2,M,L,J⟩:=n it (by simp);have r:s.heap.get? d=some o:=(I.hok d _ U).1;obtain⟨u,hu,_⟩:=G.get (i:=i) (kv:=kvs[i]) (by simp[A]);refine wpAny_pyNext_dict_item (knd:=Z4 X.prog X.w) st (D _ r) hu λkey p J9 C2 sb=>?_
  have I1:mS X B z H {s with heap:=p}:=I.turned (t':=s.toks) (λb o x e=>(sb.2 b x).trans e) Q N M L J;obtain⟨q,e,c,l⟩:=id C2;show#[key,rfl,zJ (s:={s with heap:=p}) e c l (by lk) #[kV kvs[i].1,H,I1,Fp J9,#[rfl,kvs[i],by simp[A],rfl],C2,λb x=>(n b x).1]]
 done:=by
  intro X j g a C i B s z H E I n st Y;subst j g a;obtain⟨U,y⟩:=Y;obtain⟨Q,N,f2,M,L,J⟩:=n it (by simp);have r:s.heap.get? d=some o:=(I.hok d _ U).1;have hl:=KV.length G;show wpAny_pyNext_dict_end (knd:=Z4 X.prog X.w) (I.ok.hd C) st (D _ r) (uZ<|by lia) λp eb=>#[rfl,I.turned (t':=s.toks) (λb o x e=>eb b o x e) Q N M L J]
 self:=λ_ _ _ _ _ st h=>wpAny_pyIter_keyiter st h
def NF(X:Cx)(d:lZ)(u:HO):Prop:=(∀o u,X.mz d≠some (.frz o u))/\∀y,u≠.own y
def xE(X:Cx)(Q:Hp->Prop)(H:Hp):Prop:=∃d o u,H d=some (.frz o u)/\NF X d u/\Q (mT H d u)
def xE.run{Q:Hp->Prop}(I:mS X w z H s)(h:xE X Q H):∃y,mS X w z y s/\Q y:=by
 obtain⟨d,o,u,hd,x,q⟩:=h;show#[_,I.thaw hd x.1 x.2,q]
inductive Ih(X:Cx)(I:Addr->Obj->List (nI×V)->It)(R:It->Hp->Prop)(H:Hp):V->Prop
 | mk {d kvs}:H d=some (.dK kvs)->(∀o,NF X d (.dK kvs)->R (I d o kvs) (mT H d<|.frz o<|.dK kvs))->Ih X I R H (.ref d)
def Yhw(X:Cx)(y:TE):TI:=λz H R=>y z H λx w=>Ih X Py R w x
def HH{P:mn}{w:mj}{h:mi}{d:lZ}{o:Obj}{vs:lX (nI×ma)}(x:h.DictOf (Z4 P w) d vs)(z:h.get? d=some o):∃ep,∀h':mi,h'.get? d=some o->h'.DictAt (Z4 P w) d vs ep:=by
 obtain⟨u,y,ep,e,r⟩:=x;rw[z]at e;cases e;show#[ep,λh' u=>#[o,y,u,r]]
def Yiw{X:Cx}{g l:ml}{p:TE}(c:PE X l p):PI X g l (Yhw X p):=by
 intro n s z H R I h;refine ny (c n s z H _ I h) λv s1 ⟨y,a,x,Y,U⟩=>?_
 obtain@⟨d,w,hd,q⟩:=U;cases Y;obtain⟨y,Q,N,kv,j⟩:=Bb x.hok hd;obtain⟨o,_,_,u,_⟩:=id j;obtain⟨M,i⟩:=HH j u;have r:=x.freeze hd rfl u;refine wpAny_pyIter_dict (knd:=Z4 X.prog X.w) Q (i _ u) ?_;have L:mS X n z (mT a d<|.frz o<|.dK w) {s1 with heap:=s1.heap.push {cls:=.type "dict_keyiterator",data:=.fields (List.toArray [.ref d,.int 0 0,.int N.length 0,.int M 0])}}:=r.kept (t':=s1.toks) λb o e=>nZ _ e
 refine#[#v[s1],[#v[s1]],_,_,_,rfl,L,Zxt _ kv i,#[_,oG _ rfl,rfl,rfl],λb J=>?_,q o #[x.notFrz hd (λ_ _ y=>nomatch y),λ_ y=>nomatch y]];have e:b=#v[s1]:=by simpa using J
 subst e;show r.fpOk (nK _)<|r.hok.fresh<|nK _
def Yg8(X:Cx)(t:TS):TS:=λD z H=>t {nx:=λy=>xE X<|D.nx y,rt:=λv=>xE X<|D.rt v,bk:=λy=>xE X<|D.bk y,ct:=λy=>xE X (D.ct y)} z H
def Pi{X:Cx}{st:mh}{t:TS}(h:PS X st t):PS X st (Yg8 X t):=by
 intro j s z H D I i;refine ny (h j s z H _ I i) λf g y=>?_
 cases f with
 | next=>obtain⟨x,l,w,q⟩:=y;obtain⟨p,o,n⟩:=q.run w;show#[x,p,o,n]
 | brk=>obtain⟨x,l,w,q⟩:=y;obtain⟨p,o,n⟩:=q.run w;show#[x,p,o,n]
 | cont=>obtain⟨x,l,w,q⟩:=y;obtain⟨p,o,n⟩:=q.run w;show#[x,p,o,n]
 | ret u=>obtain⟨v,x,l,w,r,q⟩:=y;obtain⟨p,o,n⟩:=q.run w;show#[v,x,p,o,r,n]
def XZ(X:Cx)(t:TE):TE:=λz H Q=>t z H λv=>xE X<|Q v
def GH(h:PE X e t):PE X e (XZ X t):=by
 intro y s z H Q I x;refine ny (h y s z H _ I x) λu l ⟨v,j,w,r,q⟩=>?_
 obtain⟨p,o,n⟩:=q.run w;show#[v,p,o,r,n]
def mS.turnedNew{ch:lX lZ}{o:HO}{h':mi}{t':Nat}(I:mS X h z H s)(l:∀b∈ch,uc X h H b)(k:∀b u,b∉ch->s.heap.get? b=some u->h'.get? b=some u)
  (new:Z7 X.prog X.w (mT H #v[s] o) h' #v[s] o):mS X h z (mT H #v[s] o) {s with heap:=h',toks:=t'}:=by
 have w:H #v[s]=none:=I.fresh;have j:∀b u,s.heap.get? b=some u->b≠#v[s]:=λb u e=>oi<|nS e
 have vv:∀b u,H b=some u->b∉ch:=λb u e y=>by rw[(l b y).1]at e;cases e
 refine I.step (g':=s.gens) (d':=s.drawn) (ch:=ch) (λb p=>?_) (λb o _ _ x e _=>k b o x e) (λb o _ _ x e _=>#[o.slots,k b o x e]) (λb o _ e n=>by rw[Zd (j b o e)];show n)
  (λb o x e=>#[o,k b o x e]) (λb g e=>by rw[Zd (Ze e w)];show e) (λb i u e=>by rw[Zd (Ze e w)];show e) (λb r e=>#[#[],by rw[Zd (Ze e w),e];simp]) (λm d=>?_) (λb u e=>?_) I.bare
 ·obtain⟨a,r,Y,q,n,c⟩:=l b p;show#[q,r,n,c]
 ·obtain⟨i,q,n,c,r⟩:=d;show#[i,q,n,k _ i (λy=>(l _ y).2.1 rfl) c,r]
 ·by_cases p:b=#v[s]
  ·subst p;rw[Zc]at e;cases e;show new
  ·rw[Zd p]at e;refine(I.hok b u e).stay (λc v x q=>k c v ?_ q) (λc q=>by rw[Zd (Ze q w)];show q) λc g q=>by rw[Zd (Ze q w)];show q
   rcases x with y|y
   ·rw[y];show vv b u e
   ·show vv c _ y
def HP(K:mf)(l:lZ):It :=
 #[λi H=>∃z x,SqL K H l z/\z[i]? =some x,λi H x w=>∃p y,x=.ref p/\H p=none/\w=mT H p (.tup [.int (i:Nat),y])/\∀z,SqL K H l z->z[i]? =some y,λi H=>∃z,SqL K H l z/\z.length<=i]
def YV{P:mn}{w:mj}{K:mf}{Q7:lX ml}{x1:Nat}{pos:Pos}{l:lZ}(e it:lZ)(A:e≠it) :
  wq P w K (.Tuple Q7 x1 pos) (HP K l) [e,it] e (λi h=>(∃r,IsEnum h e it (i:Nat) r)/\h.IsListIter it l i) where
 mem:=by simp
 obj:=λi h st b n=>by
  obtain⟨⟨r,j⟩,g⟩:=st;rcases oh.mp n with rfl|n
  ·show#[_,j,λv y=>nomatch y]
  ·have q:b=it:=by simpa using n
   subst q;obtain⟨o,e,c,d⟩:=g;show#[o,e,λv y=>by rw[d]at y;cases y]
 keep:=λi h h' st k=>by
  obtain⟨⟨r,j⟩,g⟩:=st;show#[#[r,k e (by simp) _ j],g.at λo q=>k it (by simp) o q]
 item:=by
  intro X Q N M hc i c7 s z H E I Y st L;subst Q N M;obtain⟨⟨r,j⟩,g⟩:=st;obtain⟨xs,x,U,J⟩:=L;obtain⟨c8,G,p,hz⟩:=I.list U;obtain⟨u,hu,ru⟩:=G.get J;refine wpAny_pyNext_enum_item j g p.isList (x:=u) (by simpa using hu) A λh' ho U9 ht hsz kk=>?_
  refine#[_,rfl,wpAny_letOwnedTupleGo_enum ho λD C B=>?_];have N3:e<#v[s]:=nS j;have D5:it<#v[s]:=let⟨o,q,_⟩:=g;nS q;have k2:∀b v,b∉[e,it]->s.heap.get? b=some v->D.get? b=some v:=λb v n q=>by
   have b1:b≠e:=λy=>n (by simp[y])
   have b2:b≠it:=λy=>n (by simp[y])
   show(B.2 b b1).trans (kk b v b1 b2 q)
  have a:D.get? #v[s]=some {cls:=.type "tuple",data:=.seq (List.toArray [.int i s.toks,u])}:=(B.2 _<|vK N3).trans ht;have new:Z7 X.prog X.w (mT H #v[s] (.tup [.int (i:Nat),x])) D #v[s] (.tup [.int (i:Nat),x]) :=
   #[sz (by simp),[.int i s.toks,u],.cons #[_,rfl]<|.cons ru .nil,#[_,a,rfl,_,rfl]]
  refine#[.ref #v[s],_,I.turnedNew (t':=s.toks+1) Y k2 new,rfl,#[_,x,rfl,I.fresh,rfl,λc d=>by rw[I.list_inj d U];show J],#[#[_,C],?_],λb n=>?_]
  ·show U9.at λo q=>(B.2 it A.symm).trans q
  ·rw[Zd ?_]
   ·show(Y b n).1
   ·rcases oh.mp n with rfl|n
    ·show oi N3
    ·have q:b=it:=by simpa using n
     subst q;show oi D5
 done:=by
  intro X Q N M hc i c7 s z H E I Y st L;subst Q N M;obtain⟨⟨r,j⟩,g⟩:=st;obtain⟨xs,U,J⟩:=L;obtain⟨c8,G,p,hz⟩:=I.list U;obtain⟨f0,f1,d,f3,f4,f5⟩:=Y it (by simp);have hl:=G.length;show wpAny_pyNext_enum_end (I.ok.hd hc) j g p.isList (by simp;lia) λh' eb=>#[rfl,I.turned (t':=s.toks) (λb o n e=>eb b o n e) f0 f1 f3 f4 f5]
 self:=λ_ _ _ _ _ st h=>by
  obtain⟨⟨r,j⟩,_⟩:=st;show wpAny_pyIter_enum j h
inductive IU(K:Frag)(R:It->Hp->Prop)(H:Hp):List V->Prop
 | mk {l xs}:SqL K H l xs->R (HP K l) H->IU K R H [.ref l]
def Yh5(K:mf)(y:TA):TI:=λz H R=>y z H λx w=>IU K R w x
def yu{X:Cx}{i:lX ml}{g:Nat}{x:Pos}{a:ml}{r:TA}{p pos:Pos}(d:Gl X "enumerate")(c:X.mg "enumerate"=none)(Y:PA X [a] r)(U:starEach [a] X.env=[(false,eval a X.env)]:=by rfl) :
  PI X (.Tuple i g x) (.Call (.Name "enumerate" p) [a] [] pos) (Yh5 X.K r):=by
 intro o s z H R I h;refine Call_<|vE I d c boot_enumerate<|yJ (ny (Y pos o s z H _ I h) λu s1 ⟨l,n,y,Q,N⟩=>?_) U rfl;obtain@⟨l,u,M,q⟩:=N;obtain⟨u,rfl,L⟩:=Wr Q;cases L;obtain⟨u,l,J,e⟩:=y.list M;refine call_enumerate_list J.isList λG j E D C=>wpAny_pyIter_enum j ?_
 have B:mS X o z n {s1 with heap:=G}:=y.kept (t':=s1.toks) C;refine#[#v[s1]+1,[#v[s1]+1,#v[s1]],_,_,n,rfl,B,YV _ _<|Nat.succ_ne_self _,#[#[_,j],E],λb w=>?_,q];rcases oh.mp w with rfl|w
 ·show y.fpOk (qT _)<|y.hok.fresh<|qT _
 ·have e:b=#v[s1]:=by simpa using w
  subst e;show y.fpOk (nK _)<|y.hok.fresh<|nK _
def yD{K:mf}{l:lZ}{xs:lX V}{g:TG}{o:TS}{D:qj}{z:St}{H:Hp}(Pv:Nat->St->Hp->Prop)(j:Pv 0 z H)(w:∀i z H,i<=xs.length->Pv i z H->SqL K H l xs)
  (h:∀i x z H,xs[i]? =some x->Pv i z H->∀p u,mK H u->H p=none->u p=some (.tup [.int (i:Nat),x])->g (.ref p) z u λr d=>o {D with nx:=Pv<|i+1,ct:=Pv<|i+1,bk:=D.nx} r d) (hd:∀z H,Pv xs.length z H->D.nx z H) :
  zP (HP K l) g o D z H:=W3 Pv j (λs H p=>#[xs,w _ s H (nK _) p,nK _]) (λi s H q p=>#[#[xs,xs[i],w i s H (pU q) p,oR q],λx U ⟨a,y,e,n,c,Y⟩=>by subst e c;show h i y s H (Y xs<|w i s H (pU q) p) p a _ (mK.new n) n Zc]) hd
def Ca(d:lZ)(o:Obj)(kvs:lX (nI×V)):It :=
 #[λi H=>H d=some (.frz o<|.dK kvs)/\i<kvs.length,λi H x z=>∃p kv,x=.ref p/\H p=none/\kvs[i]? =some kv/\z=mT H p (.tup [kV kv.1,kv.2]),λi H=>H d=some (.frz o<|.dK kvs)/\kvs.length<=i]
def Vo{P:mn}{w:mj}{K:mf}{Q7:lX ml}{x1:Nat}{pos:Pos}{d:lZ}{o:Obj}{kvs:lX (nI×V)}{vs:lX (nI×ma)}{ep:Nat}(it:lZ)(M:KV kvs vs)
  (L:∀h:mi,h.get? d=some o->h.DictAt (Z4 P w) d vs ep):wq P w K (.Tuple Q7 x1 pos) (Ca d o kvs) [it] it (λi h=>∃ok r,IsItemIter h it d i vs.length ep ok r) where
 mem:=by simp
 obj:=λi h st b x=>by
  have e:b=it:=by simpa using x
  subst e;obtain⟨ok,r,e⟩:=st;show#[_,e,λv y=>nomatch y]
 keep:=λi h J st k=>by
  obtain⟨ok,r,e⟩:=st;show#[ok,r,k it (by simp) _ e]
 item:=by
  intro X g c a G i c7 s z H E I j st Y;subst g c a;obtain⟨ok,r,n⟩:=st;obtain⟨U,D⟩:=Y;have p:s.heap.get? d=some o:=(I.hok d _ U).1;obtain⟨u,hu,ru⟩:=M.get (i:=i) (kv:=kvs[i]) (by simp[D]);refine wpAny_pyNext_items_item (knd:=Z4 X.prog X.w) n (L _ p) hu λkey J J9 ho ht hsz kk=>?_
  refine#[_,rfl,wpAny_letOwnedTupleGo_items ho λQ N C=>?_];have B:it<#v[s]:=nS n;have k2:∀b v,b∉[it]->s.heap.get? b=some v->Q.get? b=some v:=λb v x q=>by
   have A:b≠it:=λy=>x (by simp[y])
   show(C.2 b A).trans (kk b v A q)
  have l:Q.get? #v[s]=some {cls:=.type "tuple",data:=.seq (List.toArray [key,u])}:=(C.2 _<|vK B).trans ht;have new:Z7 X.prog X.w (mT H #v[s] (.tup [kV kvs[i].1,kvs[i].2])) Q #v[s] (.tup [kV kvs[i].1,kvs[i].2]) :=
   #[sz (by simp),[key,u],.cons (Fp J9)<|.cons ru .nil,#[_,l,rfl,_,rfl]]
  refine#[.ref #v[s],_,I.turnedNew (t':=s.toks) j k2 new,rfl,#[_,kvs[i],rfl,I.fresh,by simp[D],rfl],#[_,_,N],λb x=>?_];have e:b=it:=by simpa using x
  subst e;rw[Zd (oi B)];show(j _ x).1
 done:=by
  intro X g c a G i c7 s z H E I j st Y;subst g c a;obtain⟨ok,r,n⟩:=st;obtain⟨U,N2⟩:=Y;obtain⟨f0,f1,f2,f3,f4,f5⟩:=j it (by simp);have p:s.heap.get? d=some o:=(I.hok d _ U).1;have hl:=KV.length M;show wpAny_pyNext_items_end (knd:=Z4 X.prog X.w) (I.ok.hd G) n (L _ p) (uZ<|by lia) λJ eb=>#[rfl,I.turned (t':=s.toks) (λb o x e=>eb b o x e) f0 f1 f3 f4 f5]
 self:=λ_ _ _ _ _ st h=>by
  obtain⟨ok,r,n⟩:=st;show PySem.W.kcp_self n h
def Yeu(X:Cx)(y:TE):TI:=λz H R=>y z H λx w=>Ih X Ca R w x
def zZ{X:Cx}{Y:lX ml}{U:Nat}{x j i:Pos}{o:ml}{to:TE}(Q:PE X o to)(N:attributeBase o "items" X.env (eval o X.env)=eval o X.env:=by rfl)(M:(j.endLine ==i.line)=true:=by rfl) :
  PI X (.Tuple Y U x) (.Call (.Attribute o "items" j) [] [] i) (Yeu X to):=by
 intro g s z H R I h;refine GO N M<|ny (Q g s z H _ I h) λv s1 ⟨y,L,r,J,G⟩=>?_;obtain@⟨d,p,hd,q⟩:=G;cases J;obtain⟨y,E,D,kv,w⟩:=Bb r.hok hd;obtain⟨n,_,_,u,C,_⟩:=id w;obtain⟨y,c⟩:=HH w u;refine#["dict","dict.items",Bu,NX,PySem.F.type_dict_items,w.typeIs,λa e=>?_,xD rfl<|Fo ?_]
 ·cases e;show#[n,u,C.2.1]
 refine zd NX w.typeIs PySem.F.entry_dict_items (PySem.F.args_dict_items_1 _) (meets_dict_items (Z4 X.prog X.w) d E) #[#[D,w],?_];have B:=r.freeze hd rfl u;have l:mS X g z (mT L d<|.frz n<|.dK p) {s1 with heap:=s1.heap.push {cls:=.type "dict_items",data:=.fields (List.toArray [.ref d])}}:=B.kept (t':=s1.toks) λb o e=>nZ _ e
 refine wpAny_pyIter_items (knd:=Z4 X.prog X.w) (d:=d) #[_,oG _ rfl,rfl,rfl] (c _<|nZ _ u) ?_;refine#[_,[_],_,_,_,rfl,l.kept (t':=s1.toks) λb o e=>nZ _ e,Vo _ kv c,#[_,_,oG _ rfl],λb A=>?_,q n #[r.notFrz hd (λ_ _ y=>nomatch y),λ_ y=>nomatch y]];have e:=pK.mp A;subst e;show l.fpOk (nK _)<|l.hok.fresh<|nK _
def KP{d:lZ}{o:Obj}{kvs:lX (nI×V)}{g:TG}{u:TS}{D:qj}{z:St}{H:Hp}(Pv:Nat->St->Hp->Prop)(l:Pv 0 z H)(r:∀i z H,i<=kvs.length->Pv i z H->H d=some (.frz o<|.dK kvs))
  (j:∀i kv z H,kvs[i]? =some kv->Pv i z H->∀p y,mK H y->H p=none->y p=some (.tup [kV kv.1,kv.2])->g (.ref p) z y λw h=>u {D with nx:=Pv<|i+1,ct:=Pv<|i+1,bk:=D.nx} w h) (hd:∀z H,Pv kvs.length z H->D.nx z H) :
  zP (Ca d o kvs) g u D z H:=W3 Pv l (λs H p=>#[r _ s H (nK _) p,nK _]) (λi s H q p=>#[#[r i s H (pU q) p,q],λx U ⟨a,kv,e,n,c,Y⟩=>by subst e Y;show j i kv s H c p a _ (mK.new n) n Zc]) hd
def xS(K:mf)(H:Hp)(x y:V):Prop:=(sR x=true/\sR y=true/\rn x y=true)\/∃n t,n<=60/\Im K H n t x/\Im K H n t y
def xS.eqAt(I:mS X j z H s)(h:xS X.K H x y)(w:Yg x u)(r:Yg y v)(i:A.units+60<cLine):SeqAt.EqAt A s u v true:=by
 rcases h with⟨q,p,e⟩|⟨n,t,g,o,l⟩
 ·show Yj (zQ w r q p) e
 ·show Yj (Im.eqAt I n A o l w r<|by lia)<|og rfl
def Mq(K:mf):R2:=λx y H Q=>∃a b z w,x=.ref a/\y=.ref b/\Rd H a (.dK z)/\Rd H b (.dK w)/\z.length=w.length/\(∀kv∈z,∃v,Xe w kv.1=some v/\xS K H kv.2 v)/\Q (.bl true) H
def UK(hu:X.A.units+64<cLine):om X (compareOp .Eq) (Mq X.K):=by
 intro c7 s z H x y v u Q I N n h;obtain⟨a,b,ka,M,rfl,rfl,L,J,G,E,q⟩:=h;cases N;cases n;obtain⟨_,D,C,g,B⟩:=ri I.hok L;obtain⟨_,sb,e,d,db⟩:=ri I.hok J;have la:=KV.length g;have lb:=KV.length d;have M3:∀{w:lX (nI×V)}{o:lX (nI×ma)},KV w o->(∀kv∈w,∃v,Xe M kv.1=some v/\xS X.K H kv.2 v)->PySem.W.KeqHits X.A.in1 s e o true:=by
  intro w o r
  induction r with
  | nil=>intro _;show .nil
  | cons r t ih =>
   rename_i p q l m;intro c;obtain⟨e1,r2⟩:=r;obtain⟨v,j,i⟩:=c p oN;have Y:=KV.val d p.1;rw[j]at Y;obtain⟨y,U,n⟩:=qp.some_of Y;rw[e1]at U;have:=Kv (k:=q.1) (v:=q.2) U (i.eqAt (A:=X.A.in1) I r2 n<|by rw[We];lia)<|ih λkv J6=>c kv<|oZ _ J6;simpa using this
 refine PySem.W.keq_eq (knd:=Z4 X.prog X.w) D sb B db (by lia) (λ_=>M3 g E) #[.bl true,H,I,?_,q];rw[show(C.length ==e.length)=true by rw[<-la,<-lb,G];simp]
 rfl
def wg(K:mf):R2:=λx y H Q=>Of x y H Q\/DO K false x y H Q\/Mq K x y H Q
inductive GS(K:Frag)(H:Hp)(Q:VK):List V->Prop
 | mk {p ys}:(SqL K H p ys\/SqT K H p ys)->Q (.int ys.length) H->GS K H Q [.ref p]
def Mw(K:mf):lX V->Hp->VK->Prop:=λx H Q=>GS K H Q x\/(∃z,x=[.str z]/\z.length<=sizeLine/\Q (.int z.length) H)\/∃a y,x=[V.ref a]/\H a=some (.dK y)/\Q (.int y.length) H
def tT(K:mf):V->me Int->me Int->Hp->VK->Prop:=λx lo z H Q=>IL K x lo z H Q\/LG K x lo z H Q\/Lz x lo z H Q
def Bl(z:Y0 k X.A):om X (compareOp .Eq) (wg X.K):=PC.or<|(SK z.units).or (UK z.units)
def XS:Y5 X (.builtin "len") (Mw X.K):=(TX.imp λz H Q (h:GS X.K H Q z)=>by
 obtain@⟨p,y,x,w⟩:=h;show#[p,y,rfl,x,w]).or (Zpr.or UB)
def uA:sH X (tT X.K):=TW.or<|SQ.or Yf3
inductive OR(K:Frag)(H:Hp)(Q:VK):List V->Prop
 | mk {p ys}:(SqL K H p ys\/SqT K H p ys)->pG H (.lst ys) Q->OR K H Q [.ref p]
def Ak(K:mf):lX V->Hp->VK->Prop:=λz H Q=>OR K H Q z
def Dd:Y5 X (.type "list") (Ak X.K):=Vw.imp λu H Q h=>by
 obtain@⟨p,z,y,x⟩:=h;show#[p,z,rfl,y,λl w=>x.at l w]
inductive JF(H:Hp)(Q:VK):List V->Prop
 | mk {p kvs}:Rd H p (.dK kvs)->pG H (.dK kvs) Q->JF H Q [.ref p]
def Ct:lX V->Hp->VK->Prop:=λz H Q=>JF H Q z
def HS:Y5 X (.type "dict") Ct:=by
 intro n s z H l j Q I r h;obtain@⟨p,y,hd,q⟩:=h;obtain⟨u,rfl,x⟩:=Wr r;cases x;show Sj I hd λa i w o=>#[.ref a,_,o,rfl,q.at a w]
def Ybo:TE:=λ_ H Q=>pG H (.dK []) Q
def Wf:PE X (.Dict [] [] pos) Ybo:=λy s z H Q I h=>SB y s z H Q I λp x=>h.at p x
def ZC:TE:=λ_ H Q=>pG H (.dT []) Q
def QG:PE X (.Dict [] [] pos) ZC:=λy s z H Q I h=>Tp y s z H Q I λp x=>h.at p x
def QD(K:mf):lX V->Hp->VK->Prop:=λz H Q=>∃(p:lZ)(bs:lX Bool),z=[.ref p]/\SqL K H p (bs.map V.bl)/\Q (.bl<|bs.all id) H
def TK(z:X.calm=true):Y5 X (.builtin "all") (QD X.K):=Tb z
inductive LC(K:Frag)(H:Hp)(Q:VK):List V->Prop
 | mk {x c b t}:Xx K H x t->((∃n,c=.ty n/\kitOne K t (.type n)=some b)\/∃a,c=.ref a/\kitOne K t (.ref a)=some b)->Q (.bl b) H->LC K H Q [x,c]
def yS(K:mf):lX V->Hp->VK->Prop:=λz H Q=>LC K H Q z
def CT:Y5 X (.builtin "isinstance") (yS X.K):=Zrk.imp λu H Q h=>by
 obtain@⟨x,c,b,t,z,y,w⟩:=h;show#[x,c,b,t,rfl,z,y,w]
def Rk{fr:St->St}
  (hN:X.N.Nodup) (U9:X.N[i]? =some y) (hy:vO X.env.scope y) (hc:X.calm=true) (S:X9 X scope Q N fr) (hi:PI X c r wi) (hg:∀s H C q,PG (Y6 X scope Q N s H C q) c g) (hf:∀s H C q,PF (Y6 X scope Q N s H C q) M tf)
  (he:∀s H C q,PE (Y6 X scope Q N s H C q) L te) (hs:∀x,foldedSetIterable r X.env x=pure x:=by intro _;rfl)
  (J:swapsWith (.ListComp L [#[c,r,M,0]] scope pos) (some<|.Name y a) n.line X.env=pure true:=by rfl) (M9:X.fn y=true\/X.env.scope.names.lookup y=some .local:=by and_intros) :
  PS X (.Assign [.Name y a] (.ListComp L [#[c,r,M,0]] scope pos) n) (AT (Bd wi fr g tf te)<|qW i):=by
 intro G s z H D I h;rw[exec_Assign_Name_used _ _ _ _ J];refine mU<|Ag<|mU ?_;change wpAny _ X.A (do let _ <-comprehension (.ListComp L [⟨c,r,M,0⟩] scope pos) scope X.env _ (newList []) false (eval r X.env) (some (assign (.Name y a) X.env))) _ _ s;refine mU<|pX (MQ (use:=some<|assign (.Name y a) X.env) (QQ:=λ_ o=>∃w H',mS X G w H' o/\D.nx w H') hc S hi hg hf he hs I h λ{E w fp C Y U} I2 l f2 B qn=>?_) (λ_ o w=>nk<|nk w) λ_ _ e=>e;obtain⟨m4,A,_⟩:=B.loc;obtain⟨oC,esC,epC,hoC,j⟩:=id A;have J0:mS X G z Y U:=OU I2 l f2 B (h':=U.heap) #[rfl,λ_ _=>rfl];have big:#v[E]<=C:=pU l;have fC:Y C=none:=B.free;have u:=I2.fpOk big fC;have J1:mS X (G++[(C,oC)]) z Y U:=J0.pins_of λp d=>by
  rcases oO.mp d with d|d
  ·show J0.pin p<|rF _ d
  ·have e:p=(C,oC):=by simpa using d
   subst e;show#[hoC,fC,u.2.1,u.2.2.1,λv w=>by rw[j.1]at w;cases w]
 refine ny (Hn hN U9 hy M9 (X:=X) (pos:=a) _ U z Y (.ref #v[E]) (.ref #v[E]) _ J1 rfl qn) λ_ s5 ⟨σ5,H5,I5,q5⟩=>?_
 obtain⟨p1,p2,p3,w,o⟩:=I5.pin (C,oC) (rF _<|rF _<|by simp);show#[m4,#[oC,esC,epC,p1,j],λh' w=>#[σ5,H5,(I5.unpinned).turned (t':=s5.toks) (it:=C) (λb o hb e=>(w.2 b hb).trans e) p2 p3 u.2.2.2.1 u.2.2.2.2.1 u.2.2.2.2.2,q5]]
def vX{X:Cx}{K:mf}{z:lX ml}{k:Nat}{pos:Pos}{t:wV}{n:Nat}(y:X.K=K)(x:X.calm=true)(h:yr X z t)
  (w:(assignEach z X.env).length=n:=by rfl) (u:(assignEach z X.env).findIdx? (·.1)=none:=by rfl):PG X (.Tuple z k pos) (FU K n t):=y ▸ tD x h w u
def OK:lX V->Hp->VK->Prop:=λy H Q=>∃p z,y=[.ref p]/\Rd H p (.dK z)/\pG H (.lst<|z.map λkv=>kV kv.1) Q
def MC{kvs:lX (nI×V)}{z:lX (nI×ma)}(g:KV kvs z):∀{vs:lX ma},vs.length=z.length->(∀(j:Nat)(v:ma),vs[j]? =some v->∃(k:nI)(x:ma),z[j]? =some (k,x)/\(Z4 P w).is k v=true)->Ya (kvs.map λkv=>kV kv.1) vs:=by
 induction g with
 | nil =>
  intro vs h _;obtain rfl:=ui.mp h;show .nil
 | cons r t s =>
  intro vs h y;cases vs with
  | nil=>cases h
  | cons v vs =>
   obtain⟨k,x,e,q⟩:=y 0 v rfl;simp only[List.getElem?_cons_zero,Option.some.injEq]at e;subst e;rw[oq];refine .cons ?_ (s (by simpa using h) λj u p=>by simpa using y (j+1) u (by simpa using p));rw[r.1];show Fp q
def Ztl(l:X.calm=true):Y5 X (.type "list") OK:=by
 intro E s z H D C Q I r h;obtain⟨p,y,rfl,hd,q⟩:=h;obtain⟨u,rfl,i⟩:=Wr r;cases i;obtain⟨g,lo,d,kv,c⟩:=ri I.hok hd;obtain⟨a,Y⟩:=c.dictAt;have B:=KV.length kv;refine PySem.W.kdl_call (PySem.W.kdl_dict (knd:=Z4 X.prog X.w) (kvs:=d) (ep:=a) lo) (I.ok.hd l) Y (by lia) λU N x M L J n=>?_
 have G:Ya (y.map λkv=>kV kv.1) x.toList:=MC (P:=X.prog) (w:=X.w) kv (by rw[qK];show n.1) λj v e=>n.2 j v (by rw[<-sX];show e)
 show#[.ref #v[s],_,I.laid (o:=.lst<|y.map λkv=>kV kv.1) (t':=N) L (nK _) (show Z7 X.prog X.w _ U _ (.lst _)from#[by rw[mV];show g,x.toList,M,G,by rw[J]]),rfl,q.at _<|I.hok.fresh<|nK _]
def Lf(K:mf):R2:=λx y H Q=>∃a b z w,x=.ref a/\y=.ref b/\Rd H a (.dK z)/\Rd H b (.dK w)/\z.length=w.length/\(∀kv∈z,∃v,Xe w kv.1=some v/\xS K H kv.2 v)/\Q (.bl false) H
def YU(hu:X.A.units+64<cLine):om X (compareOp .NotEq) (Lf X.K):=by
 intro c7 s z H x y v u Q I N n h;obtain⟨a,b,ka,M,rfl,rfl,L,J,G,E,q⟩:=h;cases N;cases n;obtain⟨_,D,C,g,B⟩:=ri I.hok L;obtain⟨_,sb,e,d,db⟩:=ri I.hok J;have la:=KV.length g;have lb:=KV.length d;have M3:∀{w:lX (nI×V)}{o:lX (nI×ma)},KV w o->(∀kv∈w,∃v,Xe M kv.1=some v/\xS X.K H kv.2 v)->PySem.W.KeqHits X.A.in1 s e o true:=by
  intro w o r
  induction r with
  | nil=>intro _;show .nil
  | cons r t ih =>
   rename_i p q l m;intro c;obtain⟨e1,r2⟩:=r;obtain⟨v,j,i⟩:=c p oN;have Y:=KV.val d p.1;rw[j]at Y;obtain⟨y,U,n⟩:=qp.some_of Y;rw[e1]at U;have:=Kv (k:=q.1) (v:=q.2) U (i.eqAt (A:=X.A.in1) I r2 n<|by rw[We];lia)<|ih λkv J6=>c kv<|oZ _ J6;simpa using this
 refine PySem.W.keq_ne (knd:=Z4 X.prog X.w) D sb B db (by lia) (λ_=>M3 g E) #[.bl false,H,I,?_,q];rw[show(C.length ==e.length)=true by rw[<-la,<-lb,G];simp]
 rfl
def Cm(K:mf)(neg:Bool):R2:=λx y H Q=>∃(p:lZ)(n:Nat)(t:Tr)(z:lX Tr)(w:lX lZ),y=.ref p/\SqL K H p (w.map V.ref)/\n<=60/\Im K H n t x/\Paired (Im K H n) z (w.map V.ref)/\Q (.bl<|if neg then !decide (t∈z)else decide (t∈z)) H
def vd(K:mf)(H:Hp)(n:Nat)(t:Tr)(u:ma):Bool:=match u with
 | .ref a=>@decide (Im K H n t<|.ref a) (Classical.propDecidable _)
 | _=>false
theorem Eo(I:mS X x z H s) :∀{ts:lX Tr}{as:lX lZ}{us:lX ma},Paired (Im X.K H n) ts (as.map V.ref)->Ya (as.map V.ref) us->us.any (vd X.K H n t)=decide (t∈ts)
 | [],[],_,_,v=>by rw[uS]at v;cases v;simp
 | [],a ::as,_,p,_=>by rw[oq]at p;cases p
 | t' ::ts,[],_,p,_=>by rw[uS]at p;cases p
 | t' ::ts,a ::as,us,p,v=>by
  rw[oq]at p v;cases p with
  | cons i p =>
   cases v with
   | cons r v =>
    cases r;rw[xF,Eo I p v,su,Bp];simp only[vd,vo,oh]
    constructor
    ·rintro(y|y)
     ·show .inl<|Im.inj I y i
     ·show .inr y
    ·rintro(y|y)
     ·show .inl<|y ▸ i
     ·show .inr y
theorem HI(I:mS X h z H s)(w:A.units+n<cLine)(q:Im X.K H n t x)(o:Yg x l) :
  ∀{ts:lX Tr}{as:lX lZ}{us:lX ma},Paired (Im X.K H n) ts (as.map V.ref)->Ya (as.map V.ref) us->∀u∈us,SeqAt.EqAt A s u l (vd X.K H n t u)
 | [],[],_,_,v=>by rw[uS]at v;cases v;simp
 | [],a ::as,_,p,_=>by rw[oq]at p;cases p
 | t' ::ts,[],_,p,_=>by rw[uS]at p;cases p
 | t' ::ts,a ::as,us,p,v=>by
  rw[oq]at p v;cases p with
  | cons i p =>
   cases v with
   | cons r v =>
    cases r;intro u j;rcases oh.mp j with e|e
    ·subst e;refine Yj (Im.eqAt I n A i q rfl o w) ?_;simp only[vd,IG];show#[λy=>y ▸ i,λy=>(Im.inj I y i).symm]
    ·show HI I w q o p v u e
def VC(c:X.A.units+64<cLine):om X (compareOp .In) (Cm X.K false):=by
 intro a s z H x y v u Q I j i h;obtain⟨p,n,t,w,Y,rfl,g,U,e,o,q⟩:=h;cases i;obtain⟨l,r,d,w⟩:=I.list g;refine SeqAt.in_listAt (vd X.K H n t) d.isList (λw p=>HI I (by rw[We];lia) e j o r w<|by simpa using p) #[.bl _,H,I,rfl,?_];rw[show l.toArray.any (vd X.K H n t)=l.any (vd X.K H n t) by simp,Eo I o r];show q
def Tu(c:X.A.units+64<cLine):om X (compareOp .NotIn) (Cm X.K true):=by
 intro a s z H x y v u Q I j i h;obtain⟨p,n,t,w,Y,rfl,g,U,e,o,q⟩:=h;cases i;obtain⟨l,r,d,w⟩:=I.list g;refine SeqAt.notIn_listAt (vd X.K H n t) d.isList (λw p=>HI I (by rw[We];lia) e j o r w<|by simpa using p) #[.bl _,H,I,rfl,?_];rw[show l.toArray.any (vd X.K H n t)=l.any (vd X.K H n t) by simp,Eo I o r];show q
def sV(K:mf):R2:=λx y H Q=>LF x y H Q\/DO K true x y H Q\/Lf K x y H Q
def ur(z:Y0 k X.A):om X (compareOp .NotEq) (sV X.K):=Yh7.or<|(Yf4 z.units).or (YU z.units)
def Dy(K:mf):R2:=λx y H Q=>An K false x y H Q\/(∃a o,y=.ref a/\Wc H a x o/\Q (.bl o.isSome) H)\/(∃i j,x=.str i/\y=.str j/\Q (.bl (!(Builtin.Str.occurrences j i 0 j.length 1).isEmpty)) H)\/Cm K false x y H Q
def Hg(z:Y0 k X.A):om X (compareOp .In) (Dy X.K):=Jb.or<|(Yfh<|Xv z).or (UM.or<|VC z.units)
def Fb(K:mf):R2:=λx y H Q=>An K true x y H Q\/(∃a o,y=.ref a/\Wc H a x o/\Q (.bl (!o.isSome)) H)\/Cm K true x y H Q
def Px(z:Y0 k X.A):om X (compareOp .NotIn) (Fb X.K):=Zqv.or<|(Ss<|Xv z).or (Tu z.units)
end L2
end
section
namespace L2
open PySem
def TrX(h mM:mi)(e:lZ)(cls u:ma)(s:me lZ)(r:ma):Prop :=
 ∃z y T x w,h.get? e=some z/\z.cls=cls/\z.dict=s/\z.data=.fields y/\(y[0]? =some u/\y[2]? =some .none)/\y[1]? =some (.ref T)/\mM.get? T=none/\T≠e/\h.get? T=some x/\x.data=.fields w/\w[3]? =some r
def qi(mM:mi)(l:lX Env)(e:lZ)(cls z:ma)(y:me lZ)(x:ma)(h:mi):Prop:=mM.StaysIn h/\mM.get? e=none/\h.FunFrames mM l/\TrX h mM e cls z y x
def YF(f:Array ma->Array ma)(o:Obj):(Obj.mapFields f o).dict=o.dict:=by
 obtain⟨c,d,z,y⟩:=o;cases z<;>rfl
def qi.there(x:qi mM l e cls q y p h):∃z,h.get? e=some z/\z.cls=cls/\z.dict=y/\∃vs,z.data=.fields vs:=by
 obtain⟨_,_,_,w,vs,_,_,_,u,s,r,hd,_⟩:=x;show#[w,u,s,r,vs,hd]
def qi.ctx(x:qi mM l e cls s r q h):∃z vs,h.get? e=some z/\z.data=.fields vs/\vs[2]? =some .none:=by
 obtain⟨_,_,_,y,vs,_,_,_,w,p,o,hd,u,_⟩:=x;show#[y,vs,w,hd,u.2]
section
variable {M:Model} {A:mo} {E:ma->md->Prop} {s:md} {mM:mi} {env:Env} {mJ l:lX Env} {L e:lZ} {oe:Obj} {vs:Array ma} {head a0 cls fl:ma} {dx:me lZ} {Q:Unit->md->Prop}
def LP(D:A.frames=some (env ::mJ))(r:s.heap.FunFrames mM (env ::mJ))(C:env.frame=some L)(p:s.heap.get? e=some oe)(j:mM.StaysIn s.heap)(i:mM.get? e=none)(hd:oe.data=.fields vs)(hsz:1<vs.size)
  (d:vs[0]? =some a0/\vs[2]? =some .none) (h:∀h',qi mM (env ::mJ) e oe.cls a0 oe.dict (rawInt L) h'->s.heap.UpToSlots h'->Q () {s with heap:=h'}) :
  wpAny M A (do let a <-frameOf env;let pl <-entryPlaceOf L hadNext;let b <-EntryCells.newEntry head a .none (rawInt L) .none pl;setField (.ref e) 1 b) Q E s:=by
 have off:e∉(env ::mJ).filterMap (·.frame):=λz=>by
  obtain⟨_,o,q,w⟩:=r.mem z;rw[p]at q;cases q;show w vs hd
 refine mU<|wpAny_frameOf_fun D r C λg n=>mU<|wpAny_entryPlaceOf λpl c=>?_;unfold EntryCells.newEntry newFields;refine mU<|tE ?_<|c.sizeOk5 _ _ _ _ _;have Y:g.get? e=some oe:=by rw[n.2.1 e off];show p
 have U:mM.StaysIn g:=λb o q=>by
  rw[n.2.1 b λz=>by rw[(r.mem z).1]at q;cases q];show j b o q
 generalize N:({cls:=.type "traceback",dict:=none,data:=.fields ([head,.ref L,.none,rawInt L,.none]++(if pl.isEmpty then List.replicate 6 Value.none else pl)).toArray}:Obj)=x;have J:(g.push x).get? e=some oe:=nZ _ Y;have I:g.objs.size≠e:=vK<|nS Y;have B:(g.push x).get? g.objs.size=some x:=oG g (by rw[<-N];rfl);refine vS J hd hsz<|h _ ?_ ?_
 ·have H:=uX hd (·.setIfInBounds 1 (Value.ref g.objs.size));have e3:=ux (Obj.mapFields (·.setIfInBounds 1 (Value.ref g.objs.size))) J<|xh H;have t3:((g.push x).update e (Obj.mapFields (·.setIfInBounds 1 (Value.ref g.objs.size)))).get? g.objs.size=some x:=by rw[rV _ _ I.symm];show B
  have u:∀b o,b≠e->g.get? b=some o->((g.push x).update e (Obj.mapFields (·.setIfInBounds 1 (Value.ref g.objs.size)))).get? b=some o:=λb o nb q=>by
   rw[rV _ _ nb.symm];show nZ _ q
  refine#[λb o q=>u b o (λz=>by rw[z,i]at q;cases q)<|U b o q,i,r.of_keeps λb o q w=>?_,?_]
  ·obtain⟨G,z⟩:=n.2.2 b o q;refine#[_,u b _ (λy=>?_) z,rfl];rw[y,p]at q;cases q;show w vs hd
  ·refine#[_,_,g.objs.size,x,_,e3,Ce _ _,YF _ _,H,?_,by simp[hsz],U.fresh,I,t3,by rw[<-N],?_]
   ·show#[by rw[LX (by lk)];show d.1,by rw[LX (by lk)];show d.2]
   ·rcases c with rfl|⟨_,_,_,_,_,_,_,rfl⟩<;>simp
 ·intro b o q w;obtain⟨G,z⟩:=n.2.2 b o q;refine#[G,?_];change((g.push x).update e (Obj.mapFields (·.setIfInBounds 1 (Value.ref g.objs.size)))).get? b=_;rw[rV _ _ λy=>by rw[<-y,p]at q;cases q;show w vs hd];show nZ _ z
def SY(u:A.frames=some (env ::mJ))(r:s.heap.FunFrames mM (env ::mJ))(y:env.frame=some L)(x:s.heap.get? e=some oe)(z:mM.StaysIn s.heap)(q:mM.get? e=none)(hd:oe.data=.fields vs)
  (w:vs[1]? =some .none) (p:vs[0]? =some a0/\vs[2]? =some .none) (h:∀h',qi mM (env ::mJ) e oe.cls a0 oe.dict (rawInt L) h'->s.heap.UpToSlots h'->Q () {s with heap:=h'}):wpAny M A (noteFrame (.ref e) env) Q E s:=by
 unfold noteFrame;simp only[y];refine mU<|wX x hd w ?_;rw[ng (by lk)];show LP u r y x z q hd (Bs.mp w).1 p h
def Nb(c:A.frames=some (env ::mJ))(n:env.frame=some L)(x:qi mM (env ::mJ) e cls a0 dx .none s.heap)
  (h:∀h',qi mM (env ::mJ) e cls a0 dx (rawInt L) h'->s.heap.UpToSlots h'->Q () {s with heap:=h'}):wpAny M A (noteFrame (.ref e) env) Q E s:=by
 obtain⟨u,a,Y,oe,vs,T,oT,U,j,N,J,hd,I,i,H,G,r,p,g⟩:=x;subst N J;unfold noteFrame;simp only[n];refine mU<|wX j hd i ?_;rw[nj (by simp)];refine mU<|wX r p g ?_;rw[ng (by simp[rawInt])];refine mU<|vS r p (Bs.mp g).1 ?_;have y:∀b,b≠T->(s.heap.update T<|Obj.mapFields (·.setIfInBounds 3 Value.none)).get? b=s.heap.get? b:=λb D=>rV _ _ D.symm
 have d:∀b o,s.heap.get? b=some o->(∀vs,o.data≠.fields vs)->b≠T:=λb o q w z=>by
  rw[z,r]at q;cases q;show w U p
 refine LP c (Y.of_keeps λb o q w=>#[o,by rw[y b (d b o q w)];show q,rfl]) n (by rw[y e G.symm];show j) (λb o q=>?_) a hd (Bs.mp i).1 I λh' C B=>h h' C λb o q w=>B b o (by
  change(s.heap.update T _).get? b=_;rw[y b (d b o q w)];show q) w
 change(s.heap.update T _).get? b=_;rw[y b λz=>by rw[z,H]at q;cases q];show u b o q
def Dm(x:qi mM l e cls a0 dx fl s.heap)(h:∀h',qi mM l e cls a0 dx .none h'->s.heap.UpToSlots h'->Q () {s with heap:=h'}):wpAny M A (setFlight (.ref e) none) Q E s:=by
 obtain⟨p,Y,U,oe,vs,T,D,j,i,N,J,hd,I,g,d,c,n,r,H⟩:=x;have w:3<j.size:=(Bs.mp H).1;have y:∀b,b≠T->(s.heap.update T<|Obj.mapFields (·.setIfInBounds 3 ((none:me lZ).elim Value.none λf=>rawInt f))).get? b=s.heap.get? b:=λb G=>rV _ _ G.symm
 have a:∀b o,s.heap.get? b=some o->(∀vs,o.data≠.fields vs)->b≠T:=λb o q u z=>by
  rw[z,n]at q;cases q;show u j r
 unfold setFlight;refine mU<|wX i hd g ?_;rw[nj (by simp)];refine vS n r w<|h _ #[λb o q=>?_,Y,U.of_keeps λb o q u=>#[o,?_,rfl],oe,vs,T,_,_,?_,N,J,hd,I,g,d,c,ux _ n<|xh<|uX r _,uX r _,by simp[w]] λb o q u=>#[o.slots,?_]
 ·rw[y b λz=>by rw[z,d]at q;cases q];show p b o q
 ·rw[y b (a b o q u)];show q
 ·rw[y e c.symm];show i
 ·change(s.heap.update T _).get? b=_;rw[y b (a b o q u)];show q
def qi.out(x:qi mM (env ::mJ) e cls a0 dx fl s.heap):qi mM mJ e cls a0 dx fl s.heap:=by
 obtain⟨a,b,⟨_,_,c⟩,d⟩:=x;show#[a,b,c,d]
def MS(y:A.frames=some (env ::mJ))(w:env.frame=some L)(x:qi mM (env ::mJ) e cls a0 dx .none s.heap)(h:∀h',qi mM mJ e cls a0 dx .none h'->s.heap.UpToSlots h'->Q () {s with heap:=h'}) :
  wpAny M A (leaving env<|.ref e) Q E s:=by
 unfold leaving;refine mU<|Nb y w x λu r q=>Dm (s:={s with heap:=u}) r λz p o=>h z ?_<|q.trans o;show qi.out (s:={s with heap:=z}) p
def On(w:A.frames=some (env ::mJ))(u:s.heap.FunFrames mM (env ::mJ))(r:env.frame=some L)(q:s.heap.get? e=some oe)(z:mM.StaysIn s.heap)(p:mM.get? e=none)(hd:oe.data=.fields vs)
  (y:vs[1]? =some .none) (o:vs[0]? =some a0/\vs[2]? =some .none) (h:∀h',qi mM mJ e oe.cls a0 oe.dict .none h'->s.heap.UpToSlots h'->Q () {s with heap:=h'}):wpAny M A (leaving env<|.ref e) Q E s:=by
 unfold leaving;refine mU<|SY w u r q z p hd y o λy n j=>Dm (s:={s with heap:=y}) n λx i g=>h x ?_<|j.trans g;show qi.out (s:={s with heap:=x}) i
end
end L2
end
section
namespace L2
open PySem PySem.Spec PyProof.Rows
def Dt(K:mf)(z:lY->me ma)(x:lY)(C:lZ)(bm:lX ma)(newId:String):Prop:=∀h:mi,K.In h->OwnCls x C bm newId z h
def um{K:mf}{s:lY->me ma}{x:lY}{C:lZ}{z:lX ma}{newId:String}(m:s x=some (.ref C))(q:PySem.W.excIn K C z newId=true):Dt K s x C z newId:=by
 intro h X;refine#[m,?_];unfold PySem.W.excIn at q;split at q
 case h_2=>cases q
 case h_1 d w c a =>
  split at q
  case h_2=>cases q
  case h_1 Y U r p o l n j i Q =>
   rw[qk,qk,qk,qk,qk]at q;obtain⟨⟨⟨⟨⟨N,M⟩,L⟩,J⟩,u⟩,I⟩:=q;have H:Y=C:=qN.mp N;have G:n=newId:=qN.mp M;have g:nsIn K w.ns "__init__"=some none:=qN.mp I;have e:w.hasDel=false:=by simpa using L
   subst H G;have E:c=(List.toArray [r,p,o,l,some<|.builtin n,j]):=Array.toList_inj.mp Q;obtain⟨nm,bs,mro,D,B,y,A,sub,ab,col,pY⟩:=w;dsimp only at i e u g;subst i e E;show#[U,D,nm,B,bs,y,A,sub,ab,col,d,r,p,o,l,j,_,X _ _ a,.of_isNs<|PySem.W.isNs_of_in X u,PySem.W.nsMap_none_of_in X u g,PySem.W.tail_of_in X J]
def UE(z:lX Env)(cls:ma)(y:me lZ)(x:Hp)(g:mi)(w:lZ)(h:mi):Prop :=
 ∃u B,qi B z w cls u y .none h/\∀b o,h.get? b=some o->((∃s,g.get? b=some s)\/x b≠none)->b∉oS z->B.get? b=some o
def ou(P:mn)(w:mj):vf:=λx H s E e z=>∃u cls r y,e=.ref u/\z.os=s.os/\AllBare z.gens/\Un (oS x) [] H y s.heap z.heap/\oz P w y z.heap/\UE x cls r y s.heap u z.heap/\E cls r y
def Z7.there(x:Z7 P w H h a o):∃r,h.get? a=some r:=by
 cases o with
 | lst q=>obtain⟨_,_,_,_,e⟩:=x;show#[_,e]
 | tup q=>obtain⟨_,_,_,_,e,_⟩:=x;show#[_,e]
 | dK s=>obtain⟨_,_,_,_,o,_,_,e,_⟩:=x;show#[_,e]
 | dT s=>obtain⟨_,_,_,_,o,_,_,e,_⟩:=x;show#[_,e]
 | set S n=>obtain⟨o,_,_,_,e,_⟩:=x;show#[_,e]
 | ins C z fs=>obtain⟨_,_,_,e,_⟩:=x;show#[_,e]
 | own y=>obtain⟨_,e⟩:=x;show#[_,e]
 | xd fs=>obtain⟨_,⟨_,_,_,e,_⟩,_⟩:=x;show#[_,e]
 | rng lo z=>obtain⟨_,_,_,e⟩:=x;show#[_,e]
 | frz r u=>obtain⟨e,_⟩:=x;show#[_,e]
 | tbl z =>
  obtain⟨_,e,_⟩:=x;show#[_,e]
 | met f y=>show#[_,show h.get? a=some _ from x]
 | ext z=>obtain⟨_,⟨_,e⟩,_⟩:=x;show#[_,e]
variable {X:Cx}
def QS(l:oS X.stack=X.mw.heap.objs.size ::oS X.mJ)(G:X.env.locals=X.mw.heap.objs.size)(D:X.ex=[])(I:mS X c7 z p s1)
  (U:qi B X.mJ M cls C L .none h') (up:s1.heap.UpToSlots h') (J:∀b o,s1.heap.get? b=some o->((∃o',X.mw.heap.get? b=some o')\/p b≠none)->b∉oS X.stack->B.get? b=some o)
  (A:E cls L p):ou X.prog X.w X.mJ X.mz X.mw E (.ref M) {s1 with heap:=h'}:=by
 have stay:∀b o,s1.heap.get? b=some o->((∃o',X.mw.heap.get? b=some o')\/p b≠none)->b∉oS X.stack->h'.get? b=some o:=λb o x w q=>U.1 b o<|J b o x w q
 have r:∀b,((∃o',X.mw.heap.get? b=some o')\/p b≠none)->b∉oS X.mJ->b∉oS X.stack:=λb x w q=>by
  rw[l]at q;rcases oh.mp q with e|e
  ·rcases x with⟨o',x⟩|x
   ·rw[e]at x;show absurd (nS x)<|rf _
   ·rw[e,<-G]at x;show x I.free
  ·show w e
 have vv:∀b,p b≠none->b∉oS X.mJ:=λb x w=>x (I.stkFree b (by rw[l];show oZ _ w))
 have d:∀b,b∈oS X.mJ->∃o,s1.heap.get? b=some o/\∀vs,o.data≠.fields vs:=λb h=>(I.stack.mem (by change b∈oS X.stack;rw[l];show oZ _ h)).2
 have s:Un (oS X.mJ) [] X.mz p X.mw.heap s1.heap:=by have:=I.mM;rw[D]at this;show this
 refine#[M,cls,L,p,rfl,I.os,I.bare,#[λb o x w q j=>?_,λb o x w q j=>?_,s.free,λb o x j=>?_,s.tups,s.frzs,s.tbls],λa o H=>?_,#[C,B,U,λb o x w q=>?_],A]
 ·show stay b o (s.keep b o x w q j) (.inl #[_,x])<|r b (.inl #[_,x]) q
 ·obtain⟨y,i⟩:=s.slot b o x w q j;obtain⟨n,Y,g⟩:=d b q;rw[i]at Y;cases Y;obtain⟨c,Q⟩:=up b _ i g;show#[c,Q]
 ·obtain⟨n,i⟩:=s.there b o x j
  by_cases h:b∈oS X.mJ
  ·obtain⟨y,Y,g⟩:=d b h;obtain⟨c,Q⟩:=up b _ Y g;show#[_,Q]
  ·show#[n,stay b n i (.inl #[_,x])<|r b (.inl #[_,x]) h]
 ·refine(I.hok a o H).stay (λb u h x=>?_) (λ_ y=>y) (λ_ _ y=>y);have N:p b≠none:=by
   rcases h with e|e
   ·rw[e,H];show AM _
   ·rw[e];show AM _
  show stay b u x (.inr N)<|r b (.inr N)<|vv b N
 ·obtain⟨n,j⟩:∃n,s1.heap.get? b=some n:=by
   rcases w with⟨o',w⟩|w
   ·show s.there b o' w (by simp)
   ·cases y:p b with
    | none=>show absurd y w
    | some u=>show(I.hok b u y).there
  have i:=J b n j w<|r b w q;have g:h'.get? b=some o:=x;rw[U.1 b n i]at g;cases g;show i
section
variable {P:mn} {w:mj} {K:mf} {mg:lY->me ma} {mM:mi} {N:lX lY} {qual:lY} {scope:Scope} {f:lZ} {cd:ma} {A:mo} {mJ:lX Env} {mw:md} {mz:Hp} {E:XK}
def EJ(I:mS (W8 x P w K mg mM N qual scope f cd A mJ mw mz E) n z y s1)
  (u:qi B mJ s cls l r .none h') (up:s1.heap.UpToSlots h') (q:∀b o,s1.heap.get? b=some o->((∃o',mw.heap.get? b=some o')\/y b≠none)->b∉oS (envOfC qual scope #v[mw] f cd ::mJ)->B.get? b=some o)
  (p:E cls r y):ou P w mJ mz mw E (.ref s) {s1 with heap:=h'}:=QS (X:=W8 x P w K mg mM N qual scope f cd A mJ mw mz E) rfl rfl rfl I u up q p
def Ws:tO (ou P w) (W8 (ou P w) P w K mg mM N qual scope f cd A mJ mw mz E) E:=by
 intro Y z H s e p I h;obtain⟨n,cls,o,g,rfl,os,x,un,u,⟨d,B,l,j⟩,i⟩:=h;have q:=I.call' os un u x (λb y=>absurd y<|by simp);change wpAny _ _ (leaving _<|.ref n) _ _ p;refine MS q.ok.frames rfl l λU r up=>?_
 show EJ q r up (λb o g d c=>j b o g (d.imp_left λ⟨a,y⟩=>I.mM.there b a y<|by change b∉([]:lX lZ);simp) c) i
def UH(C:lZ)(E:XK)(t:TA):TS:=λ_ z H=>t z H λy x=>y.length<=sizeLine/\E (.ref C) none x
def DA{x:lY}{C:lZ}{bm:lX ma}{Q newId M:String}{L p pos:Pos}{r:ml}{Zr:lX ml}{t:TA}(J:Dt K mg x C bm newId)(FB:ExcBaseFacts Q newId M bm)
  (G:Gl (W8 (ou P w) P w K mg mM N qual scope f cd A mJ mw mz E) x) (B:PA (W8 (ou P w) P w K mg mM N qual scope f cd A mJ mw mz E) (r ::Zr) t)
  (j:starEach (r ::Zr) (envOfC qual scope #v[mw] f cd)=(false,eval r<|envOfC qual scope #v[mw] f cd) ::starEach Zr (envOfC qual scope #v[mw] f cd):=by rfl)
  (m9:(backTo p<|starEach Zr<|envOfC qual scope #v[mw] f cd).any (·.1)=false:=by rfl) (hd:(x ==("__debug__":lY))=false:=by lk) :
  PS (W8 (ou P w) P w K mg mM N qual scope f cd A mJ mw mz E) (.Raise (some<|.Call (.Name x L) (r ::Zr) [] p) none pos) (UH C E t):=by
 intro c7 s z H D I h;have O:OwnCls x C bm newId mg mM:=J mM I.ok.mod.kin;obtain⟨tl,N',nm,q,bs,n,sn,sub,ab,col,dd,k0,k1,k2,k3,k5,mN,hC,hN,g,T⟩:=O.obj;refine wpAny_Raise_call_subT (C:=C) (nm:=nm) (q:=q) (N:=N') (bs:=bs) (bm:=tl) (hdct:=n) (sn:=sn) (sub:=sub) (ab:=ab) (col:=col) (dd:=dd) (k0:=k0) (k1:=k1) (k2:=k2) (k3:=k3) (k5:=k5)
  FB (mN:=mN) (T.hasType FB.hasBase) (I.ok.hd rfl) (by change(backTo p<|starEach (r ::Zr)<|envOfC qual scope #v[mw] f cd).any (·.1)=false;rw[j];change(false || (backTo p<|starEach Zr<|envOfC qual scope #v[mw] f cd).any (·.1))=false;rw[m9];rfl) g (xk I G O.bound #[rfl,?_] hd)
 have U:=B p c7 s z H _ I h;have d:starEach (r ::Zr) (W8 (ou P w) P w K mg mM N qual scope f cd A mJ mw mz E).env=(false,eval r<|envOfC qual scope #v[mw] f cd) ::starEach Zr (envOfC qual scope #v[mw] f cd):=j;rw[d]at U ⊢;refine zR<|ny U λy c h9=>?_;obtain⟨y,H2,i,r2,hl,hE⟩:=h9;have u:∀b o,mM.get? b=some o->c.heap.get? b=some o:=λb o e=>(i.bs b o e).1
 refine#[rfl,by rw[<-r2.length];show hl,u _ _ hC,hN.keeps u,T.keeps u,λy e l=>?_];change wpAny _ _ (leaving _<|.ref e) _ _ _;obtain⟨t,a,_,_⟩:=l.there;have Y:∀env∈(envOfC qual scope #v[mw] f cd ::mJ),∀b,env.frame=some b->b∈oS (envOfC qual scope #v[mw] f cd ::mJ):=λenv j b hb=>CP.mpr #[env,j,hb]
 refine On (mM:=PySem.W.hideAll c.heap<|oS<|envOfC qual scope #v[mw] f cd ::mJ) i.ok.frames ((Mc i.stack Y).of_keeps λb o q _=>#[o,l.keeps b o q,rfl]) rfl a (λb o q=>l.keeps b o<|BP _ q) ?_ rfl rfl #[rfl,rfl] λh'' fl up=>?_
 ·cases q:(PySem.W.hideAll c.heap<|oS<|envOfC qual scope #v[mw] f cd ::mJ).get? e with
  | none=>rfl
  | some o=>show absurd (BP _ q) (by rw[l.new];show λy=>nomatch y)
 ·have R:=EJ i fl ((Heap.UpToSlots.of_keeps l.keeps).trans up) (λb o y _ h3=>Hx _ y h3) hE;show R
end
def Ygh{P:mn}{w:mj}{fs:lX lZ}{H x:Hp}{g h h' B:mi}(un:Un fs [] H x g h)(i:oz P w x h)(fr:∀b∈fs,x b=none/\∃o,h.get? b=some o/\∀vs,o.data≠.fields vs)(st:B.StaysIn h')(up:h.UpToSlots h')
  (N:∀b o,h.get? b=some o->((∃o',g.get? b=some o')\/x b≠none)->b∉fs->B.get? b=some o):Un fs [] H x g h'/\oz P w x h':=by
 have stay:∀b o,h.get? b=some o->((∃o',g.get? b=some o')\/x b≠none)->b∉fs->h'.get? b=some o:=λb o y r s=>st b o<|N b o y r s
 refine#[#[λb o y r s q=>stay b o (un.keep b o y r s q) (.inl #[_,y]) s,λb o y r s q=>?_,un.free,λb o y q=>?_,un.tups,un.frzs,un.tbls],λa o U=>?_]
 ·obtain⟨z,n⟩:=un.slot b o y r s q;obtain⟨_,d,l,c⟩:=fr b s;rw[n]at l;cases l;obtain⟨p,Y⟩:=up b _ n c;show#[p,Y]
 ·obtain⟨d,n⟩:=un.there b o y q
  by_cases j:b∈fs
  ·obtain⟨_,z,l,c⟩:=fr b j;obtain⟨p,Y⟩:=up b _ l c;show#[_,Y]
  ·show#[d,stay b d n (.inl #[_,y]) j]
 ·refine(i a o U).stay (λb u j y=>?_) (λ_ z=>z) (λ_ _ z=>z);have Q:x b≠none:=by
   rcases j with e|e
   ·rw[e,U];show AM _
   ·rw[e];show AM _
  show stay b u y (.inr Q) λz=>Q (fr b z).1
abbrev Cx.tried(X:Cx)(pn:lX (lZ×Obj))(E:ma->md->Prop):Cx:={X with pn:=pn,xe:=E}
abbrev Cx.caught(X:Cx)(ea:lZ):Cx:={X with A:=X.A.mark<|some<|.ref ea,calm:=false,xe:=λ_ _=>False}
section
variable {E:ma->md->Prop}
def mS.tryIn(I:mS X y z H s)(E:ma->md->Prop):mS (X.tried (X.pn++y) E) [] z H s :=
 #[#[I.ok.mod,I.ok.kind,I.ok.glob,I.ok.blt,I.ok.above,I.ok.inj,I.ok.has,I.ok.cab,I.ok.hd,I.ok.frames,I.ok.stk,I.ok.exf,I.ok.bs,I.ok.bsz,I.ok.noex,I.ok.exfs,I.ok.funs,I.ok.frf],I.os,I.bare,I.mM,I.loc,I.cell,I.free,I.freeC,λp x=>I.pin p (by simpa using x),I.hok,I.len]
def mS.tryOut(I:mS (X.tried (X.pn++y) E) w z H s):mS X y z H s :=
 #[#[I.ok.mod,I.ok.kind,I.ok.glob,I.ok.blt,I.ok.above,I.ok.inj,I.ok.has,I.ok.cab,I.ok.hd,I.ok.frames,I.ok.stk,I.ok.exf,I.ok.bs,I.ok.bsz,I.ok.noex,I.ok.exfs,I.ok.funs,I.ok.frf],I.os,I.bare,I.mM,I.loc,I.cell,I.free,I.freeC,λp x=>I.pin p<|zM _ x,I.hok,I.len]
def mS.catch(I:mS X x z H s)(w:lZ):mS (X.caught w) x z H s :=
 #[#[I.ok.mod,I.ok.kind,I.ok.glob,I.ok.blt,I.ok.above,I.ok.inj,I.ok.has,I.ok.cab,λy=>absurd y oK,I.ok.frames,I.ok.stk,I.ok.exf,I.ok.bs,I.ok.bsz,I.ok.noex,I.ok.exfs,I.ok.funs,I.ok.frf],I.os,I.bare,I.mM,I.loc,I.cell,I.free,I.freeC,I.pin,I.hok,I.len]
def mS.uncatch(y:X.A.handled=none)(I:mS (X.caught w) x z H s):mS X x z H s :=
 #[#[I.ok.mod,I.ok.kind,I.ok.glob,I.ok.blt,I.ok.above,I.ok.inj,I.ok.has,I.ok.cab,λ_=>y,I.ok.frames,I.ok.stk,I.ok.exf,I.ok.bs,I.ok.bsz,I.ok.noex,I.ok.exfs,I.ok.funs,I.ok.frf],I.os,I.bare,I.mM,I.loc,I.cell,I.free,I.freeC,I.pin,I.hok,I.len]
end
section
variable {P:mn} {w:mj} {K:mf} {mg:lY->me ma} {mM:mi}
def qX.okX{x qual:lY}{st:mh}{f:lZ}{fd:mq}{N ps:lX lY}{k:Nat}{y:Sp}(F:qX K x qual st f fd)(S:Zy N ps (Zj st))
  (r:∀(z:ma)(A:mo)(u:lX Env)(s:md)(H:Hp)(vs:lX V)(Q:VK)(E:XK),Y0 k (A.deeper<|envOfC qual (Zj st) #v[s] f z)->y vs H Q E->
   let X:=(W8 (ou P w) P w K mg mM N qual (Zj st) f z A u s H E);let D:qj:={nx:=λ_ q=>Q .non q,rt:=Q};WSs X (Y1 st) D (start N vs) H) (len:∀vs H Q E,y vs H Q E->vs.length=ps.length:=by bv_omega):Xm P w K mg mM (ou P w) (k+1) f fd ps y:=by
 obtain⟨l,j,kV,i,g,e,z,d,c,rfl,lk,p⟩:=F.ex;show Dj lk p S len λA u s H vs Q E o n=>#[_,Zo,r z A u s H vs Q E o n]
end
theorem xT:∀{ss:lX lY}{us:lX ma},Ya (ss.map V.str) us->StrsAre us ss
 | [],_,r=>by rw[uS]at r;cases r;show .nil
 | x ::ss,_,r=>by
  rw[oq]at r;cases r with
  | cons r t =>
   obtain⟨z,rfl⟩:=r;show .cons _ _<|xT t
theorem BM:∀{ss:lX lY}{us:lX ma},StrsAre us ss->Ya (ss.map V.str) us
 | [],_,r=>by cases r;show .nil
 | x ::ss,_,r=>by
  cases r with
  | cons _ _ t=>show .cons #[_,rfl]<|BM t
def QO(K:mf):lX V->Hp->VK->Prop:=λx H Q=>∃(p:lZ)(z:lX lY),x=[.ref p]/\SqL K H p (z.map V.str)/\z.length<64/\∀y:lX lY,y.Perm z->sortedS y=true->pG H (.lst<|y.map V.str) Q
def VF:Y5 X (.builtin "sorted") (QO X.K):=by
 intro N s z H M L Q I r h;obtain⟨p,l,rfl,j,u,q⟩:=h;obtain⟨u,rfl,i⟩:=Wr r;cases i;obtain⟨y,x,g,u⟩:=I.list j;have J:y.length=l.length:=by have:=x.length;rw[mV]at this;show this.symm
 refine sorted_strs g.isList (xT x) (by lia) λout w d n c=>?_
 obtain⟨e,Y⟩:=sortedAll_at s.heap y out;have G:=n.length_eq;have U:H (#v[s]+1)=none:=I.hok.fresh<|qT _;show#[.ref<|#v[s]+1,_,I.laid (a:=#v[s]+1) (o:=.lst<|w.map V.str) (t':=s.toks) (λb o h=>sortedAll_old h) (qT _) (show Z7 X.prog X.w _ _ _ (.lst _)from#[by rw[mV];show sz (by lia),out.toList,e,BM d,by rw[Y]]),rfl,(q w n c).at _ U]
def mS.laidAt(I:mS X r z H s)(k:∀b u,s.heap.get? b=some u->h'.get? b=some u)(w:s.heap.get? a=none)(new:Z7 X.prog X.w (mT H a o) h' a o) :
  H a=none/\mS X r z (mT H a o) {s with heap:=h',toks:=t'}:=by
 have x:H a=none:=by
  cases e:H a with
  | none=>rfl
  | some u =>
   obtain⟨q,y⟩:=(I.hok a u e).there;rw[w]at y;cases y
 have p:∀b u,s.heap.get? b=some u->b≠a:=λb u e y=>by rw[y,w]at e;cases e
 refine#[x,I.call' (s':={s with heap:=h',toks:=t'}) rfl #[λb u e _ _ _=>k b u e,λb u e _ _ _=>#[u.slots,k b u e],λb u e n _=>by rw[Zd (p b u e)];show n,λb u e _=>#[u,k b u e],λb l e=>?_,λb q u e=>?_,λb j e=>#[#[],?_]] (λb u e=>?_) I.bare λb y=>absurd y sU]
 ·rw[Zd (Ze e x)];show e
 ·rw[Zd (Ze e x)];show e
 ·rw[Zd (Ze e x)];simpa using e
 ·by_cases y:b=a
  ·rw[y,Zc]at e;cases e;rw[y];show new
  ·rw[Zd y]at e;show(I.hok b u e).stay (λc v _ h=>k c v h) (λc h=>by rw[Zd (Ze h x)];show h) (λc q h=>by rw[Zd (Ze h x)];show h)
def BO:lX V->Hp->VK->Prop:=λw H Q=>∃(p:lZ)(z:lX (nI×V)) (y:lX lY),w=[.ref p]/\Rd H p (.dK z)/\z.map (λkv=>kV kv.1)=y.map V.str/\y.length<64/\∀x:lX lY,x.Perm y->sortedS x=true->pG H (.lst<|x.map V.str) Q
def EI(L:X.calm=true):Y5 X (.builtin "sorted") BO:=by
 intro c7 s z H xs us Q I r h;obtain⟨p,g,G,rfl,hd,E,u,q⟩:=h;obtain⟨u,rfl,D⟩:=Wr r;cases D;obtain⟨u,lo,C,kv,B⟩:=ri I.hok hd;obtain⟨ep,C8⟩:=B.dictAt;have hlv:=KV.length kv;refine Dh kind_sorted plain_sorted entry_sorted (args_sorted1 _) ?_;unfold Builtin.«sorted»;refine mU (m:=checkCount "sorted" 1 1 _)<|nk ?_;refine mU<|PySem.W.kdu_collect (A:=X.A.in1) (PySem.W.kdl_dict (knd:=Z4 X.prog X.w) (kvs:=C) (ep:=ep) lo) (I.ok.hd L) C8 (by lia) λx tk l i U=>?_;have d:Ya (g.map λkv=>kV kv.1) l.toList:=MC (P:=X.prog) (w:=X.w) kv (by rw[qK];show U.1) λj v e=>U.2 j v (by rw[<-sX];show e)
 rw[E]at d;have c:=xT d;have g8:l.toList.length=G.length:=by have:=d.length;rw[mV]at this;show this.symm
 refine mU (Cs ?_ (by rw[g8];show sz<|by lia));have n:(x.push<|seqObj "list" l.toList.toArray 0).get? x.objs.size=some (seqObj "list" l.toList.toArray 0):=oG _ rfl;refine mU<|qt<|wv slot_list_sort #[_,n,rfl] entry_list_sort (list_sort_treeK strKind_oneLt n c.keysOf (λu p Zr e=>keyKind_strs (by rw[<-e];show c)) (by lia) λY a1 a2=>#[_,rfl,?_])<|args_list_sort _;obtain⟨N,b1,M,b3⟩:=sorted_out_str c a1 a2;obtain⟨e,he⟩:=sortedHeap_at (out:=(arrOf Y).map (·.2)) n;have hp:=M.length_eq;have V4:s.heap.get? x.objs.size=none:=by
  cases y:s.heap.get? x.objs.size with
  | none=>rfl
  | some o=>show absurd (nS<|i _ _ y)<|rf _
 obtain⟨hn,J⟩:=I.laidAt (h':=sortedHeap (x.push<|seqObj "list" l.toList.toArray 0) x.objs.size l.toList<|(arrOf Y).map (·.2)) (t':=tk) (a:=x.objs.size) (o:=.lst<|N.map V.str) (λb o p=>by
  have u:=i b o p;rw[sortedHeap_old (oi<|nS u) (pF (nS u) (by rw[rS];show qT _))];show nZ _ u) V4 (show Z7 X.prog X.w _ _ _ (.lst _)from#[by rw[mV];show sz (by lia),((arrOf Y).map (·.2)).toList,e,BM b1,by rw[he]])
 show nk #[_,rfl,.ref x.objs.size,_,J,rfl,(q N M b3).at _ hn]
def WB(u:TE):TE:=λz H Q=>u z H λx w=>∃d y,x=.ref d/\Rd w d (.dK y)/\pG w (.lst<|y.map λkv=>kv.2) Q
def TD{kvs:lX (nI×V)}{z:lX (nI×ma)}(h:KV kvs z):Ya (kvs.map λkv=>kv.2) (z.map λkv=>kv.2):=by
 induction h with
 | nil=>show .nil
 | cons r t y=>show .cons r.2 y
def XX(N:X.calm=true)(u:Gl X "list")(p:X.mg "list"=none)(M:PE X o to)(L:attributeBase o "values" X.env (eval o X.env)=eval o X.env:=by rfl)(J:(G.endLine ==E.line)=true:=by rfl) :
  PE X (.Call (.Name "list" p') [.Call (.Attribute o "values" G) [] [] E] [] B5) (WB to):=by
 intro c s z H Q I h;refine uE<|vE I u p xN ?_;refine yJ ?_ rfl rfl;refine wk ?_;refine GO L J<|ny (M c s z H _ I h) λv s1 ⟨y,D,Y,C,B⟩=>?_;obtain⟨d,n,rfl,hd,q⟩:=B;cases C;obtain⟨A,hs,l,kv,x⟩:=ri Y.hok hd;obtain⟨ob,_,_,i,U5,_⟩:=id x;obtain⟨ep,hD⟩:=HH x i;refine#["dict","dict.values",Bu,MX,PySem.F.type_dict_values,x.typeIs,λa e=>?_,xD rfl<|Fo ?_]
 ·cases e;show#[ob,i,U5.2.1]
 refine zd MX x.typeIs PySem.F.entry_dict_values (PySem.F.args_dict_values_1 _) (meets_dict_values (Z4 X.prog X.w) d hs) #[#[l,x],?_];refine yj ?_;have g:mS X c z D {s1 with heap:=s1.heap.push {cls:=.type "dict_values",data:=.fields (List.toArray [.ref d])}}:=Y.kept (t':=s1.toks) λb o e=>nZ _ e
 have hl:=KV.length kv;refine PySem.W.kdl_call (PySem.W.kdl_values (knd:=Z4 X.prog X.w) (r:=#v[s1]) (d:=d) (kvs:=l) (ep:=ep)) (g.ok.hd N) #[#[_,oG _ rfl,rfl,rfl],hD _<|nZ _ i] (by lia) λh' tk w c' hk y8 U=>?_
 have e1:w.toList=l.map (·.2):=PySem.W.kdl_vals_eq w.toList (by rw[qK];show U.1) λj v e=>U.2 j v (by rw[<-sX];show e)
 have hv:Ya (n.map λkv=>kv.2) w.toList:=by rw[e1];show TD kv
 show#[.ref _,_,g.laid (o:=.lst _) (t':=tk) hk (nK _) (show Z7 X.prog X.w _ h' _ (.lst _)from#[by rw[mV];show A,w.toList,c',hv,by rw[y8]]),rfl,q.at _<|g.hok.fresh<|nK _]
end L2
end
section
namespace L2
open PySem PySem.Spec PyProof.Rows Builtin Builtin.ObjectAttr
abbrev vV:lX ma:=[.type "ValueError",.type "Exception",.type "BaseException",.type "object"]
def uH(C t:lZ)(z:me lZ):Obj:={cls:=.ref C,dict:=z,data:=.fields (List.toArray [.ref t,.none,.none,.none,.bool false,.none])}
def pS(e C t:lZ)(z:me lZ):HO:=.ext λh=>h.get? e=some (uH C t z)
def qR(e C:lZ)(y:me lZ):HO:=.ext λh=>∃o z,h.get? e=some o/\o.cls=.ref C/\o.dict=y/\o.data=.fields z/\z[2]? =some .none
section
def pS.ok(x:h.get? e=some (uH C t z)):Z7 P w H h e (pS e C t z):=#[x,#[_,x],λ_ _ p k=>k _ p]
def qR.ok{o:Obj}{vs:Array ma}(x:h.get? e=some o)(a:o.cls=.ref C)(b:o.dict=z)(c:o.data=.fields vs)(d:vs[2]? =some .none):Z7 P w H h e (qR e C z):=#[#[o,vs,x,a,b,c,d],#[_,x],λ_ _ ⟨o,vs,x,r⟩ k=>#[o,vs,k _ x,r]]
def pS.at(k:oz P w H h)(q:H e=some (pS e C t z)):h.get? e=some (uH C t z):=(k e _ q).1
def qR.at(k:oz P w H h)(q:H e=some (qR e C z)):∃o vs,h.get? e=some o/\o.cls=.ref C/\o.dict=z/\o.data=.fields vs:=let⟨o,vs,a,b,c,d,_⟩:=(k e _ q).1;#[o,vs,a,b,c,d]
end
variable {X:Cx}
def mS.track{a:lZ}{o:HO}(I:mS X l z H s)(r:H a=none)(i:X.mw.heap.get? a=none)(h:a≠X.env.locals)(g:∀x c,X.env.cells.lookup x=some c->c≠a)(e:∀p∈X.pn++l,p.1≠a)
  (new:Z7 X.prog X.w (mT H a o) s.heap a o):mS X l z (mT H a o) s:=by
 refine#[I.ok,I.os,I.bare,#[I.mM.keep,I.mM.slot,λb u y n d=>?_,I.mM.there,λb j y=>?_,λb Y u y=>?_,λb U y=>?_],I.loc,I.cell,?_,λx c y=>?_,λp y=>?_,λb u y=>?_,I.len]
 ·rw[Zd λw=>by rw[w,i]at y;cases y];show I.mM.free b u y n d
 ·have q:=I.mM.tups b j y;rw[Zd (Ze q r)];show q
 ·have q:=I.mM.frzs b Y u y;rw[Zd (Ze q r)];show q
 ·obtain⟨more,q⟩:=I.mM.tbls b U y;show#[more,by rw[Zd (Ze q r)];show q]
 ·rw[Zd h.symm];show I.free
 ·rw[Zd (g x c y)];show I.freeC x c y
 ·obtain⟨Q,N,M⟩:=I.pin p y;show#[Q,by rw[Zd (e p y)];show N,M]
 ·by_cases w:b=a
  ·subst w;rw[Zc]at y;cases y;show new
  ·rw[Zd w]at y;show(I.hok b u y).stay (λ_ _ _ q=>q) (λc q=>by rw[Zd (Ze q r)];show q) λc j q=>by rw[Zd (Ze q r)];show q
def yX(H:Hp)(a:lZ):Hp:=λb=>if b=a then none else H b
def BN{a b:lZ}(h:b≠a):yX H a b=H b:=ng h
def Ik{a:lZ}:yX H a a=none:=nj rfl
def mS.drop{a:lZ}{z:mi->Prop}(I:mS X j y H s)(i:H a=some (.ext z)):mS X j y (yX H a) s:=by
 have off:∀{b:lZ}{u:HO},H b=some u->u≠.ext z->yX H a b=some u:=λ{b u} q n=>by
  rw[BN λx=>by rw[x,i]at q;show n (pc q).symm];show q
 have non:∀{b:lZ},H b=none->yX H a b=none:=λ{b} q=>by
  by_cases x:b=a
  ·rw[x];show Ik
  ·rw[BN x];show q
 refine#[I.ok,I.os,I.bare,#[I.mM.keep,I.mM.slot,λb u w n o=>non<|I.mM.free b u w n o,I.mM.there,λb l w=>off (I.mM.tups b l w) (λx=>nomatch x),λb h u w=>off (I.mM.frzs b h u w) (λx=>nomatch x),λb g w=>?_],I.loc,I.cell,non I.free,λr c w=>non<|I.freeC r c w,λp w=>?_,λb u w=>?_,I.len]
 ·obtain⟨more,q⟩:=I.mM.tbls b g w;show#[more,off q λx=>nomatch x]
 ·obtain⟨r,o,h⟩:=I.pin p w;show#[r,non o,h]
 ·have x:b≠a:=λx=>by rw[x,Ik]at w;cases w
  rw[BN x]at w;show(I.hok b u w).stay (λ_ _ _ q=>q) (λc q=>off q λx=>nomatch x) (λc l q=>off q λx=>nomatch x) (λc o q=>off q λx=>nomatch x) (λc o q=>off q λx=>nomatch x)
def mS.forget{h':mi}{g:lY->me ma}{t':Nat}(I:mS X e z H s)(d:h'.Ns X.env.locals g)(l:Heap.SameBut X.env.locals s.heap h'):mS X e (List.replicate X.N.length none) H {s with heap:=h',toks:=t'}:=by
 have r:∀b o,X.mw.heap.get? b=some o->b≠X.env.locals:=λb o q=>oi<|pF (nS q) I.ok.above
 refine#[I.ok,I.os,I.bare,#[λb o y n h j=>?_,λb o y n h j=>?_,I.mM.free,λb o y j=>?_,I.mM.tups,I.mM.frzs,I.mM.tbls],#[g,d,λi x v _ y _=>?_],λx c y=>?_,I.free,I.freeC,λp y=>?_,λb u y=>?_,by simp]
 ·rw[l.2 b (r b o y)];show I.mM.keep b o y n h j
 ·obtain⟨w,q⟩:=I.mM.slot b o y n h j;show#[w,by rw[l.2 b (r b o y)];show q]
 ·obtain⟨w,q⟩:=I.mM.there b o y j;show#[w,by rw[l.2 b (r b o y)];show q]
 ·rw[FV]at y;split at y<;>cases y
 ·obtain⟨v,q⟩:=I.cell x c y;show#[v,q.sameBut l<|I.cne x c y]
 ·obtain⟨i,a,w,Y⟩:=I.pin p y;show#[by rw[l.2 p.1 w];show i,a,w,Y]
 ·refine(I.hok b u y).stay (λc v w q=>?_) (λ_ q=>q) λ_ _ q=>q
  rw[l.2 c ?_]
  ·show q
  rintro rfl;have fr:H X.env.locals=none:=I.free;rcases w with rfl|w
  ·rw[fr]at y;cases y
  ·rw[fr]at w;cases w
def vY(K:mf)(C Y:lZ):Prop:=∃nm q N bs z sub y col x w u s r p,K.lookup C=some (excClassObj nm q C N bs (.ref Y ::vV) true z sub y col x w u s r p "ValueError.__new__")
def vY.cls{K:mf}{C Y:lZ}(c:vY K C Y):∃z,PySem.W.clsIn K C=some z/\z.mro=.ref C ::.ref Y ::vV/\z.hasDict=true:=by
 obtain⟨nm,q,N,bs,y,sub,x,col,w,u,s,r,p,o,h⟩:=c;refine#[{name:=nm,bases:=bs,mro:=.ref C ::.ref Y ::vV,ns:=N,qualname:=q,hasDict:=true,slotNames:=y,subclasses:=sub,abstract:=x,collection:=col,hasDel:=false},?_,rfl,rfl];unfold PySem.W.clsIn;rw[h]
def vY.hd{K:mf}{C Y:lZ}(c:vY K C Y):PySem.W.hasDictIn K C=true:=by
 obtain⟨z,h,_,hd⟩:=c.cls;unfold PySem.W.hasDictIn;rw[h];show hd
section
variable {E:ma->md->Prop}
def TC{y:V}{u:ma}{Q:Unit->md->Prop}(I:mS X c7 z H s)(q:H e=some (pS e C t none))(c:vY X.K C Y)(sa:findIn X.K (.ref C) "__setattr__"=some (some<|.builtin "object.__setattr__"))(na:findIn X.K (.ref C) f=some none)(ry:Yg y u)
  (h:∀i s',H i=none->i≠e->mS X c7 z (mT (mT H e<|pS e C t<|some i) i<|.xd [(f,y)]) s'->Q () s'):wpAny (model X.prog X.w) A (setAttr (.ref e) f u) Q E s:=by
 obtain⟨cd,U,r,n⟩:=c.cls;have d:=pS.at I.hok q;have J:PySem.W.InstAt s.heap e (uH C t none) C none:=#[d,rfl,rfl,trivial]
 have SF:=PySem.F.store_object;have N:PySem.W.Looks (model X.prog X.w) s.heap (typeOf<|.ref e) (.ref C):=J.type;have lm:PySem.W.Looks (model X.prog X.w) s.heap (mroOf<|.ref C) cd.mro:=(Fq I.kIn U).andThen .now;have sub:PySem.W.Looks (model X.prog X.w) s.heap (isInstance (.ref e)<|.type "object") true:=N.andThen (Qi I.kIn<|by unfold PySem.W.mroIn;rw[U,Fi,r];rfl);refine PySem.W.set_plain I.kIn J sa ?_;refine Be SF.slot.plain SF.entry<|@OB (model X.prog X.w) _ _ {s with toks:=s.toks+1} "object.__setattr__" "object" "__setattr__" (.ref e) [.str f s.toks,u] [] _ SF.kind SF.split sub (SF.args (.ref e) (.str f s.toks) u) ?_;rw[PySem.W.osa_eq,refuse_eq];refine mU<|mU<|N.here (s:={s with toks:=s.toks+1})<|mU<|lm.here (s:={s with toks:=s.toks+1}) ?_;rw[r,refuseLoop_ref,refuseLoop_ref,PySem.F.store_ValueError.passes];refine nk<|mU<|N.here (s:={s with toks:=s.toks+1})<|mU<|(Ai I.kIn na).here (s:={s with toks:=s.toks+1}) (mU<|nk ?_);have a:e≠#v[s]:=oi<|nS d;have B:(s.heap.push PySem.W.emptyDict).get? e=some (uH C t none):=nZ _ d;have h2:((s.heap.push PySem.W.emptyDict).update e λo=>{o with dict:=some #v[s]}).get? e=some (uH C t<|some #v[s]):=ux _ B rfl;have d2:((s.heap.push PySem.W.emptyDict).update e λo=>{o with dict:=some #v[s]}).get? #v[s]=some PySem.W.emptyDict:=by
  rw[rV _ _ a];show oG s.heap rfl
 have n2:((s.heap.push PySem.W.emptyDict).update e λo=>{o with dict:=some #v[s]}).Ns #v[s] (λ_=>none):=#[_,#[],_,d2,rfl,λx g=>absurd g (by simp),λ_=>rfl]
 change wpAny _ _ (storeInOwnDict (.ref e) (.ref C) (.str f s.toks) f u _) _ _ _;unfold storeInOwnDict;refine mU<|nk ?_;rw[ng (by simp)];refine mU ?_;change wpAny _ _ (instanceDict e true) _ _ _;unfold instanceDict;refine mU<|Ii d ?_;dsimp only[uH];refine mU<|(Fq I.kIn U).here (s:={s with toks:=s.toks+1}) ?_;rw[n,ng (by simp),ng<|by simp[typeHasDict]];refine mU<|wpAny_alloc'<|mU<|wpAny_update' B ?_;refine nk ?_;change wpAny _ _ (storeInDict #v[s] (.str f s.toks) f u) _ _ _;unfold storeInDict newKeyGuard;refine mU<|nk<|mU<|wpAny_nsSet1 (Heap.Ns1.of_empty n2) λM l j=>?_;obtain⟨oD,g,epD,L,G,D⟩:=l.count<|PySem.Within.cons f u PySem.Within.nil;refine mU<|wpAny_lookBehind L (by rw[G];show pastItsLine_dict<|oy D<|by rw[pJ,CL,tR];lia) ?_;refine nk ?_;have e3:M.get? e=some (uH C t<|some #v[s]):=by rw[j.2 e a];show h2
 have k3:∀b o,b≠e->s.heap.get? b=some o->M.get? b=some o:=λb o nb x=>by
  rw[j.2 b (oi<|nS x)];change((s.heap.push PySem.W.emptyDict).update e λo=>{o with dict:=some #v[s]}).get? b=_;rw[rV _ _ nb.symm];show nZ _ x
 have z9:H #v[s]=none:=I.fresh;refine h #v[s] _ z9 a.symm ?_;have I3:=I.write (x:=e) (e:=e) (o:=pS e C t<|some #v[s]) (h':=M) (t':=s.toks+1+1) (by rw[q];show rL) (.inl rfl) k3 #[_,e3]<|pS.ok e3;refine I3.track ?_ ?_ ?_ (λw c' x=>?_) (λp x=>?_) ?_
 ·rw[Zd a.symm];show z9
 ·show Bh I.sz
 ·show vK I.lt
 ·obtain⟨v,o,g,_⟩:=I.cell w c' x;show oi<|nS g
 ·show oi<|nS (I.pin p x).1
 ·refine#[_,l,λg=>?_]
  by_cases x:g=f
  ·subst x;simp only[List.lookup,AY,rP];show ry
  ·have zb:(g ==f)=false:=sO.mpr x;simp only[List.lookup,zb,ng x];show rL
def ZA(K:mf)(s r:TE)(f:lY):TS:=λD z H=>r z H λy q=>s z q λx u=>∃e C Y t,x=.ref e/\u e=some (pS e C t none)/\vY K C Y/\findIn K (.ref C) "__setattr__"=some (some<|.builtin "object.__setattr__")/\findIn K (.ref C) f=some none/\
 ∀w,u w=none->w≠e->D.nx z (mT (mT u e<|pS e C t<|some w) w<|.xd [(f,y)])
def Fu{o value:ml}{pos w:Pos}{r p:TE}(l:PE X o r)(j:PE X value p)(i:swapsWith value (some<|.Attribute o f w) pos.line X.env=pure false):PS X (.Assign [.Attribute o f w] value pos) (ZA X.K r p f):=by
 intro n s z H D I h;refine LD (ny (j n s z H _ I h) λu x ⟨y,g,d,a,q⟩=>ny (l n x z g _ d q) λU Y Q=>?_) i;obtain⟨x,y,N,M,e,C,Y,t,L,J,c,G,B,A⟩:=Q;subst L;obtain rfl:U=Value.ref e:=M;show TC N J c G B a λdx s3 hn w6 I3=>#[z,_,I3,A dx hn w6]
structure XA(K:Frag)(C:Addr):Prop where
 ga:findIn K (.ref C) "__getattribute__"=some (some<|.builtin "BaseException.__getattribute__")
 gt:findIn K (.ref C) "__getattr__"=some none
 be:PySem.W.mroIn K C (.type "BaseException")=some true
end
section
variable {prog:mn} {w:mj} {A:mo} {E:ma->md->Prop} {s:md} {K:mf} {x C:lZ} {ox:Obj} {od:me Obj} {name:lY} {tk:Tok}
def Zwz:builtinKind "BaseException.__getattribute__"=some .slot:=by left
def Zt7:splitId "BaseException.__getattribute__"=some ("BaseException","__getattribute__"):=by left
def IN{v:ma}{R:Result->md->Prop}(X:K.In s.heap)(I:PySem.W.InstAt s.heap x ox C od)(u:XA K C){fd:Found}(r:PySem.W.findObj K C od name=some fd)
  (h:match fd with|.value v=>R (.ok<|.ret v) s|.bind g a=>wpAny (model prog w) A.in1 (call g [a,.ref x,.ref C]) (λv s'=>R (.ok<|.ret v) s') (λe s'=>R (.error e) s') s|.missing=>False) :
  codeAny (model prog w) A (.call (.builtin "BaseException.__getattribute__") #[[.ref x,.str name tk],[]]) R s:=by
 have y:=I.type (M:=model prog w);have sub:PySem.W.Looks (model prog w) s.heap (isInstance (.ref x)<|.type "BaseException") true:=y.andThen<|Qi X u.be;have fn:=PySem.W.looks_find (M:=model prog w) X I r;refine Be Lq.ga.plain PySem.F.entry_bexc_ga<|@OB (model prog w) _ _ s "BaseException.__getattribute__" "BaseException" "__getattribute__" (.ref x) [.str name tk] [] _ Zwz Zt7 sub (PySem.F.args_bexc_ga _ _) ?_;refine mU<|nk<|mU<|nk<|mU<|y.here<|mU<|fn.here ?_;cases fd with
 | value v=>show nk h
 | bind g a =>
  change wpAny _ _ (holding [a] (call g [a,.ref x,.ref C])>>=ret) _ _ _;show mU (qt<|pX h (λv s' z=>nk z) λ_ _ z=>z)
 | missing=>show h.elim
def Oy{fill expr:Bool}{Q:ma->md->Prop}(X:K.In s.heap)(I:PySem.W.InstAt s.heap x ox C od)(y:XA K C)
  (h:codeAny (model prog w) A (.call (.builtin "BaseException.__getattribute__") #[[.ref x,.str name tk],[]]) (λr s'=>match r with|.ok (.ret v)=>wpAny (model prog w) A (handedOut v) Q E s'|_=>False) s) :
  wpAny (model prog w) A (getAttrBy (.ref x) (.str name tk) fill expr) Q E s:=by
 have u:=I.type (M:=model prog w);have q:=Ai (M:=model prog w) X y.ga;have lt:=Ai (M:=model prog w) X y.gt;unfold getAttrBy;refine qt<|mU<|u.here<|mU<|q.here ?_;change wpAny _ _ (getAttrByItsOwn (.ref x) (.str name tk) (.ref C) (.builtin "BaseException.__getattribute__") fill expr) _ _ _;unfold getAttrByItsOwn;refine mU<|lt.here<|mU<|Do<|qt ?_;have p:(expr && onTheHeap (Value.builtin "BaseException.__getattribute__"))=false:=by cases expr<;>rfl
 unfold callGetattribute;rw[p];simp only[qF,pW];unfold boundAndCalled;rw[Lq.ga.bind];refine mU<|nk<|ul<|uh h λr s' z=>?_;rcases r with e|(v|_|_|_)<;>first|show z|show z.elim
def WH{v:ma}{expr:Bool}{Q:ma->md->Prop}(X:K.In s.heap)(I:PySem.W.InstAt s.heap x ox C od)(z:XA K C)(y:PySem.W.findObj K C od name=some (.value v))(u:PySem.W.handedIn v=true)(h:Q v {s with toks:=s.toks+1}) :
  wpAny (model prog w) A (getAttr (.ref x) name expr) Q E s:=by
 unfold getAttr;refine mU<|wpAny_mkText<|Oy (s:={s with toks:=s.toks+1}) X I z<|IN (s:={s with toks:=s.toks+1}) (fd:=.value v) (v:=v) X I z y ?_;change wpAny _ _ (handedOut v) _ _ _;rw[PySem.W.handedOut_of u];show nk h
def OT(j:XA K C)(y:(PySem.W.clsIn K C).isSome=true)(i:findIn K (.ref C) "__class__"=some (some<|.builtin "object.__class__"))(g:PySem.W.specialIn K (.builtin "object.__class__") "__get__"=some (some<|.builtin "getset_descriptor.__get__"))
  (u:PySem.W.takesIn K (.builtin "object.__class__")=some true) (d:PySem.W.mroIn K C (.type "object")=some true):PySem.W.KitX K (.ref x) (.ref C) (λh=>PySem.W.InstAt h x ox C od) where
 ty:=λ_ _ _ I=>I.type
 it:=λ_ _ X _=>by
  unfold PySem.W.clsIn at y;split at y
  ·rename_i c a r p o;intro M L J H k q;unfold isType loadHead;show mU<|Ii (k _ _<|X _ _ o)<|nk q
  ·cases y
 ne:=λh Y G D n B X l=>by
  refine FR.mpr λq=>?_
  have e:C=Y:=Value.ref.inj<|qN.mp q;subst e;unfold PySem.W.clsIn at y;split at y
  ·rename_i c a r p o;have z:=(X _ _ o).symm.trans l;cases z
  ·cases y
 ca:=λ{prog w A E Q s} X I k=>by
  have U:PySem.W.findObj K C od "__class__"=some (.bind (.builtin "getset_descriptor.__get__")<|.builtin "object.__class__"):=by
   obtain⟨cd,N⟩:=Gg.mp y;unfold PySem.W.findObj;rw[N,Fi,i];simp[g,u]
  unfold getAttr? getAttrBy?;refine mU<|wpAny_mkText<|mU<|Do<|Oy (s:={s with toks:=s.toks+1}) X I j<|IN (s:={s with toks:=s.toks+1}) (v:=.none) X I j U ?_;show ul<|PySem.W.class_get (s:={s with toks:=s.toks+1}) (ox:=ox) (od:=od) X I d<|nk<|nk k
end
def RC(K:mf)(u:TE)(f:lY):TE:=λz H Q=>u z H λx y=>∃e C Y w fs v,x=.ref e/\y e=some (qR e C<|some w)/\y w=some (.xd fs)/\vY K C Y/\XA K C/\findIn K (.ref C) f=some none/\fs.lookup f=some v/\Q v y
def Ycg{y:ml}{pos:Pos}{g:TE}(M:PE X y g)(L:attributeBase y f X.env (eval y X.env)=eval y X.env):PE X (.Attribute y f pos) (RC X.K g f):=by
 intro G s z H Q I h;refine Kq L<|ny (M G s z H _ I h) λu d E=>?_;obtain⟨x,a,w,D,e,C,Y,U,fs,v,B,A,hd,c,xa,na,l,q⟩:=E;subst B;obtain rfl:u=Value.ref e:=D;obtain⟨o,x,ho,oc,od,p⟩:=qR.at w.hok A;obtain⟨mA,n,r⟩:=(show Z7 X.prog X.w a d.heap U (.xd fs)from w.hok U _ hd)
 obtain⟨j,i,hl⟩:=EA n;obtain⟨x,hu,N⟩:=qp.some_of (v:=v) (o:=mA f) (by rw[<-l];show r f);have J:PySem.W.InstAt d.heap e o C (some j):=#[ho,oc,by unfold PySem.W.notCls;rw[p],by rw[od];show i]
 show WH w.kIn J xa (PY c.hd na rfl<|by rw[hl,hu]) (NN N) #[v,a,w.tok _,N,q]
end L2
end
section
namespace L2
open PySem PySem.Spec PyProof.Rows
section
variable {prog:mn} {w:mj} {A:mo} {E:ma->md->Prop} {h:mi} {g:Array GenState} {d:Drawn} {tk:Nat} {os:OsState} {nm qn:lY} {C N:lZ} {bs bm bmB:lX ma} {hdct:Bool} {sn:lX lY} {sub:lX ma} {ab:Bool} {col:me Bool} {dd:me lZ} {k0 k1 k2 k3 k5:me ma} {B newId M7:String}
 {Zr:lX ma} {fI:lZ} {oI:Obj}
def Ztp{Q:Fin->md->Prop}(FB:ExcBaseFacts B newId M7 bmB)(T:OwnTail h bmB bm)(s:h.get? C=some (excClassObj nm qn C N bs bm hdct sn sub ab col dd k0 k1 k2 k3 k5 newId))(a:PySem.W.Looks (model prog w) h (typeLookup (.ref C) "__init__") (some<|.ref fI))
  (n:h.get? fI=some oI) (l:oI.cls=.type "function") (u:Zr.length<=sizeLine)
  (Y:∀h' e,Heap.MadeExcOf h h' e (.ref C) Zr->wpAny (model prog w) A (call (.ref fI)<|.ref e ::Zr) (λr s'=>r=.none/\Q (.done<|.ret<|.ref e) s') E #[h',g,d,tk,os]) :
  wpAny (model prog w) A (Builtin.«type.__call__» #[.ref C ::Zr,[]]) Q E #[h,g,d,tk,os]:=by
 repeat (first|with_reducible refine wpAny_madeBy_exc s ?_ |with_reducible refine Bt s ?_ |wp_step)
 refine codeAny_call_builtin_code (yp _ FB.quiet)<|wpAny_check_new_subT FB T s<|codeAny_exc_new_subT FB T s ?_ u;change wpAny _ _ _ _ _ _;generalize i:({cls:=.type "tuple",data:=.seq Zr.toArray}:Obj)=p;generalize j:({cls:=.ref C,data:=.fields (List.toArray [.ref h.objs.size,.none,.none,.none,.bool false,.none])}:Obj)=q;have y:∀b o,h.get? b=some o->((h.push p).push q).get? b=some o:=λb o z=>nZ _<|nZ _ z
 have c:((h.push p).push q).get? (h.objs.size+1)=some q:=Heap.get?_push_at (by rw[rS]) (by rw[<-j];rfl);have U:((h.push p).push q).get? h.objs.size=some p:=nZ _ (oG h<|by rw[<-i];rfl);have M:=y _ _ s;have L:q.cls=.ref C:=by rw[<-j]
 have same:(Value.ref C ::bm).contains (.ref C)=true:=by simp
 unfold isInstance
 repeat (first|(with_reducible refine Bt c ?_;rw[L])|(with_reducible refine wpAny_isSubtype_exc M ?_;rw[same])|wp_step)
 change wpAny _ _ (typeLookup (.ref C) _) _ _ _;refine a A _ E _ y<|qt<|mU ?_;unfold bindSpecial;refine mU<|xq (T :="function") #[_,y _ _ n,l] ?_;rw[nj (by lk)];refine nk<|mU<|pX (Y _ (h.objs.size+1) #[y,Bh<|qT _,h.objs.size,by rw[c,j],Bh<|nK _,by rw[U,i]]) (λr s' J=>?_) λ_ _ x=>x;obtain⟨rfl,I⟩:=J
 wp_walk
 show I
def XC{Q:ma->md->Prop}(FB:ExcBaseFacts B newId M7 bmB)(T:OwnTail h bmB bm)(y:h.get? C=some (excClassObj nm qn C N bs bm hdct sn sub ab col dd k0 k1 k2 k3 k5 newId))(s:PySem.W.Looks (model prog w) h (typeLookup (.ref C) "__init__") (some<|.ref fI))
  (x:h.get? fI=some oI) (u:oI.cls=.type "function") (z:Zr.length<=sizeLine)
  (q:∀h' e,Heap.MadeExcOf h h' e (.ref C) Zr->wpAny (model prog w) (A.under<|.builtin "type.__call__" #[.ref C ::Zr,[]]) (call (.ref fI)<|.ref e ::Zr) (λr s'=>r=.none/\Q (.ref e) s') E #[h',g,d,tk,os]) :
  wpAny (model prog w) A (call (.ref C) Zr) Q E #[h,g,d,tk,os]:=by
 have o:=tc_lookup;have n:=tc_bind<|.ref C;have l:(#[h,g,d,tk,os]:md).TypeIs (.ref C) "type":=#[_,y,rfl]
 refine ul<|EH ?_;change wpAny _ _ (callAny (.ref C) _) _ _ _
 repeat (any_goals (first|assumption|with_reducible refine Bt y ?_ |wp_step))
 refine#[rfl,codeAny_call_builtin_at (yp _<|by left) entry_typeCall<|wpAny_check_type_call_sub y<|Ztp FB T y s x u z λh' e p=>q h' e p]
end
section
variable {E:ma->md->Prop}
def UX{y:ml}{pos:Pos}{Q:Flow->md->Prop}(p:bm.contains (.type "BaseException")=true)(o:A.handled=none)
  (h:wpAny M A (eval y env) (λv z=>∃e t u,v=.ref e/\z.heap.get? C=some (excClassObj nm qn C N bs bm hdct sn sub ab col dd k0 k1 k2 k3 k5 newId)/\z.heap.get? e=some (uH C t u)/\E (.ref e) z) E s) :
  wpAny M A (exec (.Raise (some y) none pos) env) Q E s:=by
 have w:(Value.ref C ::bm).contains (.type "BaseException")=true:=by rw[List.contains_cons,p];show Bool.or_true _
 change wpAny M A (do standAt pos;raiseStmt env (some (do let v <-eval y env;standAt pos;pure v)) none) Q E s;refine mU<|Ag ?_;unfold raiseStmt;dsimp only;refine mU<|mU<|pX h (λv z ⟨e,t,u,n,r,q,l⟩=>mU<|Ag<|nk ?_) λ_ _ x=>x;subst n;unfold uH at q;obtain⟨x,g,d,j,os⟩:=z
 repeat (first|with_reducible refine Bt q ?_ |with_reducible refine Bt r ?_ |(with_reducible refine wpAny_isSubtype_exc r ?_;rw[w])|wp_step)
 show wpAny_raiseNew_none o l
end
inductive wC(C:lZ)(f:lY):Sp
 | mk (e t v):vs=[.ref e,v]->H e=some (pS e C t none)->(∀dx,H dx=none->dx≠e->Q .non (mT (mT H e<|pS e C t<|some dx) dx<|.xd [(f,v)]))->wC C f vs H Q E
structure XI(K:Frag)(C Y fI:Addr)(f:Str):Prop where
 cls:vY K C Y
 kp:keepIn K (.ref C)=true
 init:findIn K (.ref C) "__init__"=some (some<|.ref fI)
 fn:PySem.W.typeIn K (.ref fI)=some (.type "function")
 sa:findIn K (.ref C) "__setattr__"=some (some<|.builtin "object.__setattr__")
 xa:XA K C
 na:findIn K (.ref C) f=some none
def RR(C:lZ)(f:lY)(E:XK)(t:TA):TS:=λ_ z H=>t z H λw x=>∃v,w=[v]/\∀y,x y=none->E (.ref C) (some y) (mT x y<|.xd [(f,v)])
section
variable {P:mn} {w:mj} {K:mf} {mg:lY->me ma} {mM:mi} {N:lX lY} {qual:lY} {scope:Scope} {f:lZ} {cd:ma} {A:mo} {mJ:lX Env} {mw:md} {mz:Hp} {E:XK}
def Ap{x y:lY}{C Y L:lZ}{fd:mq}{ps:lX lY}{k:Nat}{fn:lY}{np j7 pos:Pos}{G:ml}{Zr:lX ml}{t:TA}(B:XI K C Y L fn)(OY:Dt K mg y Y vV "ValueError.__new__")(Fn:Xm P w K mg mM ph k L fd ps (wC C fn))(hb:qG K fd ps [])
  (hr:Y0 (k+1) (W8 (ou P w) P w K mg mM N qual scope f cd A mJ mw mz E).A) (hg:Gl (W8 (ou P w) P w K mg mM N qual scope f cd A mJ mw mz E) x) (i:mg x=some (.ref C)) (ha:PA (W8 (ou P w) P w K mg mM N qual scope f cd A mJ mw mz E) (G ::Zr) t)
  (Q0:(x ==("__debug__":lY))=false:=by lk) (he:starEach (G ::Zr) (W8 (ou P w) P w K mg mM N qual scope f cd A mJ mw mz E).env=(false,eval G (W8 (ou P w) P w K mg mM N qual scope f cd A mJ mw mz E).env) ::starEach Zr (W8 (ou P w) P w K mg mM N qual scope f cd A mJ mw mz E).env:=by rfl)
  (m9:(backTo j7<|starEach Zr (W8 (ou P w) P w K mg mM N qual scope f cd A mJ mw mz E).env).any (·.1)=false:=by rfl) :
  PS (W8 (ou P w) P w K mg mM N qual scope f cd A mJ mw mz E) (.Raise (some<|.Call (.Name x np) (G ::Zr) [] j7) none pos) (RR C fn E t):=by
 intro c7 s z H D I h;obtain⟨nm,qn,N',bs,sn,sub,ab,col,dd,k0,k1,k2,k3,k5,hK⟩:=B.cls;refine UX (C:=C) (nm:=nm) (qn:=qn) (N:=N') (bs:=bs) (bm:=.ref Y ::vV) (hdct:=true) (sn:=sn) (sub:=sub) (ab:=ab) (col:=col) (dd:=dd) (k0:=k0) (k1:=k1) (k2:=k2) (k3:=k3) (k5:=k5) (newId :="ValueError.__new__") (by simp) (I.ok.hd rfl) ?_;refine uE<|xk I hg i ?_ Q0;refine AQ (h₀:=mM) I.ok.mod.kin B.kp (ny (ha j7 c7 s z H _ I h) λp c ⟨d,g,j,r2,v,ev,hE⟩=>#[j.kIn,?_]) he m9;subst ev;obtain⟨u,rfl,ru⟩:=Wr r2;have hC:=j.kIn _ _ hK;obtain⟨tl,NY,uz,qY,Q,M,snY,p,abY,d,ddY,j0,j1,j2,j3,j5,mN,hY,hN,hni,_⟩:=(OY c.heap j.kIn).obj;have T:OwnTail c.heap vV (.ref Y ::vV):=.own hY hN hni .base;have LI:PySem.W.Looks (model P w) c.heap (typeLookup (.ref C) "__init__") (some<|.ref L):=Ai j.kIn B.init;have tf:c.TypeIs (.ref L) "function":=by
  obtain⟨o,ho,hc⟩:=oo.mp B.fn;show#[o,j.kIn _ _ ho,hc]
 obtain⟨oI,hoI,hcI⟩:=tf;obtain⟨p,Q,M,tk2,d⟩:=c;refine XC Af T hC LI hoI hcI (by rw[tR];change 1<=16777216;decide) λh' e i=>?_
 obtain⟨l,heX,_,_⟩:=i.there;obtain⟨w6,J⟩:=j.laidAt (h':=h') (t':=tk2) (a:=e) (o:=pS e C l none) i.keeps i.new<|pS.ok heX;have hl:ps.length=2:=by
  have:=Fn.len [.ref e,v] (mT g e<|pS e C l none) (λr _=>True) E0 #[e,l,v,rfl,Zc,λ_ _ _=>trivial];show this.symm
 refine ul (uh (Fn.run _ (W8 (ou P w) P w K mg mM N qual scope f cd A mJ mw mz E).stack _ _ #[[.ref e,u],[]] [.ref e,u] [.ref e,v] (λr H3=>r=.non/\∃n,g n=none/\n≠e/\H3=mT (mT (mT g e<|pS e C l none) e<|pS e C l<|some n) n (.xd [(fn,v)])) E0
  (hr.make C [u] []) (J.env0.make C [u] []) (hb _ [.ref e,u] J.kIn (by rw[pO,hl];rfl)) (.cons rfl<|.cons ru .nil) #[e,l,v,rfl,Zc,λn hn hd=>#[rfl,n,by rw[Zd hd]at hn;show hn,hd,rfl]]) λr s' U=>?_)
 cases r with
 | error q=>show False.elim U
 | ok fl =>
  cases fl with
  | next=>show False.elim U
  | brk=>show False.elim U
  | cont=>show False.elim U
  | ret u' =>
   obtain⟨p,H3,os,Q,un,hok,rv,rfl,n,hn,hd,rfl⟩:=U;cases rv;have I3:=J.call' os un hok Q (λb q=>absurd q<|by simp);have q3:(mT (mT (mT g e<|pS e C l none) e<|pS e C l<|some n) n<|.xd [(fn,v)]) e=some (pS e C l<|some n):=by rw[Zd hd.symm,Zc]
   have M:=pS.at I3.hok q3;have I4:=I3.drop q3;have hH:yX (mT (mT (mT g e<|pS e C l none) e<|pS e C l<|some n) n<|.xd [(fn,v)]) e=mT g n (.xd [(fn,v)]):=by
    funext b
    by_cases y:b=e
    ·rw[y,Ik,Zd hd.symm,w6]
    ·rw[BN y]
     by_cases q:b=n
     ·rw[q,Zc,Zc]
     ·rw[Zd q,Zd y,Zd y,Zd q]
   rw[hH]at I4;refine#[rfl,e,l,some n,rfl,?_,M,?_]
   ·show I3.kIn _ _ hK
   change wpAny _ _ (leaving _<|.ref e) _ _ s';have hin:∀env∈(envOfC qual scope #v[mw] f cd ::mJ),∀b,env.frame=some b->b∈e ::oS (envOfC qual scope #v[mw] f cd ::mJ):=λenv he b hb=>oZ _<|CP.mpr #[env,he,hb]
   refine On (mM:=PySem.W.hideAll s'.heap<|e ::oS (envOfC qual scope #v[mw] f cd ::mJ)) I4.ok.frames (Mc I4.stack hin) rfl M (λb o p=>BP _ p) (Pp _ oN) rfl rfl #[rfl,rfl] λh'' fl up=>?_
   refine EJ I4 fl up (λb o p d h3=>Hx _ p λq=>?_)<|hE n hn;rcases oh.mp q with y|y
   ·subst y;rcases d with⟨p,d⟩|d
    ·obtain⟨o2,h4⟩:=j.mM.there b p d (by change b∉([]:lX lZ);simp);have:=i.new;rw[h4]at this;cases this
    ·rw[Zd hd.symm]at d;show d w6
   ·show h3 y
end
section
variable {K:mf} {M:Model} {A:mo} {E:ma->md->Prop} {s:md} {e C B:lZ} {o:Obj} {r:Bool}
def Zq6{Q:Bool->md->Prop}(X:K.In s.heap)(y:s.heap.get? e=some o)(x:o.cls=.ref C)(kB:PySem.W.kitCls K (.ref B) (.type "BaseException")=some true)(w:PySem.W.kitCls K (.ref C) (.ref B)=some r)(z:Q r s) :
  wpAny M A (excMatches (.ref e)<|.ref B) Q E s:=by
 obtain⟨tB,u,q⟩:=PySem.W.kit_cls (M:=M) X w;obtain⟨_,_,p⟩:=PySem.W.kit_cls (M:=M) X kB;have n:PySem.W.Looks M s.heap (typeOf<|.ref e) (.ref C):=x ▸ (PySem.W.Looks.ld y).andThen .now;have f:=tc_notTuple;unfold excMatches isExcClass
 repeat (first|with_reducible refine n.here ?_ |with_reducible refine tB.here ?_ |with_reducible refine u.here ?_ |with_reducible refine q.here ?_ |with_reducible refine p.here ?_ |wp_step)
 cases r with
 | true=>repeat (first|show z|wp_step)
 | false=>repeat (first|show z|wp_step)
end
def qj.blur(D:qj)(n:Nat):qj:={nx:=λ_ H=>D.nx (List.replicate n none) H,rt:=D.rt,bk:=λ_ H=>D.bk (List.replicate n none) H,ct:=λ_ H=>D.ct (List.replicate n none) H}
variable {X:Cx}
def WS.tryAs{x n:lY}{B:lZ}{i:Nat}{np B4 pos:Pos}{body suite:lX mh}{Y:mh}{D:qj}{Ex:XK}{R:lZ->me lZ->Hp->Prop}(hm:X.mg x=some (.ref B))(kB:PySem.W.kitCls X.K (.ref B) (.type "BaseException")=some true)(hg:Gl X x)(hN:X.N.Nodup)(hi:X.N[i]? =some n)(T2:X.env.kindOf n=some .local)(hsc:X.env.scope.names.lookup n=some .local)
  (A0:X.stack=X.env ::X.mJ) (hfm:X.env.frame=some X.env.locals) (hcm:X.calm=true) (U5:X.ex=[]) (hE:∀cls L a,Ex cls L a->∃C,cls=.ref C/\PySem.W.kitCls X.K (.ref C) (.ref B)=some true/\R C L a)
  (hb:∀pn xe,tO (ou X.prog X.w) (X.tried pn xe) Ex->WSs (X.tried pn xe) body D z H) (hh:∀(j C:lZ)(L:me lZ)(l:St)(a:Hp),l.length=X.N.length->R C L a->a j=none->WSs (X.caught j) (Y ::suite) (D.blur X.N.length) (l.set i<|some<|.ref j) (mT a j<|qR j C L)) (hd:(x ==("__debug__":lY))=false:=by lk) :
  WS X (.Try body [.ExceptHandler (some<|.Name x np) (some n) (Y ::suite) B4] [] [] pos) D z H:=by
 refine#[λG s I=>?_];refine wpAny_Try_except ?_;have pass:tO (ou X.prog X.w) (X.tried (X.pn++G) λe my=>∅ (noteFrame e X.env) (λ_ w=>∅ (setFlight e none) (λ_ mD=>∅ (handleBy e X.env [.ExceptHandler (some<|.Name x np) (some n) (Y ::suite) B4]) (SP X G D) X.xe mD) X.xe w) X.xe my) Ex:=by
  intro C9 l H1 s1 e s2 I1 hc;obtain⟨j,cls,L,H2,rfl,os,E,un,hok,⟨a0,B0,fl,pB⟩,hEx⟩:=hc;obtain⟨C,rfl,kC,hR⟩:=hE _ _ _ hEx;have IX:mS X G l H1 s1:=I1.tryOut;have I2:mS X G l H2 s2:=IX.call' os un hok E (λb y=>absurd y<|by simp);have fr:∀b∈oS X.stack,H2 b=none/\∃o,s2.heap.get? b=some o/\∀vs,o.data≠.fields vs:=λb hb=>#[I2.stkFree b hb,(I2.stack.mem hb).2]
  have step:∀h',B0.StaysIn h'->s2.heap.UpToSlots h'->mS X G l H2 {s2 with heap:=h'}:=λh' st up =>
   let⟨u,k⟩:=Ygh un hok fr st up pB
   IX.call' (s':={s2 with heap:=h'}) os u k E (λb y=>absurd y<|by simp)
  have new:∀b o,s1.heap.get? b=some o->b≠j:=λb o q y=>by
   subst y;obtain⟨ob,D9,_,_,vs,K3⟩:=fl.there
   by_cases hf:b∈oS X.stack
   ·obtain⟨_,c,w,p⟩:=fr b hf;rw[D9]at w;cases w;show p vs K3
   ·have:=pB b ob D9 (.inl #[o,q]) hf;rw[fl.2.1]at this;cases this
  have non:H2 j=none:=by
   cases q:H2 j with
   | none=>rfl
   | some u =>
    obtain⟨ob,D9,_⟩:=fl.there;have:=pB j ob D9 (.inr (by rw[q];show AM _)) (λy=>by have:=(fr j y).1;rw[q]at this;cases this);rw[fl.2.1]at this;cases this
  have fl:qi B0 (X.env ::X.mJ) j (.ref C) a0 L .none s2.heap:=by rw[<-A0];show fl
  have z9:X.A.frames=some (X.env ::X.mJ):=by rw[<-A0];show I2.ok.frames
  change ∅ (noteFrame (.ref j) X.env) _ _ s2;refine Nb z9 hfm fl λh₄ U sm₄=>Dm (s:={s2 with heap:=h₄}) U λmG g sm₅=>?_
  have A:s2.heap.UpToSlots mG:=sm₄.trans sm₅;have I5:=(step mG g.1 A).catch j;refine wpAny_handleBy_cons (codeAny_handlers_test<|xk I5 hg hm ?_ hd) (by intro q;cases q);obtain⟨ob,D9,hobc,_⟩:=g.there;refine Zq6 I5.kIn D9 hobc kB kC<|codeAny_handlers_suite_as ?_;refine Dm (s:={s2 with heap:=mG}) g λN d sm₆=>?_
  have I6:=step N d.1<|A.trans sm₆;obtain⟨w,ho6,oc6,od6,vs6,ov6⟩:=d.there;have oc2:vs6[2]? =some .none:=by
   obtain⟨ob,vs,q1,q2,q3⟩:=d.ctx;rw[ho6]at q1;cases q1;rw[ov6]at q2;cases q2;show q3
  have I7:mS X G l (mT H2 j<|qR j C L) {s2 with heap:=N}:=I6.track non
   (by
    cases q:X.mw.heap.get? j with
    | none=>rfl
    | some o =>
     obtain⟨w,q'⟩:=IX.mM.there j o q (by rw[U5];simp);show absurd rfl<|new j w q')
   (λy=>by
    obtain⟨m,⟨o,_,_,q,_⟩,_⟩:=IX.loc;show new _ o q y.symm)
   (λw c q=>by
    obtain⟨v,o,q',_⟩:=IX.cell w c q;show new c o q')
   (λp q=>new p.1 p.2 (IX.pin p q).1) (qR.ok ho6 oc6 od6 ov6 oc2)
  refine Iw (X:=X.caught j) (s:={s2 with heap:=N}) (I7.catch j) hN hi (.inl hsc) (v:=.ref j) rfl (λw I8=>?_)<|.inr hsc;refine pX ((hh j C L l H2 IX.len hR non).run G _ I8) (λf mD q=>?_) λ_ _ y=>False.elim y
  have hX:=I.ok.hd hcm;have zU:∀{h:St}{M:Hp}{s3:md}{Q:Unit->md->Prop},mS (X.caught j) G h M s3->(∀s4,mS X G (List.replicate X.N.length none) M s4->Q () s4)->∅ (do bindName X.env n .none;unbindBehindTheSuite X.env n B4) Q X.xe s3:=by
   intro h M s3 Q J k;obtain⟨m,hn,_⟩:=J.loc;refine wpAny_nameGoes T2 hn (by rw[J.ok.kind];rfl) λh' m' S6 J5=>k _ ?_
   show(J.uncatch hX).forget S6 J5
  cases f with
  | next=>obtain⟨h,M,J,q⟩:=q;show zU J λs4 J4=>#[_,M,J4,q]
  | brk=>obtain⟨h,M,J,q⟩:=q;show zU J λs4 J4=>#[_,M,J4,q]
  | cont=>obtain⟨h,M,J,q⟩:=q;show zU J λs4 J4=>#[_,M,J4,q]
  | ret u=>obtain⟨v,h,M,J,r,q⟩:=q;show zU J λs4 J4=>#[v,_,M,J4,r,q]
 refine pX ((hb _ _ pass).run [] s (I.tryIn _)) (λf my q=>?_) λe my y=>y
 cases f with
 | next =>
  obtain⟨l,a,J,q⟩:=q;show zv #[l,a,J.tryOut,q]
 | brk=>obtain⟨l,a,J,q⟩:=q;show#[l,a,J.tryOut,q]
 | cont=>obtain⟨l,a,J,q⟩:=q;show#[l,a,J.tryOut,q]
 | ret u=>obtain⟨v,l,a,J,r,q⟩:=q;show#[v,l,a,J.tryOut,r,q]
structure XG(K:Frag)(C:Addr):Prop where
 xa:XA K C
 hc:(PySem.W.clsIn K C).isSome=true
 cl:findIn K (.ref C) "__class__"=some (some<|.builtin "object.__class__")
 cg:PySem.W.specialIn K (.builtin "object.__class__") "__get__"=some (some<|.builtin "getset_descriptor.__get__")
 ct:PySem.W.takesIn K (.builtin "object.__class__")=some true
 ob:PySem.W.mroIn K C (.type "object")=some true
def Yh9(K:mf):lX V->Hp->VK->Prop:=λx H Q=>∃e C z fs c b,x=[.ref e,c]/\H e=some (qR e C<|some z)/\H z=some (.xd fs)/\XG K C/\((∃n,c=.ty n/\kitOne K (.ref C) (.type n)=some b)\/(∃a,c=.ref a/\kitOne K (.ref C) (.ref a)=some b)\/
 ∃(a:lZ)(y:lX lZ),c=.ref a/\H a=some (.tup<|y.map V.ref)/\PySem.W.kitAny K (.ref C) (y.map Value.ref)=some b)/\Q (.bl b) H
theorem wp:∀{z:lX lZ}{y:lX ma},Ya (z.map V.ref) y->y=z.map Value.ref
 | [],_,.nil=>rfl
 | c ::z,_,.cons r t=>by
  rw[wp t];cases r
  rfl
def Tn{X:Cx}:Y5 X (.builtin "isinstance") (Yh9 X.K):=by
 intro c7 s z H xs us Q I r h;obtain⟨e,C,d,fs,c,b,rfl,Y,U,g,k,q⟩:=h;obtain⟨u,x,rfl,N,l⟩:=wn r;obtain rfl:u=Value.ref e:=N;obtain⟨o,x,M,L,G,j⟩:=qR.at I.hok Y;obtain⟨x,n,_⟩:=(show Z7 X.prog X.w H s.heap d (.xd fs)from I.hok d _ U)
 obtain⟨w,i,_⟩:=EA n;have J:PySem.W.InstAt s.heap e o C (some w):=#[M,L,by unfold PySem.W.notCls;rw[j],by rw[G];show i]
 have Z:PySem.W.KitX X.K (.ref e) (.ref C) (λh=>PySem.W.InstAt h e o C<|some w):=OT g.xa g.hc g.cl g.cg g.ct g.ob;rcases k with⟨x,rfl,k⟩|⟨a,rfl,k⟩|⟨a,E,rfl,D,k⟩
 ·cases l;show rN Z I.kIn J k (λy=>nomatch y) λp=>#[.bl b,H,I.tok p,rfl,q]
 ·cases l;show rN Z I.kIn J k (λy=>nomatch y) λp=>#[.bl b,H,I.tok p,rfl,q]
 ·cases l;obtain⟨_,c8,B,A,D9,c,n2,x⟩:=(show Z7 X.prog X.w H s.heap a (.tup<|E.map V.ref)from I.hok a _ D)
  rw[wp B]at x;obtain⟨c1,c2,c3,c4⟩:=A;dsimp only at c x;subst c x;show PySem.W.kia_tup Z I.kIn J D9 k (λy=>nomatch y) λp=>#[.bl b,H,I.tok p,rfl,q]
def Uf:typeLookup (.type "list") "keys"=pure none:=by rw[Cf,BF];kernel_rfl
def UQ:typeLookup (.type "list") "__getattr__"=pure none:=by rw[Cf,BF];kernel_rfl
def Fw:isSubtype (.type "AttributeError") (.type "AttributeError")=pure true:=by rw[Cw];kernel_rfl
section
variable {prog:mn} {w:mj} {A:mo} {E:ma->md->Prop} {h:mi} {g:Array GenState} {d:Drawn} {t:Nat} {os:OsState} {a:lZ} {vs:Array ma} {n:Nat}
def Ybj{z:Type}{Q:z->md->Prop}(j:A.handled=none)(U:msg.length<=sizeLine)
  (i:∀h' e c,(∀b u,h.get? b=some u->h'.get? b=some u)->(∃p,h'.get? e=some p/\p.cls=.type "AttributeError")->E (.ref e) #[h',g,d,c,os]) :
  wpAny (model prog w) A (raiseAttrError (.ref a) "keys" msg:Sem z) Q E #[h,g,d,t,os]:=by
 have N:=Fw;have r:¬msg.length >sizeLine:=by lia
 unfold raiseAttrError newExc
 repeat (any_goals (first|assumption|rw[ng r]|wp_step))
 generalize x:({cls:=Value.type "AttributeError",data:=Data.fields ((List.toArray [Value.ref h.objs.size,Value.none,Value.none,Value.none,Value.bool false,if((Manifest.find? "AttributeError").elim false λt=>t.mro.contains "StopIteration"|| t.mro.contains "SystemExit")=true then[Value.str msg t].headD Value.none else Value.none])++ownMembersOf (Value.type "AttributeError") [Value.str msg t])}:Obj)=s;have q:s.cls=.type "AttributeError":=by rw[<-x]
 have y:∃o,s.data=.fields o:=#[_,by rw[<-x]]
 obtain⟨o,y⟩:=y;have Y:((h.push {cls:=Value.type "tuple",data:=Data.seq (List.toArray [Value.str msg t])}).push s).get? (h.push {cls:=Value.type "tuple",data:=Data.seq (List.toArray [Value.str msg t])}).objs.size=some s:=oG _<|xh y;refine wpAny_raiseNew_none j<|i _ _ _ (λb u l=>?_) #[_,ux _ Y<|xh<|uX y _,by rw[Ce];show q];rw[rV _ _ (by rw[rS];show vK<|Ae<|nS l)];show nZ _<|nZ _ l
def Uu{Q:Fin->md->Prop}(y:A.handled=none)(x:h.get? a=some {cls:=.type "list",data:=.seq vs n})
  (s:∀h' e r,(∀b u,h.get? b=some u->h'.get? b=some u)->(∃z,h'.get? e=some z/\z.cls=.type "AttributeError")->E (.ref e) #[h',g,d,r,os]) :
  wpAny (model prog w) A (Builtin.«object.__getattribute__» #[[.ref a,.str "keys" q],[]]) Q E #[h,g,d,t,os]:=by
 have p:(#[h,g,d,t,os]:md).TypeIs (.ref a) "list":=#[_,x,rfl]
 have o:=Uf;have l:=Fw
 repeat (any_goals (first|assumption|wp_step))
 show Ybj y (by left) s
def MV{Q:me ma->md->Prop}(x:A.handled=none)(y:h.get? a=some {cls:=.type "list",data:=.seq vs n})
  (s:∀h' z,(∀b u,h.get? b=some u->h'.get? b=some u)->Q none #[h',g,d,z,os]):wpAny (model prog w) A (getAttr? (.ref a) "keys") Q E #[h,g,d,t,os]:=by
 have l:(#[h,g,d,t,os]:md).TypeIs (.ref a) "list":=#[_,y,rfl]
 have j:=Ec.lookup;have i:=Ec.bind<|.ref a;have c:=Fw;have Y:=UQ;unfold getAttr? getAttrBy?
 repeat (any_goals (first|assumption|wp_step))
 refine Be Ec.plain F.entry_list_ga<|Ec.check _ _ _ _ _ _ _ _ (show(#[h,g,d,t+1,os]:md).TypeIs (.ref a) "list" from#[_,y,rfl]) (F.args_list_getattribute_2 _ _)<|Uu x y λh' e z r ⟨U,q,p⟩=>?_;have o:(#[h',g,d,z,os]:md).TypeIs (.ref e) "AttributeError":=#[_,q,p]
 have N:=s h' z r;unfold getattributeRaised
 repeat (any_goals (first|assumption|wp_step))
 all_goals trace_state
end
def Ny:entryFor table "dict.update.loop"=some Builtin.«dict.update.loop» :=entryFor_of_tree (by kernel_rfl)
section
variable {prog:mn} {w:mj} {A:mo} {R:Result->md->Prop} {l d it:lZ} {tps:lX lZ} {h₀:mi} {Pd:Nat->mi->Prop}
def ET(prog:mn)(w:mj)(A:mo)(d:lZ)(h:mi)(Pd:Nat->mi->Prop)(tps:lX lZ):Prop:=∀i p,tps[i]? =some p->∃key v o n,h.get? p=some o/\o.cls=.type "tuple"/\o.data=.seq (List.toArray [key,v]) n/\∀args (s:md) (Q:Unit->md->Prop) E,Pd i s.heap->(∀z y,Pd (i+1) z->Heap.SameBut d s.heap z->Q () {s with heap:=z,toks:=y})->wpAny (model prog w) (A.under<|.builtin "dict.update.loop" args) (dictSet d key v) Q E s
def Rc(hh:A.handled=none)(g:d≠it)(hl:h₀.IsList l (tps.map Value.ref).toArray)(Q:l≠d)(N:l≠it)(hp:ET prog w A d h₀ Pd tps)(H:∀p∈tps,p≠d/\p≠it)
  (mv:∀i h h',Pd i h->(∀o,h.get? d=some o->h'.get? d=some o)->(∀b o,b≠d->b≠it->h₀.get? b=some o->h'.get? b=some o)->Pd i h') :
  ∀(n i:Nat)(s:md)(j:Int)(G:Tok),i+n=tps.length->s.heap.IsListIter it l i->Pd i s.heap->(∀b o,b≠d->b≠it->h₀.get? b=some o->s.heap.get? b=some o)->
   (∀h' E,Pd tps.length h'->(∀b o,b≠d->b≠it->h₀.get? b=some o->h'.get? b=some o)->R (.ok<|.ret .none) {s with heap:=h',toks:=E})->
   codeAny (model prog w) A (.builtin "dict.update.loop" #[[.ref d,.ref it,.int j G,.none],[]]) R s:=by
 intro n
 induction n with
 | zero =>
  intro i s j G hi e D y C;have c:s.heap.IsList l (tps.map Value.ref).toArray:=by
   obtain⟨o,a,r⟩:=hl;show#[o,y _ _ Q N a,r]
  refine wm Ny ?_;unfold Builtin.«dict.update.loop»;dsimp only;refine mU<|wpAny_pyNext_list_end hh e c (by rw[Gu,nU,uZ<|by lia];rfl) λh' z=>?_;dsimp only;have u:∀b o,b≠d->b≠it->h₀.get? b=some o->h'.get? b=some o:=λb o Y I q=>z b o I<|y b o Y I q
  obtain rfl:i=tps.length:=hi;show mU (nk<|nk<|C h' s.toks (mv _ _ _ D (λo a=>z d o g a) u) u)
 | succ n ih =>
  intro i s j G hi e D y C;have c:s.heap.IsList l (tps.map Value.ref).toArray:=by
   obtain⟨o,a,r⟩:=hl;show#[o,y _ _ Q N a,r]
  have u:i<tps.length:=by lia
  obtain⟨key,v,ot,nt,O1,B,O3,M⟩:=hp i tps[i] (oR u);obtain⟨nd,ni⟩:=H tps[i] (BU u);refine wm Ny ?_;unfold Builtin.«dict.update.loop»;dsimp only;refine mU<|wpAny_pyNext_list_item e c (x:=.ref tps[i]) (by rw[Gu,nU,oR u];rfl) λY it1 U=>?_;have q:Y.get? tps[i]=some ot:=by rw[U.2 _ ni];show y _ _ nd ni O1
  have hT:({s with heap:=Y}:md).TypeIs (.ref tps[i]) "tuple":=#[_,q,B]
  have L:∀b o,b≠d->b≠it->h₀.get? b=some o->Y.get? b=some o:=λb o z1 z2 z3=>by rw[U.2 _ z2];show y b o z1 z2 z3
  refine mU<|qt<|mU<|wpAny_tryCatch ?_;unfold Builtin.Dict.pairItems;refine mU<|xq hT ?_;rw[nj (by lk)];refine mU<|wpAny_seqItems (s:={s with heap:=Y}) q O3<|nk ?_;refine qt<|M _ {s with heap:=Y} _ _ (mv _ _ _ D (λo a=>by rw[U.2 _ g];show a) L) λI tk2 A6 J=>nk #[yp _ (by left),?_];refine ih (i+1) {s with heap:=I,toks:=tk2} (j+1) _ (by lia) ?_ A6 (λb o n1 n2 z=>?_) λh' E=>C h' E
  ·show it1.at λo z=>by rw[J.2 _ g.symm];show z
  ·rw[J.2 _ n1];show L b o n1 n2 z
def Oh{Q:ma->md->Prop}{E:ma->md->Prop}(H:A.handled=none)(N:s.heap.get? l=some {cls:=.type "list",data:=.seq (tps.map Value.ref).toArray n})(G:ET prog w A.in1 #v[s] s.heap Pd tps)(new:Pd 0 (s.heap.push {cls:=.type "dict",data:=.dict #[]}))
  (D:∀i h h',Pd i h->(∀o,h.get? #v[s]=some o->h'.get? #v[s]=some o)->(∀b o,s.heap.get? b=some o->h'.get? b=some o)->Pd i h')
  (h:∀h' L dd,dd=#v[s]->Pd tps.length h'->s.heap.get? dd=none->(∀b o,s.heap.get? b=some o->h'.get? b=some o)->Q (.ref dd) {s with heap:=h',toks:=L}) :
  wpAny (model prog w) A (call (.type "dict") [.ref l]) Q E s:=by
 refine callType_codes (Q₁:=λobj C=>obj=.ref #v[s]/\C={s with heap:=s.heap.push {cls:=.type "dict",data:=.dict #[]}}) F.kt_called_dict (F.kt_typeCall_dict_1 _) F.entry_dict_init (kt_code_dict_new _ #[rfl,rfl]) ?_;rintro obj C ⟨rfl,rfl⟩;have u:(s.heap.push {cls:=.type "dict",data:=.dict #[]}).get? l=some {cls:=.type "list",data:=.seq (tps.map Value.ref).toArray n}:=nZ _ N;have B:({s with heap:=s.heap.push {cls:=.type "dict",data:=.dict #[]}}:md).TypeIs (.ref #v[s]) "dict":=#[_,oG _ rfl,rfl]
 refine#[B,F.args_dict_init_2 _ _,?_];unfold Builtin.«dict.__init__»;refine mU ?_;unfold Builtin.Dict.selfAndRest;refine mU<|EO B ?_;change wpAny _ _ (pure (#v[s],[Value.ref l])) _ _ _;refine nk ?_;change wpAny _ _ (Builtin.Dict.updateFrom "dict.__init__" #v[s] (.ref l) [] .none) _ _ _;unfold Builtin.Dict.updateFrom;refine mU<|xq (T :="list") #[_,u,rfl] ?_;rw[nj (by lk)];obtain⟨q,g0,d0,x,j⟩:=s;dsimp only at *;refine mU<|MV H u λy g M=>?_;simp only[Iq,rP];have J:y.IsList l (tps.map Value.ref).toArray:=#[_,M _ _ u,rfl,n,rfl]
 refine mU<|tF<|mU<|xJ (s:=#[y,g0,d0,g,j]) J<|nk #[yp _ (by left),?_];have Y:∀b o,q.get? b=some o->(y.push {cls:=.type "list_iterator",data:=.fields (List.toArray [.ref l,.int 0 0])}).get? b=some o:=λb o z=>nZ _<|M _ _<|nZ _ z
 have U:q.objs.size<y.objs.size:=nS<|M _ _<|oG q rfl;have r:∀{c o},q.get? c=some o->c≠q.objs.size/\c≠y.objs.size:=λz=>by
  have:=nS z;show#[oi this,oi<|uq this U]
 refine Rc (A:=A.in1) (Pd:=Pd) (h₀:=y.push {cls:=.type "list_iterator",data:=.fields (List.toArray [.ref l,.int 0 0])}) (l:=l) (tps:=tps) H (oi U) #[_,Y _ _ N,rfl,n,rfl] (r N).1 (r N).2 (λi p e=>?_) (λp z=>?_) (λi h h' a b c=>D i h h' a b λx o z=>c x o (r z).1 (r z).2 (Y x o z)) tps.length 0 #[y.push {cls:=.type "list_iterator",data:=.fields (List.toArray [.ref l,.int 0 0])},g0,d0,g,j] 0 0 (Da _) #[_,oG y rfl,rfl,rfl] (D _ _ _ new (λo z=>nZ _<|M _ _ z) Y) (λ_ _ _ _ z=>z) λh' L hD kp=>#[rfl,h h' L _ rfl hD (Bh<|nK _) λb o z=>kp b o (r z).1 (r z).2 (Y b o z)]
 ·obtain⟨key,v,o,m,I,x⟩:=G i p e;show#[key,v,o,m,Y _ _ I,x]
 ·obtain⟨i,e⟩:=Pz.mp z;obtain⟨_,_,_,_,I,_⟩:=G i p e;show r I
end
section
variable {prog:mn} {w:mj} {KT:Type} [DecidableEq KT] {knd:KeyKind prog w KT} {A:mo} {R:Result->md->Prop} {l d it:lZ} {tps:lX lZ} {A3 D0:lX (KT×ma)} {h₀:mi}
def xo(knd:KeyKind prog w KT)(h:mi)(tps:lX lZ)(A3:lX (KT×ma)):Prop:=Paired (λp (q:KT×ma)=>∃key o n,knd.is q.1 key=true/\h.get? p=some o/\o.cls=.type "tuple"/\o.data=.seq (List.toArray [key,q.2]) n) tps A3
def NQ{h h':mi}{z:lX (KT×ma)}(y:h.DictOf knd d z)(hd:∀o,h.get? d=some o->h'.get? d=some o):h'.DictOf knd d z:=by
 obtain⟨o,x,u,s,r⟩:=y;show#[o,x,u,hd o s,r]
def xo.puts(r:xo knd h₀ tps A3)(hsz:D0.length+A3.length<=sizeLine):ET prog w A d h₀ (λi h=>h.DictOf knd d<|merged D0<|A3.take i) tps:=λi p e=>by
 obtain⟨q,z,key,o,n,j,g,y,c⟩:=Paired.get r e;refine#[key,q.2,o,n,g,y,c,λargs s Q E a Y=>wpAny_dictSet_pairs j a (λu U x=>Y u _ ?_ x) ?_]
 ·change u.DictOf knd d (merged D0<|A3.take<|i+1);rw[merged_take_succ D0 A3 i q z];show U
 ·have:=merged_length_le (K:=KT) D0<|A3.take i;rw[oF]at this;lia
def Zkf{Q:ma->md->Prop}{E:ma->md->Prop}(u:A.handled=none)(r:s.heap.get? l=some {cls:=.type "list",data:=.seq (tps.map Value.ref).toArray n})(y:xo knd s.heap tps A3)(hsz:A3.length<=sizeLine)
  (h:∀h' z dd,h'.DictOf knd dd (merged [] A3)->dd=#v[s]->s.heap.get? dd=none->(∀b o,s.heap.get? b=some o->h'.get? b=some o)->Q (.ref dd) {s with heap:=h',toks:=z}) :
  wpAny (model prog w) A (call (.type "dict") [.ref l]) Q E s:=by
 refine Oh u r (y.puts (D0:=[])<|by simpa using hsz) (Heap.DictOf.new s.heap) (λi h h' a b _=>NQ a b) λh' z dd e x=>?_
 subst e;rw[show A3.take tps.length=A3 from uC (by rw[nW y];show nK _)]at x;show h h' z _ x rfl
end
def BY:lX V->Hp->VK->Prop:=λx H Q=>∃(l:lZ)(y:lX lZ)(z:lX (nI×V)),x=[.ref l]/\H l=some (.lst<|y.map V.ref)/\Paired (λt (q:nI×V)=>H t=some (.tup [kV q.1,q.2])) y z/\(z.map fst).Nodup/\pG H (.dK z) Q
def HW(D:X.calm=true):Y5 X (.type "dict") BY:=by
 intro c7 s z H xs us Q I r h;obtain⟨l,w,x,rfl,C,i,B,q⟩:=h;obtain⟨u,rfl,A⟩:=Wr r;cases A;obtain⟨hz,c8,n,g,M⟩:=(show Z7 X.prog X.w H s.heap l (.lst<|w.map V.ref)from I.hok l _ C)
 rw[wp g]at M;have key:∀{w:lX lZ}{x:lX (nI×V)},Paired (λt (q:nI×V)=>H t=some (.tup [kV q.1,q.2])) w x->∃j:lX (nI×ma),KV x j/\xo (Z4 X.prog X.w) s.heap w j:=by
  intro w x i
  induction i with
  | nil=>show#[[],.nil,.nil]
  | cons r t e =>
   rename_i p q _ _;obtain⟨j,h1,h2⟩:=e;obtain⟨_,c8,g,o,ho,w9,m,hd⟩:=(show Z7 X.prog X.w H s.heap p (.tup [kV q.1,q.2])from I.hok p _ r)
   obtain⟨k,v,rfl,rk,d⟩:=wn g;show#[(q.1,v) ::j,.cons #[rfl,d] h1,.cons #[k,o,m,vz rk,ho,w9,hd] h2]
 obtain⟨j,c,a⟩:=key i;have L:x.length<=sizeLine:=by
  have:=nW i;rw[mV]at hz;lia
 have O4:(j.map fst).Nodup:=by
  have:∀{x:lX (nI×V)}{j:lX (nI×ma)},KV x j->j.map fst=x.map fst:=by
   intro x j y
   induction y with
   | nil=>rfl
   | cons r t e=>rw[oq,oq,e,r.1]
  rw[this c];show B
 refine Zkf (I.ok.hd D) M a (by rw[<-KV.length c];show L) λh' A2 Y G U S6 k=>?_
 rw[merged_nil_of_nodup j O4]at G;have N:Y≠sysModules:=λy=>by
  have E:=I.big;rw[<-U,y]at E;show rf _ E
 obtain⟨hH,J⟩:=I.laidAt (t':=A2) (o:=.dK x) k S6<|zO L (sO.mpr N) c G;show#[.ref Y,_,J,rfl,q.at Y hH]
def Sa:bootBuiltins "ValueError"=some (.type "ValueError"):=by left
def Ij{fr:St->St}(Pv:Nat->lX V->Hp->Prop)(n:Pv 0 [] (mT l D<|.lst []))(u:∀i y H,i<=kvs.length->Pv i y H->H d=some (.frz o<|.dK kvs))
  (j:∀i kv y H,kvs[i]? =some kv->Pv i y H->∀p w,mK H w->H p=none->w p=some (.tup [kV kv.1,kv.2])->qB fr g h c z D (.ref p) y w (Pv<|i+1)) (hd:∀y H,Pv kvs.length y H->Q (.ref D) H):sw (Ca d o kvs) fr g h c Q z l D:=W3 Pv n (λs H p=>#[u _ s H (nK _) p,nK _]) (λi s H r p=>#[#[u i s H (pU r) p,r],λx N ⟨a,kv,e,q,Y,U⟩=>by subst e U;show j i kv s H Y p a _ (mK.new q) q Zc]) hd
def To{K:mf}{t c:ma}{b:Bool}(h:kitOne K t c=some b)(n:(t ==c)=false):PySem.W.kitCls K t c=some b:=by
 unfold kitOne at h;rw[ng (by rw[n];show oK)]at h;show h
section
variable {prog:mn} {w:mj} {KT:Type} [DecidableEq KT] {knd:KeyKind prog w KT} {A:mo} {l d:lZ} {tps:lX lZ} {A3 D0:lX (KT×ma)} {s:md} {Q:ma->md->Prop} {E:ma->md->Prop} {n:Nat}
def Zhz(C:A.handled=none)(c:s.heap.DictOf knd d D0)(u:s.heap.get? l=some {cls:=.type "list",data:=.seq (tps.map Value.ref).toArray n})(Y:xo knd s.heap tps A3)(hsz:D0.length+A3.length<=sizeLine)(U:l≠d)(N:∀p∈tps,p≠d)
  (h:∀h' M,h'.DictOf knd d (merged D0 A3)->(∀b o,b≠d->s.heap.get? b=some o->h'.get? b=some o)->Q .none {s with heap:=h',toks:=M}):wpAny (model prog w) A (call (.builtin "dict.update") [.ref d,.ref l]) Q E s:=by
 refine ul<|Be Ib.plain F.entry_dict_update<|Ib.check _ _ _ _ _ _ _ _ c.typeIs (F.args_dict_update_2 _ _) ?_;unfold Builtin.«dict.update»;refine mU ?_;unfold Builtin.Dict.selfAndRest;refine mU<|EO c.typeIs ?_;change wpAny _ _ (pure (d,[Value.ref l])) _ _ _;refine nk ?_;change wpAny _ _ (Builtin.Dict.updateFrom "dict.update" d (.ref l) [] .none) _ _ _;unfold Builtin.Dict.updateFrom;refine mU<|xq (T :="list") #[_,u,rfl] ?_;rw[nj (by lk)];obtain⟨B,g0,d0,a,r⟩:=s;dsimp only at *;refine mU<|MV C u λx j L=>?_;simp only[Iq,rP];have J:=L _ _ u;have I:x.IsList l (tps.map Value.ref).toArray:=#[_,J,rfl,n,rfl]
 refine mU<|tF<|mU<|xJ (s:=#[x,g0,d0,j,r]) I<|nk #[yp _ (by left),?_];have e:∀b o,B.get? b=some o->(x.push {cls:=.type "list_iterator",data:=.fields (List.toArray [.ref l,.int 0 0])}).get? b=some o:=λb o z=>nZ _<|L _ _ z
 obtain⟨od,H,G,g,rd⟩:=c;have y:∀b o,B.get? b=some o->b≠x.objs.size:=λb o z=>oi<|nS<|L b o z
 refine Rc (A:=A) (h₀:=x.push {cls:=.type "list_iterator",data:=.fields (List.toArray [.ref l,.int 0 0])}) (l:=l) (d:=d) (it:=x.objs.size) (tps:=tps) C (y _ _ g) #[_,e _ _ u,rfl,n,rfl] U (y _ _ u) (xo.puts (Paired.mapP Y λp q ⟨key,o,m,a,D,z3⟩=>#[key,o,m,a,e _ _ D,z3]) hsz) (λp z=>?_) (λi h h' a b _=>NQ a b) tps.length 0 #[x.push {cls:=.type "list_iterator",data:=.fields (List.toArray [.ref l,.int 0 0])},g0,d0,j,r] 0 _ (Da _) #[_,oG x rfl,rfl,rfl] #[od,H,G,e _ _ g,rd] (λb o _ _ z=>z) λh' M y8 kp=>h h' M ?_ λb o n1 z=>kp b o n1 (y _ _ z)<|e b o z
 ·obtain⟨i,a,rfl⟩:=AR z;obtain⟨q,_,key,o,m,_,D,_⟩:=Paired.get Y (i:=i) (a:=tps[i])<|oR a;show#[N _ z,y _ _ D]
 ·rw[show A3.take tps.length=A3 from uC (by rw[nW Y];show nK _)]at y8;show y8
end
def Yh6(p o:TE):TE:=λz H Q=>p z H λx r=>∃a,x=.ref a/\Dl r a/\o z r λy s=>∃(l:lZ)(u:lX lZ)(w more:lX (nI×V)),y=.ref l/\s a=some (.dK w)/\s l=some (.lst<|u.map V.ref)/\Paired (λt (q:nI×V)=>s t=some (.tup [kV q.1,q.2])) u more/\w.length+more.length<=sizeLine/\Q .non (mT s a<|.dK<|yK w more)
section
variable {o e:ml} {u5 j7:Pos} {td ty:TE}
def UJ(hc:X.calm=true)(M:PE X o td)(he:PE X e ty)(m:M1 X o "update" u5 e j7):PE X (.Call (.Attribute o "update" u5) [e] [] j7) (Yh6 td ty):=by
 intro c7 s z H Q I h;refine Fg m.mM m.few m.line Bu Ib PySem.F.type_dict_update<|ny (M c7 s z H _ I h) λu s1 L=>?_;obtain⟨x,H1,I1,rx,a,ex,d,q1⟩:=L;subst ex;obtain rfl:u=Value.ref a:=rx;obtain⟨t1,t2,_⟩:=Hq I1 d;refine#[t1,t2,?_];rw[m.trees];refine xD rfl<|zR<|wk<|ny (he c7 s1 z H1 _ I1 q1) λiv J L=>yj ?_;obtain⟨y,G,c,ry,l,j,g,more,ey,U,E,N,hz,q2⟩:=L;subst ey;obtain rfl:iv=Value.ref l:=ry;obtain⟨hzl,c8,n,D,hg⟩:=(show Z7 X.prog X.w G J.heap l (.lst<|j.map V.ref)from c.hok l _ E)
 rw[wp D]at hg;obtain⟨hza,C,vs,z7,dd⟩:=Bb c.hok U;have key:∀{j:lX lZ}{g:lX (nI×V)},Paired (λt (q:nI×V)=>G t=some (.tup [kV q.1,q.2])) j g->∃Y:lX (nI×ma),KV g Y/\xo (Z4 X.prog X.w) J.heap j Y:=by
  intro j g N
  induction N with
  | nil=>show#[[],.nil,.nil]
  | cons r t ih =>
   rename_i p q _ _;obtain⟨Y,h1,h2⟩:=ih;obtain⟨_,c8,D,o,M,w9,m,hd⟩:=(show Z7 X.prog X.w G J.heap p (.tup [kV q.1,q.2])from c.hok p _ r)
   obtain⟨k,v,rfl,rk,B⟩:=wn D;show#[(q.1,v) ::Y,.cons #[rfl,B] h1,.cons #[k,o,m,vz rk,M,w9,hd] h2]
 obtain⟨Y,J6,A⟩:=key N;refine Zhz (c.ok.hd hc) dd hg A (by rw[<-z7.length,<-KV.length J6];show hz) (λw=>by rw[w,U]at E;cases E) (λp hpm w=>?_) λh' A2 y8 kp=>?_
 ·obtain⟨i,hi,e⟩:=AR hpm;obtain⟨q,_,hq⟩:=Paired.get N (i:=i) (a:=p) (by rw[oR hi,e]);rw[w,U]at hq;cases hq
 ·obtain⟨o',i9,Q9,V2,r'⟩:=id y8;show#[.non,_,c.write (x:=a) (e:=a) (t':=A2) (by rw[U];show rL) (.inl rfl) (λb u n w=>kp b u n w) #[_,V2]<|zO (by have:=LO more g;lia) C (J6.merge z7) y8,rfl,q2]
end
abbrev sQ(pos:Pos)(q:lY):Array ma:=Xi [(pos.line,pos.col,q)]
abbrev Fz(o:Obj):HO:=.frz o<|.frz o<|.own 0
def Clo(H:Hp)(Pt u:lZ)(q:lY)(s:Arguments)(r:ml)(p:Scope)(z:lX (lY×lZ)):Prop :=
 ∃(o n:ma)(c:lZ)(y:Obj)(x:Array ma)(l:Nat)(w:lZ),H u=some (Fz<|PySem.W.kla_obj "<lambda>" q s r p z o c n)/\H c=some (.frz y<|.own Pt)/\y.data=.fields x/\x[1]? =some (.str q l)/\H w=some (.tbl<|List.toArray [.none])/\EC y c w
def Clo.mono(e:mK H y)(h:Clo H Pt x q w u s z):Clo y Pt x q w u s z:=by
 obtain⟨r,p,c,o,n,l,j,i,g,d,a,Y,U⟩:=h;show#[r,p,c,o,n,l,j,e _ _ i,e _ _ g,d,a,e _ _ Y,U]
def CellAt(H:Hp)(c:lZ)(v:V):Prop:=∃o u,H c=some (Fz o)/\o.data=.cell (some u)/\Yg v u
def CellAt.mono(e:mK H z)(h:CellAt H c v):CellAt z c v:=by
 obtain⟨o,u,y,x⟩:=h;show#[o,u,e _ _ y,x]
def Yf7(C:PySem.W.CodeHd h c y)(e:h.get? c=some w):y≠c/\EC w c y:=by
 obtain⟨o,u,s,r,q,p,n,l,j,z,i,d,a,Y,U,Q,N,M,x⟩:=C;rw[e]at z;cases z;show#[x.symm,λg z=>#[_,u,s,r,q,p,n,l,j,z,i,d,a,Y,U,Q,N,M,x]]
def Ygr{E:ma->md->Prop}{w:lY->me ma}{Q:ma->md->Prop}(w9:closureFor i env=pure y)(U:env.globals=mainGlobals)(hg:s.heap.Ns mainGlobals w)(hc:env.code=.ref c)(C:PySem.W.CodeHd s.heap c Pt)
  (H:s.heap.get? Pt=some {cls:=.none,data:=.fields ps}) (ht:TriplesOk ps.toList) (hn:codeAmong pos ps.toList=none) (N:mainGlobals≠Pt) (hb:s.heap.BuiltinsAt w Pt)
  (h:∀z u l h' x,Heap.ExtBut Pt s.heap h'->#v[s]<=z->z<h'.objs.size->#v[s]<=u->h'.CodeRec (.ref z) d->PySem.W.CodeHd h' z u->h'.get? u=some {cls:=.none,data:=.fields #[]}->h'.get? Pt=some {cls:=.none,data:=.fields (ps++ (List.toArray [rawInt pos.line,rawInt pos.col,.ref z]))}->
   Q (.ref h'.objs.size) {s with heap:=h'.push<|PySem.W.kla_obj nm d L J i y ((w "__name__").getD .none) z l,toks:=x}):wpAny M A (makeFunction nm d L (.expr J) i env [] [] [] pos fst_) Q E s:=by
 obtain⟨bm,ob,G,D,_,b4,b5,B,b7,b8⟩:=hb;rw[makeFunction_eq];simp only[List.zip_nil_right,List.filterMap_nil,List.isEmpty_nil,rP,pure_bind];unfold makeTail;rw[w9,U];refine mU<|nk ?_;have go:∀g:mi,(∀b o,s.heap.get? b=some o->g.get? b=some o)->#v[s]<=g.objs.size->∀{R:ma->md->Prop},(∀z h' x,Heap.ExtBut Pt s.heap h'->#v[s]<=z->h'.Ns mainGlobals w->h'.get? bm=some ob->(∀l,Q (.ref h'.objs.size) {s with heap:=h'.push<|PySem.W.kla_obj nm d L J i y ((w "__name__").getD .none) z l,toks:=x})->R (.ref z) {s with heap:=h',toks:=x})->wpAny M A (functionCode env pos fst_ nm d L i<|.expr J) R E {s with heap:=g}:=λg a sz R r=>by
  have CG:=C.keeps a;refine wpAny_functionCodeX hc (CG.code (a _ _ H) ht) (CG.tab<|a _ _ H) hn λz h' x x1 x2 x3 _ x4 x5 x6=>?_
  obtain⟨u,y1,y2,y3⟩:=x6;have Y:Heap.ExtBut Pt s.heap h':=λb o n e=>x1 b o n<|a b o e
  have nC:=PySem.W.CodeHd.of y2 y3;show r z h' x Y (oy sz x2) (hg.extBut Y N) (Y _ _ b4 b5) λl=>(h z u l h' x Y (oy sz x2) x3 (oy sz y1) x4 nC y3.2 x5.2)
 cases y with
 | nil =>
  simp only[List.isEmpty_nil,rP];refine mU<|nk<|mU<|go s.heap (λ_ _ e=>e) (nK _) λz h' x _ _ j I q=>?_;show mU (wpAny_builtinsFor j G D I B b7 b8<|mU<|wpAny_nsGet j<|mU<|nk<|tE (q _)<|by size_fits)
 | cons p r =>
  simp only[List.isEmpty_cons,qF,pW];refine mU<|wpAny_newTextTuple<|mU<|go _ (λb o e=>nZ _ e) (by rw[rS];lia) λz h' x _ _ j I q=>?_;show mU (wpAny_builtinsFor j G D I B b7 b8<|mU<|wpAny_nsGet j<|mU<|nk<|tE (q _)<|by size_fits)
def Yff{l:lX (Nat×Nat×lY)}{a b:Nat}{q r:lY}(x:(l.map λp=>(p.1,p.2.1)).Nodup)(w:(a,b,q)∈l)(u:(a,b,r)∈l):q=r:=by
 induction l with
 | nil=>cases w
 | cons p l s =>
  rw[oq,pZ]at x;rcases oh.mp w with z|z<;>rcases oh.mp u with y|y
  ·have:=z.trans y.symm;simpa using this
  ·show absurd (nH.mpr #[_,y,by rw[<-z]]) x.1
  ·show absurd (nH.mpr #[_,z,by rw[<-y]]) x.1
  ·show s x.2 z y
section
variable {Q:ma->md->Prop}
def Nf{Y:lX (Nat×Nat×lY)}(I:mS X c7 z H s)(V5:defaultsOf B X.env=([],[]))(K8:X.env.code=.ref c)(C:PySem.W.CodeHd X.mM c Pt)(hH:H Pt=some (.tbl<|Xi Y))(A8:(L.line,L.col,X.env.qual++"<lambda>")∈Y)(w9:closureFor A X.env=pure j)
  (h:∀fl H' s',mS X c7 z H' s'->mK H H'->H fl=none->Clo H' Pt fl (X.env.qual++"<lambda>") B lb A j->Q (.ref fl) s'):∅ (eval (.Lambda B lb A L) X.env) Q X.xe s:=by
 refine PySem.W.kla_eval V5 ?_;obtain⟨r,hT,e|⟨x,fs,e1,nd,rfl,hfs⟩⟩:=(show Z7 X.prog X.w H s.heap Pt (.tbl<|Xi Y)from I.hok Pt _ hH)
 ·show absurd e.1 Ybz
 have e1:=Zzc e1;subst e1;have hg:s.heap.Ns mainGlobals X.mg:=I.mod.glob.keeps I.bk;have CH:PySem.W.CodeHd s.heap c Pt:=C.keeps I.bk;have nP:∀b,H b=none->b≠Pt:=λb n y=>by rw[y,hH]at n;cases n
 have hB:s.heap.BuiltinsAt X.mg Pt:=by
  obtain⟨bm,M,b1,b2,b3,b4,b5,b6⟩:=I.mod.bm;obtain⟨b3',hn⟩:=I.bs _ _ b3;refine#[bm,M,b1,b2,λy=>?_,nP bm hn,b3',b4,b5,b6];obtain⟨o,es,ep,e,d,_⟩:=hg;rw[<-y,b3']at e;cases e;rw[b6]at d;cases d
 have hgP:mainGlobals≠Pt:=by
  obtain⟨o,es,ep,e,d,_⟩:=I.mod.glob;show nP _ (I.bs _ _ e).2
 cases J:codeAmong L (rQ fs).toList with
 | none =>
  refine Ygr (ps:=rQ fs) w9 I.ok.glob hg K8 CH hT (Ge fs) J hgP hB λw l D p tk hx U g9 P2 hrec E6 O1 htb=>?_
  obtain⟨x,N,vs,tt,e,G,hd,hv⟩:=hrec;cases e;generalize D9:PySem.W.kla_obj "<lambda>" (X.env.qual++"<lambda>") B lb A j ((X.mg "__name__").getD .none) w D=M;have z9:M.isFreed=false:=by rw[<-D9];rfl
  have E:H p.objs.size=none:=I.hok.fresh<|oy U<|pU g9;have hcn:H w=none:=I.hok.fresh U;have hpN:H l=none:=I.hok.fresh P2;have ncf:w≠p.objs.size:=oi g9;have npf:l≠p.objs.size:=oi<|nS O1;obtain⟨npc,hco⟩:=Yf7 E6 G;have old:∀b o,s.heap.get? b=some o->b≠l/\b≠w/\b≠p.objs.size:=λb o e=>by
   have:=nS e;show#[oi<|pF this P2,oi<|pF this U,oi<|uq (pF this U) g9]
  have kp:∀b o,b≠Pt->s.heap.get? b=some o->(p.push M).get? b=some o:=λb o n e=>nZ _<|hx b o n e
  have g:∀b o,H b=some o->b≠l/\b≠w/\b≠p.objs.size:=λb o e=>#[Ze e hpN,Ze e hcn,Ze e E]
  have i:∀{b:lZ},(b≠l/\b≠w/\b≠p.objs.size)->mT (mT (mT H l<|.tbl<|List.toArray [.none]) w<|.frz N<|.own Pt) p.objs.size (Fz M) b=H b:=λn=>by rw[Zd n.2.2,Zd n.2.1,Zd n.1]
  have aC:mT (mT (mT H l<|.tbl<|List.toArray [.none]) w<|.frz N<|.own Pt) p.objs.size (Fz M) w=some (.frz N<|.own Pt):=by rw[Zd ncf,Zc]
  have aP:mT (mT (mT H l<|.tbl<|List.toArray [.none]) w<|.frz N<|.own Pt) p.objs.size (Fz M) l=some (.tbl<|List.toArray [.none]):=by rw[Zd npf,Zd npc,Zc]
  refine h p.objs.size (mT (mT (mT H l<|.tbl<|List.toArray [.none]) w<|.frz N<|.own Pt) p.objs.size<|Fz M) _ (I.step (g':=s.gens) (d':=s.drawn) (ch:=[]) (λ_ y=>nomatch y) (λb o _ _ _ e n=>kp b o (nP b n) e) (λb o _ _ _ e n=>#[o.slots,kp b o (nP b n) e]) (λb o _ e n=>by rw[i (old b o e)];show n) (λb o _ e=>?_)
   (λb xs e=>by rw[i (g _ _ e)];show e) (λb o u e=>by rw[i (g _ _ e)];show e) (λb x e=>#[#[],by rw[i (g _ _ e),e];simp]) (λm hm=>?_) (λb u e=>?_) I.bare)
   (λb o e=>by rw[i (g _ _ e)];show e) E #[_,D,w,N,vs,tt,l,by rw[Zc,D9],aC,hd,hv,aP,hco]
  ·by_cases x:b=Pt
   ·show#[_,by rw[x];show nZ _ htb]
   ·show#[o,kp b o x e]
  ·obtain⟨o,es,ep,e,r⟩:=hm;show#[o,es,ep,kp _ o (nP _ I.free) e,r]
  ·by_cases h1:b=p.objs.size
   ·subst h1;rw[Zc]at e;cases e;have:=oG p z9;show#[this,this,_,this]
   by_cases h2:b=w
   ·subst h2;rw[aC]at e;cases e;show#[nZ _ G,_,nZ _ G]
   by_cases h0:b=l
   ·subst h0;rw[aP]at e;cases e;show#[#[],nZ _ O1,.inl #[rfl,trivial]]
   rw[i #[h0,h2,h1]]at e
   by_cases h3:b=Pt
   ·subst h3;rw[hH]at e;cases e;refine#[_,nZ _ htb,.inr #[Y,fs++[(L.line,L.col,X.env.qual++"<lambda>",w)],rfl,nd,by rw[UV],λf hf=>?_]];rcases oO.mp hf with y|y
    ·obtain⟨z1,x,r,q,P1,f1,f2,f3,f4,f5⟩:=hfs f y;show#[z1,x,r,q,P1,by rw[i (g _ _ f1)];show f1,f2,f3,by rw[i (g _ _ f4)];show f4,f5]
    ·rw[pK.mp y];show#[A8,N,vs,tt,l,aC,hd,hv,aP,hco]
   ·refine(I.hok b u e).stay (λd v hd q=>kp d v ?_ q) (λd q=>by rw[i (g _ _ q)];show q) (λd xs q=>by rw[i (g _ _ q)];show q) (λd o q=>by rw[i (g _ _ q)];show q) (λd o q=>by rw[i (g _ _ q)];show q);rcases hd with y|y
    ·rw[y];show h3
    ·show λx=>by rw[x,hH]at y;cases y
 | some cv =>
  obtain⟨f,hf,rfl,r,q⟩:=Nq J;obtain⟨z1,N,vs,tt,l,f1,f2,f3,f4,f5⟩:=hfs f hf;obtain⟨fl,i,g,w⟩:=f;have r:fl=L.line:=r;have q:i=L.col:=q;subst r q;have U:g=X.env.qual++"<lambda>":=Yff nd z1 A8;subst U;refine PySem.W.kla_makeFunctionHit (ps:=rQ fs) (cv:=.ref w) w9 I.ok.glob hg K8 CH hT (Ge fs) J hB λD p tk G x=>?_
  ·have E:H p.objs.size=none:=I.hok.fresh x;have:=oG p (o:=PySem.W.kla_obj "<lambda>" (X.env.qual++"<lambda>") B lb A j ((X.mg "__name__").getD .none) w D) rfl;show h _ _ _ (I.laid (a:=p.objs.size) (o:=Fz<|PySem.W.kla_obj "<lambda>" (X.env.qual++"<lambda>") B lb A j ((X.mg "__name__").getD .none) w D) (t':=tk) (λb u e=>nZ _<|G b u e) x #[this,this,_,this]) (mK.new E) E
    #[_,D,w,N,vs,tt,l,Zc,by rw[Zd (Ze f1 E)];show f1,f2,f3,by rw[Zd (Ze f4 E)];show f4,f5]
end
open Classical in
def rh(z:lX (lY×lZ))(H:Hp)(h:mi):Hp:=λb=>if ∃x,z.lookup x=some b then(h.get? b).map Fz else H b
section
variable {c7:lX (lZ×Obj)} {σ:St} {H:Hp} {s:md} {Q:VK}
def Xd(I:mS X c7 σ H s)(e:H b=some o):rh X.env.cells H s.heap b=some o:=by
 unfold rh;rw[ng]
 ·show e
 ·rintro⟨x,z⟩;rw[I.freeC x b z]at e;cases e
def xY(n:∀x,X.env.cells.lookup x≠some b):rh X.env.cells H s.heap b=H b:=by
 unfold rh;rw[ng];rintro⟨x,z⟩;show n x z
def Iz(I:mS X c7 σ H s){i:Nat}{x:lY}{v:V}{c:lZ}(q:X.N[i]? =some x)(p:σ[i]? =some (some v))(y:X.env.scope.names.lookup x=some .cell)(z:X.env.cells.lookup x=some c):H c=none/\CellAt (rh X.env.cells H s.heap) c v:=by
 obtain⟨m,h,n⟩:=I.loc;obtain⟨u,r,l⟩:=n i x v q p<|.inr<|.inl y;refine#[I.freeC x c z,?_];rcases l with⟨k,_⟩|⟨_,h,w,o,j,hd⟩
 ·have k:X.env.scope.names.lookup x=some .local:=k;rw[y]at k;cases k
 ·rw[z]at w;cases w;refine#[o,u,?_,hd,r];unfold rh;rw[nj #[x,z],j]
  rfl
def mS.shut(I:mS X c7 σ H s)(p:X.ex=[])(i:∀x,X.fn x=true)(h:Yg v u)(q:Q v (rh X.env.cells H s.heap)):CE X.mJ X.prog X.w X.mz X.mw Q u s:=by
 have J:=I.mM;have g:∀b o,X.mw.heap.get? b=some o->∀x,X.env.cells.lookup x≠some b:=λb o e x z=>absurd (pF (nS e)<|I.ok.cab x b (i x) z)<|rf _
 refine#[v,rh X.env.cells H s.heap,I.os,I.bare,#[λb o y r w _=>J.keep b o y r w (by rw[p];simp),λb o y r w _=>J.slot b o y r w (by rw[p];simp),λb o y r _=>?_,λb o y _=>J.there b o y (by rw[p];simp),λb l e=>Xd I<|J.tups b l e,λb o x e=>Xd I<|J.frzs b o x e,λb d e=>?_],λb o e=>?_,h,q]
 ·rw[xY (g b o y)];show J.free b o y r (by rw[p];simp)
 ·obtain⟨m,z⟩:=J.tbls b d e;show#[m,Xd I z]
 ·by_cases j:∃x,X.env.cells.lookup x=some b
  ·obtain⟨x,z⟩:=j;obtain⟨w,c,n,hd⟩:=I.cell x b z;unfold rh at e;rw[nj #[x,z],n]at e;cases e;show#[n,n,_,n]
  ·have w:=e;rw[xY λx z=>j #[x,z]]at w;show(I.hok b o w).stay (λ_ _ _ q=>q) (λc q=>Xd I q) (λc l q=>Xd I q) (λc o q=>Xd I q) (λc o q=>Xd I q)
end
def VV(X:Cx)(Pt:lZ)(Q:VK)(s:Arguments)(q:ml)(r:Scope)(p:Pos)(z:St)(H:Hp):Prop :=
 defaultsOf s X.env=([],[])/\H Pt=some (.tbl<|sQ p<|X.env.qual++"<lambda>")/\∃y,closureFor r X.env=pure y/\
 ∀u w,mK H w->H u=none->Clo w Pt u (X.env.qual++"<lambda>") s q r y->(∀(i:Nat)(x:lY)(v:V)(c:lZ),X.N[i]? =some x->z[i]? =some (some v)->X.env.scope.names.lookup x=some .cell->X.env.cells.lookup x=some c->H c=none/\CellAt w c v)->Q (.ref u) w
inductive uQ(X:Cx)(Pt:Addr)(Q:VK):List Stmt->St->Hp->Prop
 | last {la lb ls lp rp σ H Zr}:VV X Pt Q la lb ls lp σ H->uQ X Pt Q (.Return (some<|.Lambda la lb ls lp) rp ::Zr) σ H
 | step {st Zr σ H} (M:St->Hp->Prop):WS X st {nx:=M,rt:=λ_ _=>False} σ H->(∀σ' H',M σ' H'->uQ X Pt Q Zr σ' H')->uQ X Pt Q (st ::Zr) σ H
def Ye8{X:Cx}{Pt c:lZ}{Q:VK}(g:X.env.code=.ref c)(C:PySem.W.CodeHd X.mM c Pt){b:lX mh}{z:St}{H:Hp}(m:uQ X Pt Q b z H):∀{s:md},mS X [] z H s->
  ∅ (execs b X.env) (λf s'=>∃p w r,f=.ret (.ref p)/\mS X [] w r s'/\Q (.ref p) (rh X.env.cells r s'.heap)) X.xe s:=by
 induction m with
 | last h =>
  intro s I;obtain⟨d,a,y,Y,k⟩:=h;refine BR<|wpAny_Return_some<|Nf I d g C a (List.mem_singleton_self _) Y λp r s' u q U N=>?_;refine#[p,_,r,rfl,u,k p _ (q.trans λb o e=>Xd u e) U (N.mono λb o e=>Xd u e) λi x v c y n l j=>#[q.free (Iz u y n l j).1,(Iz u y n l j).2]]
 | step M h _ x =>
  intro s I;refine BR<|ny (h.run [] s I) λf o q=>?_;cases f with
  | next =>
   obtain⟨w,r,u,q⟩:=q;show x w r q u
  | ret v=>obtain⟨_,_,_,_,_,y⟩:=q;show y.elim
  | brk=>obtain⟨_,_,_,y⟩:=q;show y.elim
  | cont=>obtain⟨_,_,_,y⟩:=q;show y.elim
def uj(K:mf)(fd:mq)(Pt:lZ):Prop:=∃c,fd.code=.ref c/\PySem.W.codeHdIn K c Pt=true
section
variable {P:mn} {w:mj} {K:mf} {mg:lY->me ma} {mM:mi}
def qX.okM{x qual:lY}{st:mh}{f Pt:lZ}{fd:mq}{N ps:lX lY}{k:Nat}{j:Sp}(F:qX K x qual st f fd)(L:uj K fd Pt)(S:Zy N ps (Zj st))(len:∀vs H Q E,j vs H Q E->vs.length=ps.length)
  (M:∀(l:ma)(A:mo)(u:lX Env)(s:md)(H:Hp)(vs:lX V)(Q:VK)(E:XK),Y0 k (A.deeper<|envOfC qual (Zj st) #v[s] f l)->j vs H Q E->
   uQ (W8 ph P w K mg mM N qual (Zj st) f l A u s H E).nox Pt Q (Y1 st) (start N vs) H):Xm P w K mg mM ph (k+1) f fd ps j:=by
 obtain⟨oc,od,kV,A4,pm,an,l,ct,N6,rfl,lk,G⟩:=F.ex;obtain⟨c,i,D⟩:=L;have i:l=.ref c:=i;subst i;refine#[len,λA u s H args C vs Q E h p B r a=>?_];have hl:=len _ _ _ _ a;have KX:K.In s.heap:=p.mod.kin.keeps λb o e=>(p.bs b o e).1
 have g:s.heap.NoLimit:=p.mod.nolimit.keeps λb o e=>(p.bs b o e).1
 have V3:∀y∈ps.zip C,(Zj st).names.lookup y.1=some .local\/((Zj st).names.lookup y.1=some .cell/\((cellsFrom (#v[s]+1) (Zj st).names []).lookup y.1).isSome=true):=λ⟨n,v⟩ hy=>by
  rcases S.par n (tW hy).1 with q|q
  ·show .inl q
  ·show .inr #[q,Hk _ _ _<|.inl q]
 refine codeAny_call_function h.depth (KX _ _ lk) rfl S.co S.gen rfl (Lc KX G)<|B _ _ _ _ ?_;refine Kj S.kind V3 λenv he Y x=>?_
 subst he;refine#[g.keeps x.toInCall.keep,codeAny_func ?_];have z:mS (W8 ph P w K mg mM N qual (Zj st) f (.ref c) A u s H E) [] (start N vs) H Y:=Nr S h.hd p hl r x;have I:mS (W8 ph P w K mg mM N qual (Zj st) f (.ref c) A u s H E).nox [] (start N vs) H Y:=#[#[z.ok.mod,z.ok.kind,z.ok.glob,z.ok.blt,z.ok.above,z.ok.inj,z.ok.has,z.ok.cab,z.ok.hd,z.ok.frames,z.ok.stk,z.ok.exf,z.ok.bs,z.ok.bsz,z.ok.noex,z.ok.exfs,z.ok.funs,z.ok.frf],z.os,z.bare,z.mM,z.loc,z.cell,z.free,z.freeC,z.pin,z.hok,z.len]
 refine pX (Ye8 (c:=c) rfl (Gp p.mod.kin D) (M (.ref c) A u s H vs Q E (h.deeper _) a) I) (λfl U d=>?_) λe U d=>d.elim
 obtain⟨v,σ',H',rfl,J,q⟩:=d;change CE u P w H s Q (.ref v) U;show J.shut (v:=.ref v) rfl (λ_=>rfl) rfl q
end
def EY(P:mn)(w:mj)(K:mf)(x:lY->me ma)(mM:mi)(k:Nat)(f:lZ)(H:Hp)(vs:lX V)(Q:VK):Prop :=
 ∀(A:mo)(z:lX Env)(s:md)(y:lX ma),Y0 k A->ud P w K x mM A z s H->Ya vs y->codeAny (model P w) A (.call (.ref f) #[y,[]]) (CR ph z P w H s Q E0) s
def wf(H:Hp)(f:lZ):Prop:=∃z y x w u,H f=some (.frz #[z,y,.func x,w] u)
def wf.at(I:mS X q z H s)(h:wf H f):PySem.W.FnAt f s.heap:=by
 obtain⟨y,x,w,r,u,e⟩:=h;show#[y,x,w,r,(I.hok f _ e).1]
def Clo.fn(h:Clo H Pt y q w u s z):wf H y:=by
 obtain⟨r,p,c,o,n,l,_,x,_⟩:=h;show#[_,_,_,_,_,x]
def Yfd(P:mn)(w:mj)(K:mf)(s:lY->me ma)(mM:mi)(k:Nat)(r:TE)(t:TA):TE:=λz H Q=>r z H λx y=>∃f,x=.ref f/\wf y f/\t z y λq u=>wf u f/\EY P w K s mM k f u q Q
def QN(j:Y0 k X.A)(i:PE X (.Name x p) g)(d:PA X (e ::q) t)
  (c:starEach (e ::q) X.env=(false,eval e X.env) ::starEach q X.env:=by rfl) (a:(backTo pos<|starEach q X.env).any (·.1)=false:=by rfl):PE X (.Call (.Name x p) (e ::q) [] pos) (Yfd X.prog X.w X.K X.mg X.mM k g t):=by
 intro n s z H Q I h;refine uE<|ny (i n s z H _ I h) λu Y U=>?_;obtain⟨y,N,l,M,f,L,J,G⟩:=U;subst L;obtain rfl:u=Value.ref f:=M;refine PySem.W.callWith_F (J.at l) (ny (d pos n Y z N _ l G) λE D ⟨B,A,o,r,y,C⟩=>#[y.at o,?_]) c a;refine ul<|uh (C X.A X.stack D E j o.env0 r) λr y w=>?_;cases r with
 | error e=>show False.elim w
 | ok y =>
  cases y with
  | ret u=>show o.after w
  | next=>show False.elim w
  | brk=>show False.elim w
  | cont=>show False.elim w
def Cg(P:mn)(w:mj)(K:mf)(mg:lY->me ma)(mM:mi)(N:lX lY)(q:lY)(scope:Scope)(f:lZ)(y:ma)(z:lX (lY×lZ))(A:mo)(mJ:lX Env)(s:md)(H:Hp):Cx where
 prog:=P
 w:=w
 K:=K
 mg:=mg
 mM:=mM
 A:=A.deeper (PySem.W.envX q scope #v[s] f y z)
 N:=N
 mw:=s
 mz:=H
 env:=PySem.W.envX q scope #v[s] f y z
 mJ:=mJ
 stack:=PySem.W.envX q scope #v[s] f y z ::mJ
 ex:=[]
 calm:=true
 fn:=λ_=>false
 pn:=[]
 xe:=λ_ _=>False
def offL(H:Hp)(z:lX (lY×lZ)):Hp:=λb=>if b∈z.map snd then none else H b
def uo(h:b∉z.map snd):offL H z b=H b:=ng h
def zC(h:b∈z.map snd):offL H z b=none:=nj h
theorem Jw:∀{l:lX (lY×lZ)}{x y:lY}{a:lZ},(l.map snd).Nodup->(x,a)∈l->(y,a)∈l->x=y
 | [],_,_,_,_,h,_=>by cases h
 | p ::r,x,y,a,u,o,s=>by
  have u:(p.2 ::r.map snd).Nodup:=u;obtain⟨q,n⟩:=pZ.mp u;rcases oh.mp o with w|w
  ·rcases oh.mp s with z|z
   ·rw[<-w]at z;cases z;rfl
   ·show absurd (nH.mpr #[_,z,by rw[<-w]]) q
  ·rcases oh.mp s with z|z
   ·show absurd (nH.mpr #[_,w,by rw[<-z]]) q
   ·show Jw n w z
def DC:HO->Prop
 | .frz _ _=>False
 | _=>True
structure rK(H:Hp)(ls:Scope)(clos:List (Str×Addr))(fs:List Str)(fvs:List V):Prop where
 cells:Paired (λx v=>ls.names.lookup x=some .free/\∃c,clos.lookup x=some c/\CellAt H c v) fs fvs
 all:∀p∈clos,p.1∈fs
 one:(clos.map fst).Nodup
 apart:(clos.map snd).Nodup
theorem zY{z:Type}:∀{l:lX (lY×z)}{p:lY×z},(l.map fst).Nodup->p∈l->l.lookup p.1=some p.2
 | [],_,_,h=>by cases h
 | q ::r,p,x,h=>by
  have x:(q.1 ::r.map fst).Nodup:=x;obtain⟨w,u⟩:=pZ.mp x;rw[rH];rcases oh.mp h with e|e
  ·rw[e,AY]
  ·have:(p.1 ==q.1)=false:=by rw[sO];show λy=>w<|nH.mpr #[p,e,y]
   rw[this];show zY u e
def rK.cell(L:rK H s z fs fvs)(y:p∈z):∃v,CellAt H p.2 v:=by
 obtain⟨i,w,e⟩:=AR<|L.all p y;obtain⟨v,_,_,c,x,u⟩:=Paired.get L.cells (i:=i) (a:=p.1) (by rw[oR w,e]);rw[zY L.one y]at x;cases x;show#[v,u]
def rK.soft(L:rK H s y fs fvs)(h:H b=some o)(n:DC o):offL H y b=some o:=by
 rw[uo]
 ·show h
 ·intro z;obtain⟨p,w,e⟩:=nH.mp z;obtain⟨v,r,u,x,_⟩:=L.cell w;rw[e,h]at x;cases x;show n
def Zw2 :mK (offL H y) H:=λb o e=>by
 by_cases z:b∈y.map snd
 ·rw[zC z]at e;cases e
 ·rw[uo z]at e;show e
open Classical in
def rj(H y:Hp)(z:lX (lY×lZ)):Hp:=λb=>if b∈z.map snd then H b else y b
section
variable {P:mn} {w:mj} {K:mf} {mg:lY->me ma} {mM:mi}
def rK.isC(L:rK H q y fs fvs)(z:b∈y.map snd):∃o u,H b=some (Fz o)/\o.data=.cell (some u):=by
 obtain⟨p,x,e⟩:=nH.mp z;obtain⟨v,o,u,s,r,_⟩:=L.cell x;show#[o,u,e ▸ s,r]
def yB(n:H b=none):offL H y b=none:=by
 by_cases z:b∈y.map snd
 ·show zC z
 ·rw[uo z];show n
def Nj(L:rK H N r fs fvs)(h:ud P w K mg mM A a s H)(q:Un (oS a) [] (offL H r) p s.heap h')(g:oz P w p h'):Un (oS a) [] H (rj H p r) s.heap h'/\oz P w (rj H p r) h'/\mK p (rj H p r):=by
 have l:∀{b:lZ},b∈r.map snd->p b=none:=λ{b} z=>by
  obtain⟨o,u,j,_⟩:=L.isC z;show q.free b _ (h.hok b _ j).1 (zC z) (by simp)
 have bk:∀{b:lZ}{o:HO},p b=some o->rj H p r b=some o:=λ{b o} e=>by
  unfold rj;rw[ng λz=>by rw[l z]at e;cases e];show e
 refine#[#[λb o i n y _=>q.keep b o i (yB n) y (by simp),λb o i n y _=>q.slot b o i (yB n) y (by simp),λb o i n _=>?_,λb o i _=>q.there b o i (by simp),λb Y e=>bk<|q.tups b Y<|L.soft e trivial,λb c x e=>?_,λb U e=>?_],λb o e=>?_,λb o e=>bk e]
 ·unfold rj;rw[ng λz=>by obtain⟨o,Q,j,_⟩:=L.isC z;rw[n]at j;cases j];show q.free b o i (yB n) (by simp)
 ·by_cases z:b∈r.map snd
  ·unfold rj;rw[nj z];show e
  ·show bk (q.frzs b c x (by rw[uo z];show e))
 ·obtain⟨m,z⟩:=q.tbls b U<|L.soft e trivial;show#[m,bk z]
 ·by_cases z:b∈r.map snd
  ·unfold rj at e;rw[nj z]at e;obtain⟨d,Q,j,M⟩:=L.isC z;rw[e]at j;cases j;have u:=q.keep b d (h.hok b _ e).1 (zC z) (λy=>by rw[h.frf b y]at e;cases e) (by simp);show#[u,u,_,u]
  ·have u:=e;unfold rj at u;rw[ng z]at u;show(g b o u).stay (λ_ _ _ y=>y) (λd y=>bk y) (λd Y y=>bk y) (λd c y=>bk y) (λd c y=>bk y)
def KA{gs:lX lY}{gvs:lX V}{us:lX ma}{CX:vf}{xe:lZ->ma->md->Prop}(C:Clo H Pt g q la lb n r)(L:rK H n r fs fvs)
  (hb:∀pm d6 B2:ma,bindArgs (PySem.W.kla_fn "<lambda>" q la lb n r pm d6 B2) #[us,[]]=pure (gs.zip us)) (hg:∀y∈gs.zip us,n.names.lookup y.1=some .local) (G:gvs.length=gs.length)
  (hgv:∀(i:Nat) y v,gs[i]? =some y->gvs[i]? =some v->∃u,Yg v u/\n.names.lookup y=some .local/\(gs.zip us).reverse.lookup y=some u)
  (z9:∀y∈n.names,y.2=.free->y.1∈fs) (D:∀y∈n.names,y.2≠.cell)
  (hk:n.kind=.function) (hco:n.isCoroutine=false) (Q8:n.isGenerator=false) (hr:Y0 (k+1) A) (l:ud P w K mg mM A N s H)
  (body:∀c:lZ,Y0 k (A.deeper<|PySem.W.envX q n #v[s] g (.ref c) r)->WE {Cg P w K mg mM (gs++fs) q n g (.ref c) r A N s (offL H r)with xe:=xe c} lb (gvs.map some++fvs.map some) (offL H r) Q')
  (ok:∀v M,Q' v M->mK M (rj H M r)->Q v (rj H M r))
  (bad:∀c e s',xe c e s'->wpAny (model P w) (A.deeper<|PySem.W.envX q n #v[s] g (.ref c) r) (leaving (PySem.W.envX q n #v[s] g (.ref c) r) e) (λ_ P0=>CX N H s E e P0) (λe' P0=>CX N H s E e' P0) s') :
  codeAny (model P w) A (.call (.ref g) #[us,[]]) (CR CX N P w H s Q E) s:=by
 obtain⟨pm,B2,c,oc,vs,tt,p,j,Y,h3,h4,_⟩:=C;have o1:s.heap.get? g=some (PySem.W.kla_obj "<lambda>" q la lb n r pm c B2):=(l.hok g _ j).1;have o2:s.heap.get? c=some oc:=(l.hok c _ Y).1;have lim:s.heap.NoLimit:=l.mod.nolimit.keeps λb o e=>(l.bs b o e).1
 refine PySem.W.kla_callFunE hr.depth o1 rfl hco Q8 rfl #[c,oc,vs,tt,rfl,o2,h3,h4] ?_;rw[hb];refine nk<|wpAny_newFunctionEnv D hg (λU A7 B=>#[lim.fresh _ B,?_]) hk;change codeAny _ _ (.expr lb<|PySem.W.envX q n #v[s] g (.ref c) r) _ _;have mF:∀b o,s.heap.get? b=some o->U.get? b=some o:=λb o e=>B.extBut b o (oi<|nS e)<|nZ _ e
 have inC:∀{x:lY}{a:lZ},r.lookup x=some a->a∈r.map snd:=λh=>nH.mpr #[_,sy h,rfl]
 have hok0:oz P w (offL H r) s.heap:=λb o e=>by
  refine(l.hok b o<|Zw2 b o e).stay (λ_ _ _ z=>z) (λd z=>L.soft z trivial) (λd p z=>L.soft z trivial) (λd p z=>?_) (λd p z=>L.soft z trivial);rw[uo]
  ·show z
  ·intro y;obtain⟨o3,u3,p,_⟩:=L.isC y;rw[z]at p;cases p
 have nA:∀b:lZ,b∉([]:lX lZ):=λb z=>nomatch z
 have I:mS {Cg P w K mg mM (gs++fs) q n g (.ref c) r A N s (offL H r)with xe:=xe c} [] (gvs.map some++fvs.map some) (offL H r) {s with heap:=U,toks:=s.toks+(gs.zip us).length}:=by
  refine#[#[l.mod,hk,rfl,rfl,nK _,λy z a j Y=>Jw L.apart (sy j)<|sy Y,λy hy=>?_,λy a z _=>(oK z).elim,λ_=>hr.hd,Around.frames_deeper l.frames,.inr #[rfl,rfl],λb z=>absurd z<|nA b,λb o e=>#[(l.bs b o e).1,yB (l.bs b o e).2],l.bsz,λb _ _=>nA b,λb z=>absurd z<|nA b,l.funs,λb z=>yB<|l.frf b z],
   rfl,l.bare,Un.kept mF,#[_,A7,λi y v j Y h3=>?_],λy a z=>?_,yB<|l.hok.fresh<|nK _,λy a z=>zC<|inC z,(λp hp=>nomatch hp),hok0.kept mF,?_]
  ·rcases(show n.names.lookup y=some .cell\/n.names.lookup y=some .free from hy)with hy|hy
   ·show absurd rfl<|D _<|sy hy
   ·obtain⟨i,hi,e⟩:=AR<|z9 _ (sy hy) rfl;obtain⟨v,_,_,a,z1,_⟩:=Paired.get L.cells (i:=i) (a:=y) (by rw[oR hi,e]);show#[a,z1]
  ·have j:(gs++fs)[i]? =some y:=j;have Y:(gvs.map some++fvs.map some)[i]? =some (some v):=Y;rw[<-nJ,nU]at Y;obtain⟨v',p,h6⟩:=oo.mp Y;cases h6
   by_cases hi:i<gs.length
   ·rw[Bm hi]at j;rw[Bm (by lia)]at p;obtain⟨u,a,b,c⟩:=hgv i y v j p;show#[u,a,.inl #[b,c]]
   ·rw[yM (by lia)]at j;rw[yM (by lia),G]at p;obtain⟨v2,z0,z1,a,z2,o,uu,z3,z4,z5⟩:=Paired.get L.cells j;rw[p]at z0;cases z0;show#[uu,z5,.inr #[.inr z1,a,z2,o,mF _ _ (l.hok a _ z3).1,z4]]
  ·obtain⟨o,uu,z1,z2⟩:=L.isC<|inC z;show#[_,o,mF _ _ (l.hok a _ z1).1,z2]
  ·change(gvs.map some++fvs.map some).length=(gs++fs).length;rw[oj,oj,mV,mV,G,nW L.cells]
 refine PySem.W.kla_codeExpr<|pX ((body c<|hr.deeper _).run [] _ I) (λv s' hs=>?_) λe s' hs=>bad c e s' hs;obtain⟨v',M,J,R7,qq⟩:=hs;obtain⟨un,k,sm⟩:=Nj L l (show Un (oS N) [] (offL H r) M s.heap s'.heap from J.mM) J.hok;show#[v',_,J.os,J.bare,un,k,R7,ok _ _ qq sm]
def BK(C:Clo H Pt n q G U r x)(L:rK H r x fs fvs)
  (E:∀(D p B u:ma),bindArgs (PySem.W.kla_fn "<lambda>" q G U r x D p B) #[[u],[]]=pure [(g,u)]) (N:r.names.lookup g=some .local) (hgf:g∉fs) (z9:∀y∈r.names,y.2=.free->y.1∈fs) (l:∀y∈r.names,y.2≠.cell)
  (hk:r.kind=.function) (j:r.isCoroutine=false) (Q8:r.isGenerator=false)
  (body:∀(p:ma)(A:mo)(h:lX Env)(s:md),Y0 k (A.deeper<|PySem.W.envX q r #v[s] n p x)->
   WE (Cg P w K mg mM (g ::fs) q r n p x A h s<|offL H x) U (some M ::fvs.map some) (offL H x) (λv d=>mK (offL H x) d/\∀Y,mK d Y->mK H Y->Q v Y)):EY P w K mg mM (k+1) n H [M] Q:=by
 intro A h s us hr e0 rv;obtain⟨u,rfl,ru⟩:=Wr rv;refine KA (gs:=[g]) (gvs:=[M]) (xe:=λ_ _ _=>False) C L (λa b c=>E a b c u) (λy hy=>?_) rfl (λi y v J h2=>?_) z9 l hk j Q8 hr e0 (λc=>body (.ref c) A h s) (λv d z I=>z.2 _ I λb o e=>?_) λ_ _ _ z=>z.elim
 ·obtain rfl:y=(g,u):=pK.mp hy;show N
 ·cases i with
  | zero =>
   cases J;cases h2;show#[u,ru,N,by simp]
  | succ i=>cases J
 ·by_cases y:b∈x.map snd
  ·unfold rj;rw[nj y];show e
  ·show I.at (z.1.at (by rw[uo y];show e))
end
def pj(s:mh):ml:=match(Y1 s).getLast? with
 | some (.Return (some e) _)=>e
 | _=>.Constant .none 0 #[0,0,0,0]
def Bw:ml->Arguments
 | .Lambda a _ _ _=>a
 | _=>{posonlyargs:=[],args:=[],vararg:=none,kwonlyargs:=[],kw_defaults:=[],kwarg:=none,defaults:=[]}
def AA:ml->ml
 | .Lambda _ b _ _=>b
 | e=>e
def vD:ml->Scope
 | .Lambda _ _ s _=>s
 | _=>{kind:=.function,names:=[],isGenerator:=false,isCoroutine:=false}
def ue:ml->Pos
 | .Lambda _ _ _ p=>p
 | _=>#[0,0,0,0]
structure CB(K:Frag)(h:Heap)(tabs:List (Addr×Array Value)):Prop where
 cod:∀p∈tabs,∃c,PySem.W.codeHdIn K c p.1=true
 emp:∀p∈tabs,h.get? p.1=some (PySem.W.tabObj #[])
 shape:∀p∈tabs,∃ls,p.2=Xi ls/\(ls.map λp=>(p.1,p.2.1)).Nodup
 nd:(tabs.map fst).Nodup
 nt:PySem.W.noTabs K=true
inductive yR(K:mf)(tabs:lX (lZ×Array ma)):Sp
 | mk (a) (ns:lX Int):vs=[.ref a]->SqL K H a (ns.map V.int)->ns.length<=63->(∀p∈tabs,H p.1=some (.tbl p.2))->(∀H',Q (.bl true) H')->yR K tabs vs H Q E
theorem Fl{z:Type}:∀{l:lX (lZ×z)}{p:lZ×z},(l.map fst).Nodup->p∈l->l.lookup p.1=some p.2
 | [],_,_,h=>by cases h
 | q ::r,p,x,h=>by
  have x:(q.1 ::r.map fst).Nodup:=x;obtain⟨w,u⟩:=pZ.mp x;rw[rH];rcases oh.mp h with e|e
  ·rw[e,AY]
  ·have:(p.1 ==q.1)=false:=by rw[sO];show λy=>w<|nH.mpr #[p,e,y]
   rw[this];show Fl u e
theorem BL{z:Type}:∀{l:lX (lZ×z)}{a:lZ}{v:z},l.lookup a=some v->(a,v)∈l
 | [],_,_,e=>by cases e
 | (b,x) ::r,a,v,e=>by
  rw[rH]at e;cases y:a ==b with
  | true=>rw[y]at e;cases e;rw[eq_of_beq y];show .head _
  | false=>rw[y]at e;show .tail _<|BL e
def Tw(K:mf):lX V->Hp->VK->Prop:=λz H Q=>∃e C c b,z=[.ref e,c]/\H e=some (qR e C none)/\XG K C/\((∃n,c=.ty n/\kitOne K (.ref C) (.type n)=some b)\/(∃a,c=.ref a/\kitOne K (.ref C) (.ref a)=some b))/\Q (.bl b) H
def Zwh:Y5 X (.builtin "isinstance") (Tw X.K):=by
 intro Y s z H U N Q I r h;obtain⟨e,C,c,b,rfl,n,g,k,q⟩:=h;obtain⟨u,c,rfl,l,p⟩:=wn r;obtain rfl:u=Value.ref e:=l;obtain⟨o,c,j,i,d,x⟩:=qR.at I.hok n;have J:PySem.W.InstAt s.heap e o C none:=#[j,i,by unfold PySem.W.notCls;rw[x],by rw[d];trivial]
 have Z:PySem.W.KitX X.K (.ref e) (.ref C) (λh=>PySem.W.InstAt h e o C none):=OT g.xa g.hc g.cl g.cg g.ct g.ob;rcases k with⟨c,rfl,k⟩|⟨a,rfl,k⟩
 ·cases p;show rN Z I.kIn J k (λy=>nomatch y) λw=>#[.bl b,H,I.tok w,rfl,q]
 ·cases p;show rN Z I.kIn J k (λy=>nomatch y) λw=>#[.bl b,H,I.tok w,rfl,q]
def Sy:V->lX V->Hp->VK->Prop:=λx z H Q=>∃(l:lZ)(bs:lX Bool)(b:Bool),x=.ref l/\z=[.bl b]/\H l=some (.lst<|bs.map V.bl)/\Q (.int (bs.countP (λc=>c ==b):Nat)) H
theorem GC:∀{bs:lX Bool}{us:lX ma},Ya (bs.map V.bl) us->us=bs.map Value.bool
 | [],_,.nil=>rfl
 | b ::bs,_,.cons r t=>by
  rw[GC t];cases r
  rfl
def Bf(b:Bool):ma->Bool
 | .bool c=>c ==b
 | _=>false
def TF:Am X "list.count" Sy:=by
 intro d s z H x a v Y Q I o j h;obtain⟨l,bs,b,rfl,rfl,i,q⟩:=h;cases o;obtain⟨u,rfl,g⟩:=j.one;cases g;obtain⟨y,u,n,r,U,e⟩:=I.lstM i;obtain rfl:=GC r;refine zf F.slot_list_count #[_,e,rfl] F.entry_list_count (F.args_list_count_2 _ _) (SeqAt.list_countAt l _ n _ _ (.bool b)<|Bf b) #[e,λw p=>?_,?_]
 ·have p:w∈bs.map Value.bool:=by simpa using p
  obtain⟨c,_,rfl⟩:=nH.mp p;show GN c b
 ·refine#[.int _,H,I.tok _,#[_,rfl],?_];have:List.countP (Bf b) (bs.map Value.bool).toArray.toList=bs.countP (λc=>c ==b):=by
   rw[List.toList_toArray,List.countP_map]
   rfl
  rw[this];show q
def Fk(y:Gl X x)(h:∃z,X.mg x=some (.str v z))(hd:(x ==("__debug__":lY))=false:=by lk):PE X (.Name x pos) (tC<|.str v):=by
 obtain⟨z,h⟩:=h;show Xz y h #[z,rfl] hd
theorem Em:∀{p:lY}{l:lX lY},risingS p l=true->(p ::l).Pairwise (λa b=>ltCps b.cps.toList a.cps.toList=false)
 | p,[],_=>by simp
 | p,x ::r,h=>by
  rw[show risingS p (x ::r)=(!ltCps x.cps.toList p.cps.toList && risingS x r)from rfl,qk,Bool.not_eq_true']at h;have y:=Em h.2;refine List.pairwise_cons.mpr #[λb s=>?_,y];rcases oh.mp s with z|z
  ·rw[z];show h.1
  ·have w:=List.rel_of_pairwise_cons y z;have u:=h.1;rw[ltCps_eq,MN]at u w ⊢;show zE.mpr<|List.le_trans (zE.mp u)<|zE.mp w
def Wo(h:sortedS l=true)(h':sortedS z=true)(p:l.Perm z):l=z:=by
 have y:∀{l:lX lY},sortedS l=true->l.Pairwise (λa b=>ltCps b.cps.toList a.cps.toList=false):=λ{l} h=>by
  cases l with
  | nil=>show .nil
  | cons x r=>show Em h
 refine p.eq_of_pairwise (λa b _ _ w u=>?_) (y h)<|y h';rw[ltCps_eq,MN]at w u;have e:=List.le_antisymm (zE.mp w)<|zE.mp u;cases a;cases b;simpa using Array.toList_inj.mp e
end L2
end
section
namespace L2
open PySem PyProof.Rows
theorem Lk{E:ma->md->Prop}(j:A.handled=none)(h:l≠it):∀(n i:Nat)(s:md)(Q:lX ma->md->Prop),(s.heap.IsListIter it l i/\s.heap.IsList l z)->i+n<=z.size->
  (∀h' c,(h'.IsListIter it l (i+n)/\h'.IsList l z)->(∀b o,b∉[it]->s.heap.get? b=some o->h'.get? b=some o)->Q ((z.toList.drop i).take n) {s with heap:=h',toks:=c})->wpAny (model P w) A (draw (.ref it) n) Q E s
 | 0,i,s,Q,x,_,u=>by
  change wpAny _ _ (pure []) Q E s;show nk (by simpa using u s.heap s.toks x λ_ _ _ e=>e)
 | n+1,i,s,Q,x,L,u=>by
  have r:i<z.size:=by lia
  change wpAny _ _ (pyNext (.ref it)>>=_) Q E s;refine mU<|(Az (prog:=P) (w:=w) j it l h z).item i s _ _ r x λv J a g Y q=>?_;refine mU<|qt<|Lk j h n (i+1) _ _ Y (by lia) λU p y N=>nk ?_;have hd:z.toList.drop i=z[i] ::z.toList.drop (i+1):=by simp[za,r]
  have M:v=z[i]:=by rw[BH r]at g;show(pc g).symm
  have:=u U p (by rw[show i+(n+1)=i+1+n by lia];show y) λb o d e=>N b o d<|q b o d e
  rw[hd,Jv,<-M]at this;show this
def RG{E:ma->md->Prop}{u:lX (Bool×(ma->Sem Unit))}{Q:Unit->md->Prop}(j:A.handled=none)(r:s.heap.IsList l y)
  (c:u.length=y.size) (x:u.findIdx? (·.1)=none)
  (h:∀h' a,(∀b o,s.heap.get? b=some o->h'.get? b=some o)->wpAny (model P w) A (assignInOrder (u.map (·.2)) y.toList) Q E {s with heap:=h',toks:=a}) :
  wpAny (model P w) A (unpack (.ref l) u) Q E s:=by
 have Y:l<#v[s]:=by obtain⟨o,q,_⟩:=r;show nS q
 have U:s.TypeIs (.ref l) "list":=by obtain⟨o,q,N,_⟩:=r;show#[o,q,N]
 unfold unpack;rw[c,x];refine mU<|qt ?_;unfold unpackItems;refine mU ?_;unfold notIterableAtAll;refine mU<|Hv U F.slot_list_iter.lookup ?_;refine nk ?_;simp only[qF,pW];refine mU<|qt<|xJ r ?_;have i:l≠#v[s]:=oi Y;refine mU<|qt<|Lk j i y.size 0 _ _ #[#[_,oG _ rfl,rfl,rfl],r.push _] (by lia) λG M g p=>?_;have L:List.take y.size (List.drop 0 y.toList)=y.toList:=by
  rw[List.drop_zero];show uC (by simp)
 rw[L];rw[ng (by simp)];rw[Da]at g;refine mU<|qt<|(Az (prog:=P) (w:=w) j #v[s] l i y).done _ _ _ g λJ n I=>?_;simp only[Option.isSome_none,qF,pW];refine nk<|h J n λb o e=>?_;have d:b∉[#v[s]]:=λz=>by
  have H:b=#v[s]:=by simpa using z
  rw[H]at e;show rf _<|nS e
 show I b o d<|p b o d<|nZ _ e
def YZ(K:mf)(n:Nat)(t:wV):TG:=λv z H Q=>GT (SqL K) n H (λy=>t y z H Q) v
def Yf1(l:X.calm=true)(h:yr X y t)
  (j:(assignEach y X.env).length=n:=by rfl) (i:(assignEach y X.env).findIdx? (·.1)=none:=by rfl):PG X (.Tuple y k pos) (YZ X.K n t):=by
 intro w s z H v u Q I r x;obtain@⟨a,g,d,c,x⟩:=x;cases r;obtain⟨a,q,Y,L⟩:=I.list d;rw[assign_Tuple];refine mU<|Ag<|RG (I.ok.hd l) Y.isList (by simp[j,<-c,q.length]) i λU p N=>?_;have M:mS X w z H {s with heap:=U,toks:=p}:=I.kept (t':=p) λb o e=>N b o e
 show h w _ z H g _ Q M (by simpa using q) x
def zF(ns:lX Int):Int:=ns.foldl (· + ·) 0
theorem Jm(ns:lX Int):∀j,preSum (λi=>ns.getD i 0) j=zF (ns.take j)\/ns.length<j
 | 0=>.inl rfl
 | j+1=>by
  by_cases h:ns.length<j+1
  ·show .inr h
  ·refine .inl ?_;rcases Jm ns j with e|e
   ·have z:j<ns.length:=by lia
    rw[preSum,e,oH,oR z];unfold zF;rw[yW,ua,oR z]
    rfl
   ·lia
def Uv(d:X.calm=true):Y5 X (.builtin "sum") (λxs H Q=>∃(p:lZ)(ns:lX Int),xs=[.ref p]/\SqL X.K H p (ns.map V.int)/\Q (.int<|zF ns) H):=by
 intro M s z H xs L Q I r h;obtain⟨p,ns,rfl,c,q⟩:=h;obtain⟨u,rfl,a⟩:=Wr r;cases a;obtain⟨l,j,w,y⟩:=I.list c;have g:p<#v[s]:=by obtain⟨_,_,e,_⟩:=w;show nS e
 refine call_sum_walkG<|xJ w.isList ?_;refine#[#v[s],_,_,l.toArray.size,_,_,λi=>ns.getD i 0,rfl,Az (A:=X.A.in1) (show X.A.in1.handled=none from I.ok.hd d) #v[s] p (oi g) l.toArray,#[#[_,oG _ rfl,rfl,rfl],w.isList.push _],?_,?_,λy Y U k=>?_]
 ·intro b y;have:=rS s.heap {cls:=.type "list_iterator",data:=.fields (List.toArray [.ref p,.int 0 0])};have x:b=#v[s]\/b=p:=by simpa using y
  change b<(s.heap.push _).objs.size;rw[this];rcases x with rfl|rfl
  ·show xW _
  ·show Ae g
 ·intro i v u;obtain⟨x,y,o⟩:=Paired.get' j (i:=i) (b:=v) (by simpa using u);rw[nU]at y;obtain⟨n,N,rfl⟩:=oo.mp y;obtain⟨t,rfl⟩:=o;show#[t,by change Value.int n t=Value.int (ns.getD i 0) t;rw[ua,N];rfl]
 ·have x:=j.length;rw[mV]at x;refine#[.int<|zF ns,H,?_,?_,q]
  ·refine I.kept (t':=Y) λb o e=>k b o ?_<|nZ _ e
   have:=nS e;intro y;have u:b=#v[s]:=by simpa using y
   rw[u]at this;show rf _ this
  ·refine#[U,?_];rw[oM,<-x];rcases Jm ns ns.length with e|e
   ·rw[e,pD]
   ·lia
def sr(x:lY)(n:Nat):lY:=#[(List.replicate n x.cps).foldl (· ++ ·) #[]]
def Ygy:R2:=λx y H Q=>∃(z:lY)(n:Nat),x=.str z/\y=.int n/\z.length * n<=1000/\n<=1000/\Q (.str<|sr z n) H
def LH:om X (binaryOp .Mult) Ygy:=by
 intro c s z H x y v u Q I l j h;obtain⟨w,n,rfl,rfl,p,o,q⟩:=h;obtain⟨t,rfl⟩:=l;obtain⟨o,rfl⟩:=j;refine PySem.P.mul_str ?_ ?_ ?_ ?_
 ·rw[ow (by lia),ow<|by lia];rfl
 ·intro r i g;have:((2:Int) ^ 63-1) / (n:Int) ≥ 1000:=by
   rw[ge_iff_le,Int.le_ediv_iff_mul_le<|by lia];lia
  have o:w.length<=w.length * n:=Nat.le_mul_of_pos_right _ (by lia);lia
 ·intro r i;change decide (w.length * (n:Int).toNat >sizeLine)=false;rw[ow];have:=sz (n:=w.length * n) p;rw[vG];lia
 ·by_cases g:n=0
  ·subst g;rw[nj (by lk)];show#[by lk,.str<|sr w 0,H,I.kept λb o e=>e,#[_,rfl],q]
  ·rw[ng (by lia)]
   by_cases r:((n:Int) ==1 || w.length ==0)=true
   ·rw[nj r];refine#[.str<|sr w n,H,I,#[t,?_],q];have:sr w n=w:=by
     rw[Bp,qN,qN]at r;rcases r with e|e
     ·have e:n=1:=by lia
      subst e;unfold sr;simp
     ·have e:w.cps=#[]:=Array.eq_empty_of_size_eq_zero e;have:∀m,(List.replicate m (#[]:Array Nat)).foldl (· ++ ·) #[]=#[]:=λm=>by
       induction m with
       | zero=>rfl
       | succ m d=>rw[List.replicate_succ,List.foldl_cons];simpa using d
      unfold sr;rw[e,this n];cases w;simp at e;rw[e]
    rw[this]
   ·rw[ng r,vG];refine#[?_,.str<|sr w n,H,I.kept λb o e=>e,#[_,rfl],q];show fits_reps (by change decide (_ >sizeLine)=false;rw[ow];have:=sz (n:=w.length * n) p;lia)
def RY(K:mf)(u:TE)(ts:TO):TE:=λz H Q=>u z H λx s=>ts z s λk y=>∃a w,k=some (-1)/\x=.ref a/\SqL K y a w/\pG y (.lst w.reverse) Q
def Ya.rev(h:Ya xs us):Ya xs.reverse us.reverse:=by
 induction h with
 | nil=>show .nil
 | cons r _ z=>rw[Ci,Ci];show Paired.append z<|.cons r .nil
def Yf2{X:Cx}{e st:ml}{p:TE}{ts:TO}{w pos:Pos}{ops:ma->ma->lX ma}(g:PE X e p)(d:PO X (some st) ts)(c:∀l r,subscripted (.Slice none none (some st) w) false l r=operate (ops l r) (getItem l r)):PE X (.Subscript e (.Slice none none (some st) w) pos) (RY X.K p ts):=by
 intro y s z H Q I h;refine Subscript_<|ny (g y s z H _ I h) λv Y ⟨x,U,N,M,L⟩=>?_;refine wpAny_Slice ?_;rw[evalPart_none];refine nk ?_;refine nk ?_;refine ny (d y Y z U _ N L) λn s3 J=>?_
 obtain⟨k,G,E,D,a,C,B,A,hq,q⟩:=J;subst B A;cases M;have u:mS X y z G {s3 with heap:=s3.heap.push {cls:=.type "slice",data:=.fields (List.toArray [.none,.none,n])}}:=E.kept (t':=s3.toks) λb ob q=>nZ _ q
 obtain⟨x,r,j,i⟩:=u.list hq;change ∅ (subscriptTail e (.Slice none none (some st) w) (.ref a)<|.ref #v[s3]) (EP X y z Q) X.xe {s3 with heap:=s3.heap.push {cls:=.type "slice",data:=.fields (List.toArray [.none,.none,n])}};refine tail_any (ops:=ops (.ref a)<|.ref #v[s3]) j.isList.typeIs HJ.lookup ?_<|c _ _;refine Oi j.isList (Heap.IsSliceOf.new ..) .none .none D (by simp) ?_ (by rw[oM,<-r.length];show i);rw[PySem.W.krv_pick];refine#[.ref _,_,u.laid (t':=s3.toks) (o:=.lst C.reverse) (λb ob q=>nZ _ q) (nK _) ?_,rfl,q.at _<|u.hok.fresh<|nK _];show#[by rw[List.length_reverse];show i,_,0,Ya.rev r,oG _ rfl]
end L2
end
section
namespace L2
open PySem PySem.Spec PyProof.Rows
structure xX(K:Frag)(x qual:Str)(st:Stmt)(ps:List Str)(v:V) where
 f:Addr
 fd:FuncData
 dV:Value
 F:wU K x qual st dV f fd
 b:qG K fd ps []
 u:Value
 r:Yg v u
 b1:qG K fd ps [u]
def wU.okW{P:mn}{w:mj}{K:mf}{y:lY->me ma}{mM:mi}{x qual:lY}{st:mh}{u:ma}{f:lZ}{fd:mq}{N ps:lX lY}{k:Nat}{z:Sp}(F:wU K x qual st u f fd)(S:Zy N ps (Zj st))
  (r:∀(d6:ma)(A:mo)(mJ:lX Env)(s:md)(H:Hp)(vs:lX V)(Q:VK)(E:XK),Y0 k (A.deeper<|envOfC qual (Zj st) #v[s] f d6)->z vs H Q E->
   let X:=(W8 ph P w K y mM N qual (Zj st) f d6 A mJ s H E).nox;let D:qj:={nx:=λ_ q=>Q .non q,rt:=Q};WSs X (Y1 st) D (start N vs) H) (len:∀vs H Q E,z vs H Q E->vs.length=ps.length:=by bv_omega):Xm P w K y mM ph (k+1) f fd ps z:=wU.ok F S len r
def AL(y:Gl X x)(h:∃z,X.mg x=some (.int v z))(hd:(x ==("__debug__":lY))=false:=by lk):PE X (.Name x pos) (tC<|.int v):=by
 obtain⟨z,h⟩:=h;show Xz y h #[z,rfl] hd
def DN{z:Type}{l:lX z}{a:z}(y:l.Nodup)(h:l[i]? =some a):a∉l.take i:=λm=>by
 have e:l=l.take i++(a ::l.drop (i+1)):=by rw[<-FN h,xG]
 rw[e,qu]at y;show y.2.2 a m a oN rfl
section
variable {prog:mn} {w:mj} {KT:Type} [DecidableEq KT] {knd:HeapKind prog w KT} {A:mo} {E:ma->md->Prop} {s:md}
def Zt6(c:lZ)(x:(c ==sysModules)=false):MeetsIn prog w (Builtin.«dict.__len__» #[[.ref c],[]]) (λ_ R s=>∃z,s.heap.DictOfH knd c z/\R (.ok<|.ret<|.int z.length s.toks) {s with toks:=s.toks+1}) :=
 .of_wp λA R s ⟨z,u,h⟩=>by
  obtain⟨p,o,n,r,_,y,q,_,_⟩:=u;change wpAny _ _ (dictSize c >>=_) _ _ s;unfold dictSize;refine mU<|mU<|wpAny_dictEntries r y<|nk ?_;change wpAny _ _ (Builtin.Dict.pendingCount c >>=_) _ _ s;refine mU<|wpAny_pendingCount_other x<|wpAny_ret_mkInt ?_;rw[CO,size_of_entries q];show h
def Zxg{Q:ma->md->Prop}(x:(c ==sysModules)=false)(y:s.heap.DictOfH knd c z)(u:(z.length:Int)<2 ^ 63)
  (h:Q (.int z.length<|s.toks+1) {s with toks:=s.toks+1+1}):wpAny (model prog w) A (call (.builtin "len") [.ref c]) Q E s:=by
 refine Dh kind_len plain_len entry_len (args_len1 _) ?_;unfold Builtin.«len»;refine mU (m:=oneArg "len" _)<|nk<|mU (m:=callSpecial? (.ref c)<|Str.ofString "__len__") ?_;refine FK (name:=Str.ofString "__len__") y.typeIs F.slot_dict_len<|zd F.slot_dict_len y.typeIs F.entry_dict_len (F.args_dict_len_1 _) (Zt6 (knd:=knd) c x) #[z,y,?_];change wpAny _ _ _ _ _ {s with toks:=s.toks+1};refine mU<|qt<|nk<|mU<|wpAny_letGo ?_;change wpAny _ _ (if((z.length:Nat):Int)<0 then _ else _) _ _ _;rw[ng (by lia)];change wpAny _ _ (if((z.length:Nat):Int) ≥ 2 ^ 63 then _ else _) _ _ _;rw[ng (by lia)];show mU<|wpAny_mkInt<|nk #[_,rfl,h]
end
def EN:lX V->Hp->VK->Prop:=λy H Q=>∃a z,y=[V.ref a]/\H a=some (.dT z)/\Q (.int z.length) H
def OF:Y5 X (.builtin "len") EN:=by
 intro i s z H g e Q I r h;obtain⟨a,x,rfl,p,q⟩:=h;obtain⟨u,rfl,o⟩:=Wr r;cases o;obtain⟨y,hd,n,l,j⟩:=MO I.hok p;have w:x.length=n.length:=nW l;refine Zxg hd j (by rw[<-w];rw[tR]at y;lia) ?_;rw[<-w];show#[.int _,H,I.tok _,#[_,rfl],q]
section
variable {prog:mn} {w:mj} {KT:Type} [DecidableEq KT] {knd:HeapKind prog w KT} {A:mo} {R:Result->md->Prop} {l d it:lZ} {tps:lX lZ} {qs:lX (KT×lZ×ma)} {h₀:mi}
def Ah(knd:HeapKind prog w KT)(h:mi)(tps:lX lZ)(qs:lX (KT×lZ×ma)):Prop :=
 Paired (λp (q:KT×lZ×ma)=>(∃o n,h.get? p=some o/\o.cls=.type "tuple"/\o.data=.seq (List.toArray [.ref q.2.1,q.2.2]) n)/\∃ok,h.get? q.2.1=some ok/\∀z:mi,z.get? q.2.1=some ok->knd.is z q.1 q.2.1) tps qs
def Ah.key(y:Ah knd h tps qs):∀q∈qs,∃ok,h.get? q.2.1=some ok/\∀h':mi,h'.get? q.2.1=some ok->knd.is h' q.1 q.2.1:=by
 unfold Ah at y
 induction y with
 | nil=>intro q z;cases z
 | cons r _ x =>
  intro q z;rcases oh.mp z with rfl|z
  ·show r.2
  ·show x q z
def TZ{h h':mi}{z:lX (KT×lZ×ma)}(x:h.DictOfH knd d z)(hd:∀o,h.get? d=some o->h'.get? d=some o)(u:∀y∈z,knd.is h' y.1 y.2.1):h'.DictOfH knd d z:=by
 obtain⟨o,s,r,q,p,n,j,_,i⟩:=x;show#[o,s,r,hd o q,p,n,j,u,i]
def Zja{Q:ma->md->Prop}{E:ma->md->Prop}(M:A.handled=none)(L:knd.room A.in1.in1)(J:s.heap.get? l=some {cls:=.type "list",data:=.seq (tps.map Value.ref).toArray n})(g:Ah knd s.heap tps qs)(I:(qs.map (·.1)).Nodup)(hsz:qs.length<=sizeLine)
  (h:∀h' Y dd,h'.DictOfH knd dd qs->dd=#v[s]->s.heap.get? dd=none->(∀b o,s.heap.get? b=some o->h'.get? b=some o)->Q (.ref dd) {s with heap:=h',toks:=Y}) :
  wpAny (model prog w) A (call (.type "dict") [.ref l]) Q E s:=by
 have is_:∀h':mi,(∀b o,s.heap.get? b=some o->h'.get? b=some o)->∀q∈qs,knd.is h' q.1 q.2.1:=λh' H q G=>by
  obtain⟨ok,D,U⟩:=g.key q G;show U h'<|H _ _ D
 refine Oh (Pd:=λi h=>h.DictOfH knd #v[s] (qs.take i)/\∀b o,s.heap.get? b=some o->h.get? b=some o) M J (λi p e=>?_) #[Heap.DictOfH.new s.heap,λb o z=>nZ _ z] (λi h h' a b c=>#[TZ a.1 b λy j=>is_ h' c y<|Aj j,c]) λh' Y dd e u=>?_
 ·obtain⟨q,x,⟨C,B,O1,p,O3⟩,_⟩:=Paired.get g e;have c:q∈qs:=pi x;refine#[_,_,C,B,O1,p,O3,λargs s' Q E u N=>wpAny_dictSet_heap (by rw[yN (by left)];show L) (is_ _ u.2 q c) u.1 (λU a r=>N U _ #[?_,?_] r) ?_]
  ·have E9:atKey (qs.take i) q.1=none:=by
    cases e:atKey (qs.take i) q.1 with
    | none=>rfl
    | some z =>
     unfold atKey at e;obtain⟨y,j,_⟩:=oo.mp e;have y0:=List.find?_some j;have y1:y.1=q.1:=pL y0;have N:y.1∈(qs.map (·.1)).take i:=by rw[<-wc];show nH.mpr #[y,List.mem_of_find?_eq_some j,rfl]
     rw[y1]at N;show absurd N (DN I<|by rw[nU,x];rfl)
   rw[show storedH (qs.take i) q.1 q.2.1 q.2.2=qs.take (i+1)from by rw[storedH_new E9,oH,x];rfl]at a;show a
  ·show λb o z=>by rw[r.2 _ (oi<|nS z)];show u.2 b o z
  ·rw[oF];lia
 ·subst e;rw[show qs.take tps.length=qs from uC (by rw[nW g];show nK _)]at u;show h h' Y _ u.1 rfl
end
def Jy:lX V->Hp->VK->Prop:=λx H Q=>∃(l:lZ)(y:lX lZ)(z:lX (lX nI×V)),x=[.ref l]/\H l=some (.lst<|y.map V.ref)/\
 Paired (λt (q:lX nI×V)=>∃a,H t=some (.tup [.ref a,q.2])/\H a=some (.tup<|q.1.map kV)) y z/\(z.map fst).Nodup/\pG H (.dT z) Q
def Zub(hc:X.calm=true)(hu:X.A.units+64<cLine):Y5 X (.type "dict") Jy:=by
 intro c7 s z H xs us Q I r h;obtain⟨l,j,x,rfl,hl,d,hn,q⟩:=h;obtain⟨u,rfl,ru⟩:=Wr r;cases ru;obtain⟨hz,c8,n,c,hg⟩:=(show Z7 X.prog X.w H s.heap l (.lst<|j.map V.ref)from I.hok l _ hl)
 rw[wp c]at hg;have key:∀{j:lX lZ}{x:lX (lX nI×V)},Paired (λt (q:lX nI×V)=>∃a,H t=some (.tup [.ref a,q.2])/\H a=some (.tup<|q.1.map kV)) j x->∃w,KT H x w/\Ah (tupleKind<|Z4 X.prog X.w) s.heap j w:=by
  intro j x d
  induction d with
  | nil=>show#[[],.nil,.nil]
  | cons r t Y =>
   rename_i p q _ _;obtain⟨w,h1,h2⟩:=Y;obtain⟨a,ra,rk⟩:=r;obtain⟨_,c8,c,o,ho,w9,m,hd⟩:=(show Z7 X.prog X.w H s.heap p (.tup [.ref a,q.2])from I.hok p _ ra)
   obtain⟨k,v,rfl,U,N⟩:=wn c;cases(show k=Value.ref a from U);obtain⟨_,M0,r2,o2,M,g,m2,L⟩:=(show Z7 X.prog X.w H s.heap a (.tup<|q.1.map kV)from I.hok a _ rk)
   show#[(q.1,a,v) ::w,.cons #[rfl,rk,N] h1,.cons #[#[o,m,ho,w9,hd],o2,M,λh' e=>#[o2,_,m2,e,g,L,by simpa using Ef r2]] h2]
 obtain⟨w,G,E⟩:=key d;have D:x.length=w.length:=nW G;have N2:x.length<=sizeLine:=by
  have:=nW d;rw[mV]at hz;lia
 have O4:(w.map (·.1)).Nodup:=by
  have:∀{x:lX (lX nI×V)}{w:lX (lX nI×lZ×ma)},KT H x w->w.map (·.1)=x.map fst:=by
   intro x w y
   induction y with
   | nil=>rfl
   | cons r t Y=>rw[oq,oq,Y,r.1]
  rw[this G];show hn
 refine Zja (knd:=tupleKind<|Z4 X.prog X.w) (I.ok.hd hc) (yb (A:=X.A.in1)<|by change X.A.units+1+1<cLine;lia) hg E O4 (by rw[<-D];show N2) λh' A2 i hD C S6 k=>?_
 have B:i≠sysModules:=λy=>by
  have hb:=I.big;rw[<-C,y]at hb;show rf _ hb
 have hH0:H i=none:=by
  cases e:H i with
  | none=>rfl
  | some u =>
   obtain⟨ob,y⟩:=(I.hok i u e).there;rw[S6]at y;cases y
 obtain⟨o,es,ep,e1,e2,e3,e4,_,e5⟩:=hD;obtain⟨hH,J⟩:=I.laidAt (t':=A2) (o:=.dT x) k S6 (show Z7 X.prog X.w (mT H i<|.dT x) h' i (.dT x)from#[N2,sO.mpr B,w,G.keeps λb ys e=>by rw[Zd (Ze e hH0)];show e,o,es,ep,e1,e2,e3,e4,e5]);show#[.ref i,_,J,rfl,q.at i hH]
section
variable {E:ma->md->Prop} {κ:KeyKind} {kd:SortKind}
def Lts(prog:mn)(w:mj)(A:mo)(s:md)(κ:KeyKind)(kd:SortKind):Prop :=
 ∀(x y:ma)(a b:κ.α)(u:ma->md->Prop)(z:Bool->md->Prop),κ.keyOf x=some a->κ.keyOf y=some b->a≠b->z (κ.blt a b) s->wpAny (model prog w) A (keyLt' kd x y) z u s
def RE(κ:KeyKind)(o:Array Keyed):Prop:=(o.toList.map λp=>κ.keyOf p.1).Nodup
variable (hL:Lts prog w A s κ kd) (k:KeysOf κ o) (d:RE κ o)
include hL k d
end
end L2
end
section
namespace L2
open PySem PyProof.Rows
section
variable {prog:mn} {w:mj} {A:mo} {E:ma->md->Prop} {s:md} {o:Array Keyed} {kd:SortKind} {p:Array (Nat×Nat×Nat)} {st:SortSt}
def zp(prog:mn)(w:mj)(A:mo)(s:md)(kd:SortKind)(o:Array Keyed):Prop :=
 ∀x∈o,∀y∈o,∀(u:ma->md->Prop)(z:Bool->md->Prop),(∀b,z b s)->wpAny (model prog w) A (keyLt' kd x.1 y.1) z u s
variable (L:zp prog w A s kd o)
include L
omit L
variable {a b out:Array Keyed} {x y z:lX Keyed} {v:Keyed}
omit L in
omit L in
include L
omit L
include L
omit L in
end
end L2
end
section
namespace L2
open PySem PySem.Spec PyProof.Rows
open Classical in
def xM(z:lX (lY×lZ))(H:Hp):Hp:=λb=>if ∃x,z.lookup x=some b then none else H b
def SA(h:z.lookup x=some b):xM z H b=none:=nj #[x,h]
def xI(h:∀x,y.lookup x≠some b):xM y H b=H b:=ng λ⟨x,z⟩=>h x z
def Kx :mK (xM y H) H:=λb o e=>by
 unfold xM at e
 by_cases z:∃x,y.lookup x=some b
 ·rw[nj z]at e;cases e
 ·rw[ng z]at e;show e
variable {X:Cx}
def Eb(I:mS X w z H s)(h:X.env.cells.lookup x=some c):∃o v,rh X.env.cells H s.heap c=some (Fz o)/\s.heap.get? c=some o/\o.data=.cell v:=by
 obtain⟨v,o,y,hd⟩:=I.cell x c h;refine#[o,v,?_,y,hd];unfold rh;rw[nj #[x,h],y];rfl
def mS.noC(I:mS X u z H s)(w:∀x,X.fn x=true)(h:X.mw.heap.get? b=some o)(x:lY):X.env.cells.lookup x≠some b:=λy=>absurd (pF (nS h)<|I.ok.cab x b (w x) y)<|rf _
def mS.env0C(I:mS X n z H s)(r:∀x,X.fn x=true):ud X.prog X.w X.K X.mg X.mM X.A X.stack s (rh X.env.cells H s.heap):=by
 have E:=I.env0;refine#[E.frames,E.mod,λb o e=>#[(E.bs b o e).1,?_],E.bsz,E.funs,λb p=>?_,λb o e=>?_,E.bare]
 ·rw[xY λx=>I.noC r (I.ok.bs b o e).1 x];show(E.bs b o e).2
 ·rw[xY λx y=>?_]
  ·show E.frf b p
  ·rcases oh.mp (I.stkSub b p)with w|w
   ·show I.cne x b y w
   ·obtain⟨_,o,u,_⟩:=I.ok.funs.mem w;show I.noC r u x y
 ·by_cases y:∃x,X.env.cells.lookup x=some b
  ·obtain⟨x,y⟩:=y;obtain⟨l,v,q,u,j⟩:=Eb I y;rw[q]at e;cases e;show#[u,u,_,u]
  ·rw[xY λx w=>y #[x,w]]at e;show(I.hok b o e).stay (λ_ _ _ q=>q) (λc q=>Xd I q) (λc u q=>Xd I q) (λc o q=>Xd I q) (λc o q=>Xd I q)
def CE.lend(I:mS X D z H s)(h:CE X.stack X.prog X.w (rh X.env.cells H s.heap) s Q u s'):CE X.stack X.prog X.w H s (λv M=>∃j,M=xM X.env.cells j/\(∀x c o,X.env.cells.lookup x=some c->s.heap.get? c=some o->j c=some (Fz o))/\Q v j) u s':=by
 obtain⟨v,j,os,d,un,g,r,q⟩:=h;have frz:∀x c o,X.env.cells.lookup x=some c->s.heap.get? c=some o->j c=some (Fz o):=λx c o L J=>by
  obtain⟨E,w,i,l,_⟩:=Eb I L;rw[J]at l;cases l;show un.frzs c _ _ i
 have Y:∀{b:lZ}{o:HO},H b=some o->∀x,X.env.cells.lookup x≠some b:=λe x y=>by rw[I.freeC x _ y]at e;cases e
 have ad:∀{b:lZ},(∀x,X.env.cells.lookup x≠some b)->H b=none->rh X.env.cells H s.heap b=none:=λy n=>by rw[xY y];show n
 refine#[v,xM X.env.cells j,os,d,#[λb o i l U a=>?_,λb o i l U a=>?_,λb o i l a=>?_,un.there,λb N e=>?_,λb o u e=>?_,λb G e=>?_],λb o e=>?_,r,j,rfl,frz,q]
 ·by_cases y:∃x,X.env.cells.lookup x=some b
  ·obtain⟨x,y⟩:=y;show(g b _<|frz x b o y i).1
  ·show un.keep b o i (ad (λx p=>y #[x,p]) l) U a
 ·by_cases y:∃x,X.env.cells.lookup x=some b
  ·obtain⟨x,y⟩:=y;show#[o.slots,(g b _<|frz x b o y i).1]
  ·show un.slot b o i (ad (λx p=>y #[x,p]) l) U a
 ·by_cases y:∃x,X.env.cells.lookup x=some b
  ·obtain⟨x,y⟩:=y;show SA y
  ·rw[xI λx p=>y #[x,p]];show un.free b o i (ad (λx p=>y #[x,p]) l) a
 ·rw[xI (Y e)];show un.tups b N<|Xd I e
 ·rw[xI (Y e)];show un.frzs b o u<|Xd I e
 ·obtain⟨m,y⟩:=un.tbls b G<|Xd I e;show#[m,by rw[xI (Y e)];show y]
 ·have soft:∀{c:lZ}{o:HO},j c=some o->(∀E,o≠Fz E)->xM X.env.cells j c=some o:=λ{c o} y n=>by
   rw[xI]
   ·show y
   ·intro x p;obtain⟨_,w,_,l,_⟩:=Eb I p;rw[frz x c _ p l]at y;cases y;show n _ rfl
  show(g b o<|Kx b o e).stay (λ_ _ _ q=>q) (λc q=>soft q λ_ y=>nomatch y) (λc N q=>soft q λ_ y=>nomatch y) (λc o q=>soft q λ_ y=>nomatch y) (λc o q=>soft q λ_ y=>nomatch y)
def Ek(X:Cx)(z:St)(H:Hp)(S:Hp->VK->Prop)(Q:VK):Prop:=∀w,mK H w->(∀(i:Nat)(x:lY)(v:V)(c:lZ),X.N[i]? =some x->z[i]? =some (some v)->X.env.scope.names.lookup x=some .cell->X.env.cells.lookup x=some c->H c=none/\CellAt w c v)->
 S w λv s=>∀y,mK y s->(∀b u o,H b=some u->s b=some o->y b=some o)->(∀b o,s b=some o->(∀x,o≠Fz x)->y b=some o)->Q v y
def XU(F:Xm X.prog X.w X.K X.mg X.mM ph k f fd ps j)(g:Y0 k X.A)(d:∀x,X.fn x=true)(a:qG X.K fd ps [])
  (I:mS X Y z H s) (r:Ya vs us) (h:Ek X z H (λU N=>j vs U N E0) Q):∅ (call (.ref f) us) (EP X Y z Q) X.xe s:=by
 have h:=h (rh X.env.cells H s.heap) (λb o e=>Xd I e) λi x v c M l L J=>Iz I M l L J
 have G:us.length=ps.length:=by rw[<-r.length];show F.len _ _ _ _ h
 have b:=a s us I.kIn (by rw[pO];show G);rw[pO]at b;refine ul<|uh (F.run X.A X.stack s _ #[us,[]] us vs _ E0 g (I.env0C d) b r h) λr y p=>?_;cases r with
 | error e=>show False.elim p
 | ok E =>
  cases E with
  | ret u =>
   obtain⟨v,y,D,C,w,B,frz,q⟩:=I.after<|CE.lend I p;subst B;refine#[v,_,D,C,q _ Kx (λb u o e A=>?_) λb o e n=>?_]
   ·rw[xI λx y=>by rw[I.freeC x b y]at e;cases e];show A
   rw[xI]
   ·show e
   ·intro x y;obtain⟨_,w,_,l,_⟩:=Eb I y;rw[frz x b _ y l]at e;cases e;show n _ rfl
  | next=>show False.elim p
  | brk=>show False.elim p
  | cont=>show False.elim p
def Yf8(X:Cx)(y:Sp)(t:TA):TE:=λz H Q=>t z H λx w=>Ek X z w (λu s=>y x u s E0) Q
def zh(F:Xm X.prog X.w X.K X.mg X.mM ph k f fd ps u)(o:Y0 k X.A)(n:∀x,X.fn x=true)(l:Gl X x)(j:X.mg x=some (.ref f))(i:keepIn X.K (.ref f)=true)(g:qG X.K fd ps [])
  (d:PA X (e ::y) t) (c:(x ==("__debug__":lY))=false:=by lk) (a:starEach (e ::y) X.env=(false,eval e X.env) ::starEach y X.env:=by rfl) (Y:(backTo pos<|starEach y X.env).any (·.1)=false:=by rfl) :
  PE X (.Call (.Name x p) (e ::y) [] pos) (Yf8 X u t):=by
 intro U s z H Q I h;refine uE<|xk I l j ?_ c;refine AQ (h₀:=X.mM) I.ok.mod.kin i (ny (d pos U s z H _ I h) λN M ⟨L,J,w,r,q⟩=>#[w.kIn,?_]) a Y;show XU F o n g w r q
def XW(X:Cx)(Pt:lZ)(s:Arguments)(r:ml)(q:Scope)(u:Pos)(z:lX (lY×lZ)):TE:=λ_ H Q=>∃y,H Pt=some (.tbl<|Xi y)/\(u.line,u.col,X.env.qual++"<lambda>")∈y/\∀x w,mK H w->H x=none->Clo w Pt x (X.env.qual++"<lambda>") s r q z->Q (.ref x) w
def yn(q:X.env.code=.ref c)(p:PySem.W.codeHdIn X.K c Pt=true)(o:defaultsOf x X.env=([],[]):=by rfl)(n:closureFor w X.env=pure y:=by rfl):PE X (.Lambda x l w j) (XW X Pt x l w j y):=by
 intro M s z H Q I h;obtain⟨i,g,e,d⟩:=h;show Nf I o q (Gp I.ok.mod.kin p) g e n λu r L a Y U N=>#[.ref u,r,a,rfl,d u r Y U N]
section
variable {P:mn} {w:mj} {K:mf} {mg:lY->me ma} {mM:mi}
def qX.okL{x qual:lY}{st:mh}{f Pt:lZ}{fd:mq}{N ps:lX lY}{k:Nat}{z:Sp}(F:qX K x qual st f fd)(L:uj K fd Pt)(S:Zy N ps (Zj st))
  (r:∀(c:lZ)(A:mo)(y:lX Env)(s:md)(H:Hp)(vs:lX V)(Q:VK)(E:XK),PySem.W.codeHdIn K c Pt=true->Y0 k (A.deeper<|envOfC qual (Zj st) #v[s] f (.ref c))->z vs H Q E->
   let X:=(W8 ph P w K mg mM N qual (Zj st) f (.ref c) A y s H E).nox;let D:qj:={nx:=λ_ q=>Q .non q,rt:=Q};WSs X (Y1 st) D (start N vs) H) (len:∀vs H Q E,z vs H Q E->vs.length=ps.length:=by bv_omega):Xm P w K mg mM ph (k+1) f fd ps z:=by
 obtain⟨i,h,kV,g,e,d,p,a,Y,rfl,lk,o⟩:=F.ex;obtain⟨c,u,n⟩:=L;have u:p=.ref c:=u;subst u;refine Dj lk o S len λA y s H vs Q E l j=>?_
 show#[_,qV.nox Zo,r c A y s H vs Q E n l j]
end
def kD:nI->PyData
 | .inl i=>.int i
 | .inr x=>.str x
mutual
inductive Rp(H:Hp):PyData->V->Prop
 | str (x:Str):Rp H (.str x) (.str x)
 | bl (b:Bool):Rp H (.bool b) (.bl b)
 | int (i:Int):Rp H (.int i) (.int i)
 | lst {a:Addr} {xs:List V} {ds:List PyData}:H a=some (.lst xs)->qM H ds xs->Rp H (.list ds) (.ref a)
 | tup {a:Addr} {xs:List V} {ds:List PyData}:H a=some (.tup xs)->qM H ds xs->Rp H (.tuple ds) (.ref a)
 | dk {a:Addr} {kvs:List (nI×V)} {ds:List PyData}:H a=some (.dK kvs)->qM H ds (kvs.map snd)->Rp H (.dict<|(kvs.map λp=>kD p.1).zip ds) (.ref a)
inductive qM(H:Hp):List PyData->List V->Prop
 | nil:qM H [] []
 | cons {d:PyData} {v:V} {ds:List PyData} {vs:List V}:Rp H d v->qM H ds vs->qM H (d ::ds) (v ::vs)
end
def qM.length{ds:lX PyData}{vs:lX V}(h:qM H ds vs):ds.length=vs.length:=by
 induction ds generalizing vs with
 | nil=>cases h;rfl
 | cons d _ t=>cases h with|cons _ h=>show oY Nat.succ<|t h
def XV(e:vR k u=true):Reads h u (kD k) []:=by
 rcases Xb e with⟨i,t,rfl,rfl⟩|⟨x,t,rfl,rfl⟩
 ·show .int i t
 ·show .str x t
def Sc{z:lX DictEntry}{kvs:lX (nI×ma)}(g:Pairs (Z4 P w) z kvs):ReadsAll h (z.map (·.key)) (kvs.map λp=>kD p.1) []:=by
 induction g with
 | nil=>show .nil
 | cons y _ _ x=>show ReadsAll.cons (as:=[]) (bs:=[]) (XV y) x
def Zt0{z:lX DictEntry}{kvs:lX (nI×ma)}(h:Pairs (Z4 P w) z kvs):z.map (·.val)=kvs.map snd:=by
 induction h with
 | nil=>rfl
 | cons u y _ x=>rw[oq,oq,y,x]
def Ru(h:KV kvs vs):Ya (kvs.map snd) (vs.map snd)/\(vs.map λp=>kD p.1)=kvs.map λp=>kD p.1:=by
 induction h with
 | nil=>show#[.nil,rfl]
 | cons r t z=>show#[.cons r.2 z.1,by rw[oq,oq,z.2,r.1]]
mutual
theorem Rp.reads(I:mS X E z H s):∀{d:PyData}{v:V}{u:ma},Rp H d v->Yg v u->∃as,Reads s.heap u d as/\∀a∈as,∃o,H a=some o
 | _,_,u,.str x,r=>by
  obtain⟨t,rfl⟩:=(show ∃t,u=Value.str x t from r)
  show#[[],.str x t,λ_ y=>nomatch y]
 | _,_,u,.bl b,r=>by
  obtain rfl:u=Value.bool b:=r;show#[[],.bool b,λ_ y=>nomatch y]
 | _,_,u,.int i,r=>by
  obtain⟨t,rfl⟩:=(show ∃t,u=Value.int i t from r)
  show#[[],.int i t,λ_ y=>nomatch y]
 | _,_,u,.lst (a:=a) (xs:=j) e h,r=>by
  obtain rfl:u=Value.ref a:=r;obtain⟨_,Y,n,g,w⟩:=(show Z7 X.prog X.w H s.heap a (.lst j)from I.hok a _ e)
  obtain⟨as,q,l⟩:=qM.reads I h g;show#[a ::as,.list w rfl rfl q,λb c=>(oh.mp c).elim (λy=>#[_,(oY H y).trans e]) (l b)]
 | _,_,u,.tup (a:=a) (xs:=j) e h,r=>by
  obtain rfl:u=Value.ref a:=r;obtain⟨_,Y,g,o,w,x,m,hd⟩:=(show Z7 X.prog X.w H s.heap a (.tup j)from I.hok a _ e)
  obtain⟨as,q,l⟩:=qM.reads I h g;show#[as,.tuple w x hd q,l]
 | _,_,u,.dk (a:=a) (kvs:=x) (ds:=n) e h,r=>by
  obtain rfl:u=Value.ref a:=r;obtain⟨_,_,D,U,o,C,B,w,Q,hd,_,i,_⟩:=(show Z7 X.prog X.w H s.heap a (.dK x)from I.hok a _ e)
  obtain⟨N,M⟩:=Ru U;obtain⟨as,q,l⟩:=qM.reads I h N;have L:=h.length;rw[mV]at L;have J:((x.map λp=>kD p.1).zip n).map fst=x.map λp=>kD p.1:=List.map_fst_zip (by rw[mV];lia)
  have G:((x.map λp=>kD p.1).zip n).map snd=n:=List.map_snd_zip (by rw[mV];lia);refine#[a ::[]++as,.dict w Q.1 hd ?_ ?_,λb c=>?_]
  ·rw[J,<-M];show Sc i
  ·rw[G,Zt0 i];show q
  ·rcases oh.mp c with y|y
   ·show#[_,(oY H y).trans e]
   ·show l b y
theorem qM.reads(I:mS X n z H s):∀{ds:lX PyData}{vs:lX V}{us:lX ma},qM H ds vs->Ya vs us->∃as,ReadsAll s.heap us ds as/\∀a∈as,∃o,H a=some o
 | _,_,_,.nil,r=>by
  cases r;show#[[],.nil,λ_ y=>nomatch y]
 | _,_,_,.cons h t,r=>by
  cases r with
  | cons r y =>
   obtain⟨as,x,w⟩:=Rp.reads I h r;obtain⟨bs,u,q⟩:=qM.reads I t y;show#[as++bs,.cons x u,λb p=>(oO.mp p).elim (w b) (q b)]
end
def yZ:lX V->Hp->VK->Prop:=λz H Q=>∃(a:lZ)(d:PyData),z=[.ref a]/\Rp H d (.ref a)/\d.showable=true/\d.depth<=60/\d.shown.length<=sizeLine/\Q (.str d.shown) H
def Ax(y:∃x,X.mM.Ns sysModules x)(w:X.A.guards=some [])(N:X.A.units+64<cLine):Y5 X (.builtin "repr") yZ:=by
 intro M s z H L J Q I r h;obtain⟨a,d,rfl,p,n,hd,l,q⟩:=h;obtain⟨u,rfl,j⟩:=Wr r;cases j;obtain⟨o,i,g⟩:=p.reads I (u:=.ref a) rfl;refine repr_of_reads' i n (λ_ c=>?_) w (by lia) (λ_ _ e=>e) (λY u U y=>?_) l
 ·obtain⟨o,e⟩:=g _ c;obtain⟨x,o,d,G,y,_⟩:=y;rw[(I.bs _ _ y).2]at e;cases e
 ·show#[.str _,H,I.un (h':=Y) (t':=U) (Un.kept y)<|I.hok.kept y,#[_,rfl],q]
def VR{P:mn}{w:mj}{K:mf}{L mb:lY->me ma}{k:Nat}{fa a:lZ}{fd:mq}{x:lY}{l:md}{vs:lX ma}{ns:lX Int}{tabs:lX (lZ×Array ma)}
  (KX:K.In l.heap) (A7:l.heap.Ns mainGlobals L) (Y:l.heap.Ns builtinsNs mb) (hbb:∀x:lY,x≠ "__name__"->mb x=bootBuiltins x) (I:l.heap.NoLimit) (hbm:JV L l.heap) (hg:l.gens=#[])
  (G:l.heap.get? a=some {cls:=.type "list",data:=.seq vs.toArray}) (hi:IntsAre vs ns) (hl:ns.length<=63) (hr:Y0 k callerA) (TO:CB K l.heap tabs)
  (hsm:∃mm,l.heap.Ns sysModules mm) (F:∀mM:mi,K.In mM->mM.Ns mainGlobals L->(∃mm,mM.Ns sysModules mm)->Xm P w K L mM ph k fa fd [x] (yR K tabs)) (M:∀(s:md)(u:ma),BindsTo s fd #[[u],[]] [(x,u)]) :
  codeAny (model P w) callerA (.call (.ref fa) #[[.ref a],[]]) (λr s'=>r=.ok (.ret<|.bool true)/\OldK l.heap s'.heap/\s'.os=l.os/\AllBare s'.gens) l:=by
 have rv:=Zwn hi;have E:=hi.length;have D:ns.length<=sizeLine:=oy hl (by lk);have i:∀{b:lZ}{j:Array ma},tabs.lookup b=some j->l.heap.get? b=some (PySem.W.tabObj #[]):=λe=>TO.emp _<|BL e
 have core:∀H:Hp,SqL K H a (ns.map V.int)->oz P w H l.heap->(∀b u,H b=some u->(b=a/\K.lookup a=none/\∃o xs,u=.frz o (.lst xs))\/∃j,tabs.lookup b=some j/\u=.tbl j)->(∀p∈tabs,H p.1=some (.tbl p.2))->
   codeAny (model P w) callerA (.call (.ref fa) #[[.ref a],[]]) (λr s'=>r=.ok (.ret<|.bool true)/\OldK l.heap s'.heap/\s'.os=l.os/\AllBare s'.gens) l:=by
  intro H hS C hA hT;have M4:∀{b:lZ}{o:Obj},l.heap.get? b=some o->H b=none->(vJ l.heap H).get? b=some o:=λe n=>Zy3 e n
  have B:∀{b:lZ}{o:Obj},l.heap.get? b=some o->(∀vs n,o.data≠.seq vs n)->(∀vs,o.data≠.fields vs)->H b=none:=λ{b o} e d1 d2=>by
   cases q:H b with
   | none=>rfl
   | some u =>
    rcases hA b u q with⟨Q,_⟩|⟨j,Q,_⟩
    ·subst Q;rw[G]at e;cases e;show absurd rfl<|d1 _ _
    ·rw[i Q]at e;cases e;show absurd rfl<|d2 _
  have U:∀{b:lZ}{m:lY->me ma},l.heap.Ns b m->(vJ l.heap H).Ns b m:=λ{b m} ⟨o,es,ep,e,d,r⟩=>#[o,es,ep,M4 e (B e (λ_ _ z=>by rw[d]at z;cases z) λ_ z=>by rw[d]at z;cases z),d,r]
  have A:K.In (vJ l.heap H):=λb o e=>M4 (KX b o e) (by
   cases q:H b with
   | none=>rfl
   | some u =>
    rcases hA b u q with⟨Q,y,_⟩|⟨j,Q,_⟩
    ·subst Q;rw[y]at e;cases e
    ·have g:=KX b o e;rw[i Q]at g;cases g;have h2:=wo.mp TO.nt _<|PySem.W.mem_of_lookupK e;show absurd (show false=true from h2) oK)
  have hM:Mod K L (vJ l.heap H):=#[A,U A7,#[mb,U Y,hbb],let⟨mc,g,h2⟩:=I;#[mc,U g,h2],by
   obtain⟨bm,ob,b1,b2,c,b4,b5,y⟩:=hbm;show#[bm,ob,b1,b2,M4 c (B c (λ_ _ z=>by rw[y]at z;cases z) λ_ z=>by rw[y]at z;cases z),b4,b5,y]]
  have e0:ud P w K L (vJ l.heap H) callerA [] l H:=#[rfl,hM,λb o e=>RL e,xr<|Zyf _ _,trivial,λb Y=>absurd (show b∈([]:lX lZ)from Y) (by simp),C,.of_eq hg]
  refine uh ((F _ A (U A7)<|hsm.imp λ_ z=>U z).run callerA [] l H #[[.ref a],[]] [.ref a] [.ref a] (λv _=>v=.bl true) E0 hr e0 (M l<|.ref a) (.cons rfl .nil) #[a,ns,rfl,hS,hl,hT,λ_=>rfl]) λr s' h=>?_
  cases r with
  | error e=>show False.elim h
  | ok fl =>
   cases fl with
   | next=>show False.elim h
   | brk=>show False.elim h
   | cont=>show False.elim h
   | ret u =>
    obtain⟨v,y,os,bare,un,N7,r',q⟩:=h;have q':v=.bl true:=q;subst q';obtain rfl:u=Value.bool true:=r';refine#[rfl,#[λb o e=>?_,λb o e=>un.there b o e<|by simp],os,bare];cases q:H b with
    | none=>show .inl (un.keep b o e q (by intro z;show absurd (show b∈([]:lX lZ)from z)<|by simp)<|by simp)
    | some u =>
     rcases hA b u q with⟨_,_,ob,xs,z⟩|⟨j,z,z2⟩
     ·subst z;have z2:=un.frzs b ob _ q;obtain⟨y,_⟩:=C b _ q;obtain⟨c,_⟩:=N7 b _ z2;rw[e]at y;cases y;show .inl c
     ·subst z2;obtain⟨more,y⟩:=un.tbls b j q;have Q:=i z;rw[e]at Q;cases Q;obtain⟨c,hc⟩:=TO.cod _<|BL z;obtain⟨qs,y1,_⟩:=N7 b _ y;show .inr<|.inl #[((Gp KX hc).tab e).isCodeTable,rfl,#[],qs,rfl,by rw[y1];simp]
 have tabH:∀p∈tabs,p.1≠a:=λp J z=>by
  have:=TO.emp p J;rw[z,G]at this;cases this
 have N:∀{H:Hp}{b:lZ}{j:Array ma},tabs.lookup b=some j->Z7 P w H l.heap b (.tbl j):=λ{H b j} e=>by
  obtain⟨ls,hq,nd⟩:=TO.shape _<|BL e;have hq:j=Xi ls:=hq;subst hq;show#[_,i e,.inr #[ls,[],rfl,nd,rfl,λ_ z=>nomatch z]]
 cases hk:K.lookup a with
 | some o =>
  have e:=KX a o hk;rw[G]at e;cases e;refine core (λb=>(tabs.lookup b).map HO.tbl) (.inr #[_,vs.toArray,_,hk,rfl,rfl,rfl,by rw[oM,E];show D,by simpa using rv]) (λb u z=>?_) (λb u z=>?_) λp J=>?_
  ·obtain⟨j,g,rfl⟩:=oo.mp z;show N g
  ·obtain⟨j,g,rfl⟩:=oo.mp z;show .inr #[j,g,rfl]
  ·change(tabs.lookup p.1).map HO.tbl=_;rw[Fl TO.nd J];rfl
 | none =>
  refine core (λb=>if b=a then some (.frz {cls:=.type "list",data:=.seq vs.toArray} (.lst<|ns.map V.int))else(tabs.lookup b).map HO.tbl) (.inl<|.inr #[{cls:=.type "list",data:=.seq vs.toArray},nj rfl]) (λb u z=>?_) (λb u z=>?_) λp J=>?_
  ·by_cases Y:b=a
   ·have y:=(nj Y).symm.trans z;cases y;subst Y;show#[G,by rw[mV];show D,vs,_,rv,G]
   ·have y:=(ng Y).symm.trans z;obtain⟨j,g,rfl⟩:=oo.mp y;show N g
  ·by_cases Y:b=a
   ·have y:=(nj Y).symm.trans z;cases y;show .inl #[Y,hk,_,_,rfl]
   ·have y:=(ng Y).symm.trans z;obtain⟨j,g,rfl⟩:=oo.mp y;show .inr #[j,g,rfl]
  ·change(if p.1=a then _ else _)=_;rw[ng (tabH p J),Fl TO.nd J];rfl
def walk_ofS{l:PySem.W.OpenLaw}{k:Nat}{q:mn}{g:lX lY}{e:(lY->me ma)->mi->Prop}{n:mj->mi->Prop}{d:DefRec}{K:Params->mf}{x:lY}
  (c:l.most=some 63) (j:d.params.defaults=[]) (U:Y0 k callerA) (Q:∀(w:mj)(h:mi),n w h->(K w.params).In h)
  (F:∀(w:mj)(y:lY->me ma)(p:lZ)(h:mi),n w h->(K w.params).In h->h.Ns mainGlobals y->y d.name=some (.ref p)->
   ∃(fd:mq)(tabs:lX (lZ×Array ma)),CB (K w.params) h tabs/\(∀(s:md)(u:ma),BindsTo s fd #[[u],[]] [(x,u)])/\
    ∀mM:mi,(K w.params).In mM->mM.Ns mainGlobals y->(∃N,mM.Ns sysModules N)->Xm l.prog w (K w.params) y mM ph k p fd [x] (yR (K w.params) tabs)) (M:importsNone q=true) :
  PySem.W.WalkO q g e n l.row.toRowW d [] (λf vs=>PySem.call f vs):=by
 refine Att.attach_call c j λw D C y B p o A cd A4 a vs ns G Y ho hd E6 i r L J I=>?_
 have KX:=Q w _ Y;obtain⟨fd,tabs,TO,H,E⟩:=F w y p _ Y KX G.T.g i;show VR KX G.T.g G.T.b G.T.builtins G.T.nolimit G.T.bmain I r L J U TO ((G.T.seer M).mods.imp λ_ z=>z.1) E H
def YT:V->lX V->Hp->VK->Prop:=λx z H Q=>∃(l:lZ)(bs:lX Bool)(b:Bool)(j:Nat),x=.ref l/\z=[.bl b]/\H l=some (.lst<|bs.map V.bl)/\j<1000/\bs[j]? =some b/\(∀i,i<j->bs[i]? ≠some b)/\Q (.int (j:Nat)) H
def Us:Am X "list.index" YT:=by
 intro J s z H x G v E Q I d a h;obtain⟨l,bs,b,j,rfl,rfl,Y,y,U,N,q⟩:=h;cases d;obtain⟨u,rfl,M⟩:=a.one;cases M;obtain⟨y,u,n,r,c,e⟩:=I.lstM Y;obtain rfl:=GC r;obtain⟨L,p⟩:=pz.mp U;refine zf F.slot_list_index #[_,e,rfl] F.entry_list_index (F.args_list_index_2 _ _) (SeqAt.list_indexAt l _ n _ _ (.bool b) (Bf b) j (by simpa using L) (by lia) ?_ λm o i=>?_) #[e,λw g=>?_,#[.int _,H,I.tok _,#[_,rfl],q]]
 ·simp[Bf,p]
 ·have o:m<bs.length:=by simpa using o
  have:=N m i;rw[oR o]at this;simpa[Bf]using this
 ·have g:w∈bs.map Value.bool:=by simpa using g
  obtain⟨c,_,rfl⟩:=nH.mp g;show GN c b
def Hw(P:mn)(w:mj)(K:mf)(y:lY->me ma)(mM:mi)(k:Nat)(f:lZ)(H:Hp)(Q:VK)(E:XK):Prop :=
 ∀(A:mo)(z:lX Env)(s:md),Y0 k A->ud P w K y mM A z s H->codeAny (model P w) A (.call (.ref f) #[[],[]]) (CR (ou P w) z P w H s Q E) s
def VY(P:mn)(w:mj)(K:mf)(u:lY->me ma)(mM:mi)(k:Nat)(E:XK)(s:TE):TE:=λz H Q=>s z H λx y=>∃f,x=.ref f/\wf y f/\Hw P w K u mM k f y Q E
def Ub(l:Y0 k X.A)(j:PE X (.Name x p) i)(g:tO (ou X.prog X.w) X E):PE X (.Call (.Name x p) [] [] pos) (VY X.prog X.w X.K X.mg X.mM k E i):=by
 intro o s z H Q I h;refine uE<|ny (j o s z H _ I h) λu n d=>?_;obtain⟨y,c,q,a,f,Y,U,N⟩:=d;subst Y;obtain rfl:u=Value.ref f:=a;refine PySem.W.callWith_F0 (U.at q)<|ul<|uh (N X.A X.stack n l q.env0) λr M w=>?_;cases r with
 | error e=>show g o z c n e M q w
 | ok y =>
  cases y with
  | ret u=>show q.after w
  | next=>show False.elim w
  | brk=>show False.elim w
  | cont=>show False.elim w
section
variable {P:mn} {w:mj} {K:mf} {mg:lY->me ma} {mM:mi}
def CV(P:mn)(w:mj)(K:mf)(mg:lY->me ma)(mM:mi)(N:lX lY)(q:lY)(scope:Scope)(f:lZ)(y:ma)(z:lX (lY×lZ))(A:mo)(x:lX Env)(s:md)(H:Hp)(E:XK):Cx :=
 {Cg P w K mg mM N q scope f y z A x s H with xe:=λe r=>wpAny (model P w) (A.deeper<|PySem.W.envX q scope #v[s] f y z) (leaving (PySem.W.envX q scope #v[s] f y z) e) (λ_ u=>ou P w x H s E e u) (λp u=>ou P w x H s E p u) r}
def yy :tO (ou P w) (CV P w K mg mM N q scope f l x A j s H E) E:=by
 intro L z J G e i I h;obtain⟨g,cls,o,Y,rfl,os,u,un,r,⟨U,B,d,c⟩,a⟩:=h;have n:=I.call' os un r u (λb y=>absurd y<|by simp);change wpAny _ _ (leaving _<|.ref g) _ _ i;refine MS n.ok.frames rfl d λD p up=>?_
 show QS (X:=CV P w K mg mM N q scope f l x A j s H E) rfl rfl rfl n p up (λb o Y U Q=>c b o Y (U.imp_left λ⟨M,y⟩=>I.mM.there b M y<|by change b∉([]:lX lZ);simp) Q) a
def UL(C:Clo H Pt l q G I p x)(L:rK H p x fs fvs)
  (D:∀(pm d6 B2:ma),bindArgs (PySem.W.kla_fn "<lambda>" q G I p x pm d6 B2) #[[],[]]=pure []) (z9:∀y∈p.names,y.2=.free->y.1∈fs) (a:∀y∈p.names,y.2≠.cell)
  (hk:p.kind=.function) (Y:p.isCoroutine=false) (Q8:p.isGenerator=false)
  (body:∀(c:lZ)(A:mo)(j:lX Env)(s:md),Y0 k (A.deeper<|PySem.W.envX q p #v[s] l (.ref c) x)->
   WE (CV P w K mg mM fs q p l (.ref c) x A j s (offL H x) (λcls h u=>∀r,mK u r->(∀b∈x.map snd,r b=H b)->E cls h r)) I (fvs.map some) (offL H x) (λv u=>∀r,mK u r->(∀b∈x.map snd,r b=H b)->Q v r)):Hw P w K mg mM (k+1) l H Q E:=by
 intro A j s hr U;have GX:∀{u:Hp}{b:lZ},b∈x.map snd->rj H u x b=H b:=λ{u b} z=>by unfold rj;rw[nj z]
 have conv:∀{e:ma}{d:md},ou P w j (offL H x) s (λcls h u=>∀r,mK u r->(∀b∈x.map snd,r b=H b)->E cls h r) e d->ou P w j H s E e d:=λ{e d} h9=>by
  obtain⟨ea,cls,h,u,e1,os,g,JB,N,⟨a0,B,l,pB⟩,e2⟩:=h9;obtain⟨un,ok,M⟩:=Nj L U JB N;refine#[ea,cls,h,rj H u x,e1,os,g,un,ok,#[a0,B,l,λb o J z2 n=>pB b o J ?_ n],e2 _ M λb z=>GX z]
  by_cases y:b∈x.map snd
  ·obtain⟨_,_,J,_⟩:=L.isC y;show .inl #[_,(U.hok b _ J).1]
  ·refine z2.imp_right λn=>?_
   unfold rj at n;rw[ng y]at n;show n
 show KA (gs:=[]) (gvs:=[]) C L D (λy o=>nomatch o) rfl (λi y v o n=>by cases o) z9 a hk Y Q8 hr U (λc=>body c A j s) (λv u z M=>z _ M λb z=>GX z) λc e d hs=>pX hs (λ_ P0 z=>conv z) λe' P0 z=>conv z
end
end L2
end
section
namespace YM
open PySem L2 NM
def tV(c k:Int):Int:=((c+7919 * k) * 48271%2147483647) * ((c+7919 * k) * 48271%2147483647+2 * k+1)%2147483629
def RT(c k:Int):0<=tV c k:=qd _ (by lk)
def SN(c k:Int):tV c k<2147483629:=qr _ (by lk)
def zV(ns:lX Int)(k:Nat):Int:=match ns[k]? with
 | some c=>tV c k
 | none=>0
abbrev Zh:=lY×lY
def Yq(k:lY):lX lY:=if k ="points" then["stem","left","right"]else if k ="cross" then["a","b","c","d"]else if k ="plain" then["a","b"]else["a"]
def tN(i:Int):Nat:=qQ.getD i.toNat 0
def tJ(k:Nat):lY:=toString (k:Int)
def Yr(kind:lY)(c:Int)(k:Nat):lY:=if c%3=0 then#[(List.toArray [kind.cps.toList.getD 0 0])]++tJ k else(#[(List.toArray [tN (c / 3%26)])]++#[(List.toArray [tN (c / 78%26)])])++sr "0" (c / 2028%3).toNat++tJ k
def Db:∀k,k<100->(tJ k).length<=2:=by left
def GR{k:Nat}(h:k<100):(k:Int).natAbs.log2<1920:=by
 rw[Int.natAbs_natCast];refine Fy (Nat.log2_le_self k) (by lia)
def ve(a c:Nat):Nat:=if 48<=c/\c<=57 then a * 10+(c-48)else 0
def uf(s:lY):Nat:=s.cps.toList.foldl ve 0
def Gm:∀k,k<100->uf (tJ k)=k:=by left
def BX:∀k,k<100->0<(tJ k).length:=by left
def YA:∀m,m<3->(sr "0" m).cps.toList.foldl ve 0=0:=by left
def Yag:∀m,m<3->(sr "0" m).length=m:=by left
def VL:∀i,i<26->97<=qQ.getD i 0/\qQ.getD i 0<=122:=by left
def Kh{i:Int}(z:0<=i)(y:i<26):97<=tN i/\tN i<=122:=VL i.toNat (by lia)
def uP(x y:lY):(x++y).cps.toList=x.cps.toList++y.cps.toList:=yH x y
def wZ{kind:lY}{c:Int}{k:Nat}(y:57<kind.cps.toList.getD 0 0)(h:k<100):uf (Yr kind c k)=k:=by
 have z:∀a c,57<c->ve a c=0:=λa c h=>by unfold ve;rw[ng (by lia)]
 unfold Yr;split
 ·unfold uf;rw[uP,yW];change List.foldl ve (ve 0<|kind.cps.toList.getD 0 0) _=k;rw[z _ _ y];show Gm k h
 ·have u:=qd (c / 3) (show(26:Int)≠0 by lk);have s:=qr (c / 3) (show(0:Int)<26 by lk);have x:=qd (c / 78) (show(26:Int)≠0 by lk);have w:=qr (c / 78) (show(0:Int)<26 by lk);have r:=qd (c / 2028) (show(3:Int)≠0 by lk);have q:=qr (c / 2028) (show(0:Int)<3 by lk);unfold uf;rw[uP,uP,uP,yW,yW,yW];change List.foldl ve (List.foldl ve (ve (ve 0<|tN<|c / 3%26)<|tN<|c / 78%26) _) _=k;rw[z _ (tN<|c / 78%26) (by have:=Kh x w;lia),YA _<|by lia];show Gm k h
def yg{kind:lY}{c:Int}{k:Nat}(h:k<100):2<=(Yr kind c k).length:=by
 have:=BX k h;unfold Yr;split
 ·rw[qc];change 2<=1+_;lia
 ·rw[qc,qc,qc];change 2<=1+1+_+_;lia
def Zxv{kind:lY}{c:Int}{k:Nat}(h:k<100):(Yr kind c k).length<=6:=by
 have:=Db k h;unfold Yr;split
 ·rw[qc];change 1+_<=6;lia
 ·have z:=qd (c / 2028) (show(3:Int)≠0 by lk);have y:=qr (c / 2028) (show(0:Int)<3 by lk);rw[qc,qc,qc,Yag _<|by lia];change 1+1+_+_<=6;lia
def Yt(ps:lX Zh):lX Zh:=ps.flatMap λp=>(Yq p.1).map λe=>(p.2,e)
def Xp(z:lX (Zh×Zh)):lX Zh:=z.flatMap λj=>[j.1,j.2]
def Hz(a b:lX Zh):Yt (a++b)=Yt a++Yt b:=zi ..
def zB(a b:lX (Zh×Zh)):Xp (a++b)=Xp a++Xp b:=zi ..
def W7:lX lY:=["plain","points","cross","gate","stop"]
structure Net(ps:List Zh)(js:List (Zh×Zh))(opn:List Zh):Prop where
 perm:(Xp js++opn).Perm (Yt ps)
 nd:(ps.map snd).Nodup
 apart:∀j∈js,j.1.1≠j.2.1
 kind:∀p∈ps,p.1∈W7
inductive qD(n1 n2 n3 n4:Str):List Zh->List (Zh×Zh)->Zh->Zh->Prop
 | plain (a b:Str) (h:(a,b)∈[(("a":Str),("b":Str)),("b","a")]):qD n1 n2 n3 n4 [("plain",n1)] [] (n1,a) (n1,b)
 | loop (a b:Str) (h:(a,b)∈[(("left":Str),("right":Str)),("right","left")]):qD n1 n2 n3 n4 [("points",n1),("plain",n2),("plain",n3),("points",n4)] [((n1,"left"),(n2,"a")),((n1,"right"),(n3,"a")),((n2,"b"),(n4,a)),((n4,b),(n3,"b"))] (n1,"stem") (n4,"stem")
 | siding (x a b k:Str) (h:[x,a,b].Perm ["stem","left","right"]) (hk:k∈[("stop":Str),"gate"]):qD n1 n2 n3 n4 [("points",n1),("plain",n2),(k,n3)] [((n1,x),(n2,"b")),((n2,"a"),(n3,"a"))] (n1,a) (n1,b)
 | cross (k:Str) (hk:k∈[("gate":Str),"stop"]):qD n1 n2 n3 n4 [("cross",n1),("gate",n2),(k,n3)] [((n1,"c"),(n2,"a")),((n3,"a"),(n1,"d"))] (n1,"a") (n1,"b")
def Cd{z:Type}{d:z}{l m:lX z}(y:lX Nat)(h:y.Perm (List.range m.length))(e:l=y.map λi=>m.getD i d):l.Perm m:=by
 have x:((List.range m.length).map λi=>m.getD i d)=m:=by
  apply List.ext_getElem
  ·simp
  ·intro i u w;simp[ua,w]
 rw[e];show(h.map _).trans (by rw[x])
def qD.sub{z y x w:lY}{ps:lX Zh}{u:lX (Zh×Zh)}{a b:Zh}(h:qD z y x w ps u a b):(ps.map snd).Sublist [z,y,x,w]:=by
 cases h with
 | plain=>show .cons_cons _ (Dg _)
 | loop=>show List.Sublist.refl _
 | siding=>show .cons_cons _ (.cons_cons _<|.cons_cons _<|Dg _)
 | cross=>show .cons_cons _<|.cons_cons _<|.cons_cons _<|Dg _
def ye{k:lY}(z:k ="gate"\/k ="stop"):Yq k=[("a":lY)]:=by rcases z with rfl|rfl<;>decide +kernel
def PP:Yq "points"=[("stem":lY),"left","right"]:=by left
def BW:Yq "plain"=[("a":lY),"b"]:=by left
def RB:Yq "cross"=[("a":lY),"b","c","d"]:=by left
def qD.perm{z y w s:lY}{ps:lX Zh}{p:lX (Zh×Zh)}{a b:Zh}(h:qD z y w s ps p a b):(Xp p++[a,b]).Perm (Yt ps):=by
 cases h with
 | plain a b h =>
  simp only[oh,uV,qU,yz]at h;rcases h with⟨rfl,rfl⟩|⟨rfl,rfl⟩
  ·simp[Xp,Yt,BW]
  ·simp only[Xp,Yt,BW,List.flatMap_nil,FS,oq,uS,AC,pO];show yf _ _ _
 | loop a b h =>
  have r:Yt [("points",z),("plain",y),("plain",w),("points",s)]=([(z,"stem"),(z,"left"),(z,"right"),(y,"a"),(y,"b"),(w,"a"),(w,"b"),(s,"stem"),(s,"left"),(s,"right")]:lX Zh):=by simp[Yt,PP,BW]
  rw[r];simp only[oh,uV,qU,yz]at h;rcases h with⟨rfl,rfl⟩|⟨rfl,rfl⟩
  ·show Cd (d:=(z,z)) [1,3,2,5,4,8,9,6,0,7] (show List.Perm _ (List.range 10) by lk) rfl
  ·show Cd (d:=(z,z)) [1,3,2,5,4,9,8,6,0,7] (show List.Perm _ (List.range 10) by lk) rfl
 | siding x a b k h q =>
  have u:k ="gate"\/k ="stop":=by
   simp only[oh,uV,qU]at q;show q.symm
  have r:Yt [("points",z),("plain",y),(k,w)]=([("stem":lY),"left","right"].map λe=>(z,e))++([(y,"a"),(y,"b"),(w,"a")]:lX Zh):=by simp[Yt,PP,BW,ye u]
  rw[r];refine CC ?_<|CY _<|h.map λe=>(z,e);show Cd (d:=(z,z)) [0,4,3,5,1,2] (show List.Perm _ (List.range 6) by lk) rfl
 | cross k q =>
  have u:k ="gate"\/k ="stop":=by
   simp only[oh,uV,qU]at q;show q
  have r:Yt [("cross",z),("gate",y),(k,w)]=([(z,"a"),(z,"b"),(z,"c"),(z,"d"),(y,"a"),(w,"a")]:lX Zh):=by simp[Yt,RB,ye u,ye (k :="gate")<|.inl rfl]
  rw[r];show Cd (d:=(z,z)) [2,4,5,3,0,1] (show List.Perm _ (List.range 6) by lk) rfl
def qD.kind{w u s r:lY}{ps:lX Zh}{q:lX (Zh×Zh)}{a b:Zh}(h:qD w u s r ps q a b):∀p∈ps,p.1∈W7:=by
 cases h with
 | plain=>intro p z;simp at z;subst z;simp[W7]
 | loop=>intro p z;simp at z;rcases z with rfl|rfl|rfl|rfl<;>simp[W7]
 | siding x a b k h y=>intro p z;simp at z y;rcases z with rfl|rfl|rfl<;>rcases y with rfl|rfl<;>simp[W7]
 | cross k y=>intro p z;simp at z y;rcases z with rfl|rfl|rfl<;>rcases y with rfl|rfl<;>simp[W7]
def qD.apart{y w u s:lY}{ps:lX Zh}{r:lX (Zh×Zh)}{a b:Zh}(h:qD y w u s ps r a b)(q:[y,w,u,s].Nodup):∀j∈r,j.1.1≠j.2.1:=by
 simp only[pZ,oh,uV,qU,wH,sU,not_false_eq_true,uw,and_true]at q;obtain⟨⟨x,o,n⟩,⟨x,o⟩,l⟩:=q;cases h with
 | plain=>intro j z;cases z
 | loop=>intro j z;simp at z;rcases z with rfl|rfl|rfl|rfl<;>first|assumption|show oW (by assumption)
 | siding x a b k h p=>intro j z;simp at z;rcases z with rfl|rfl<;>first|assumption|show oW (by assumption)
 | cross k p=>intro j z;simp at z;rcases z with rfl|rfl<;>first|assumption|show oW (by assumption)
def qD.opens{z y x w:lY}{ps:lX Zh}{u:lX (Zh×Zh)}{a b:Zh}(h:qD z y x w ps u a b):a.1∈ps.map snd/\b.1∈ps.map snd:=by
 cases h<;>simp
def AW{ps:lX Zh}{e:Zh}(h:e∈Yt ps):e.1∈ps.map snd:=by
 obtain⟨p,z,y⟩:=vI.mp h;obtain⟨x,_,rfl⟩:=nH.mp y;show nH.mpr #[p,z,rfl]
def Net.more{ps:lX Zh}{u:lX (Zh×Zh)}{e:Zh}{s r q o:lY}{qs:lX Zh}{w:lX (Zh×Zh)}{a b:Zh}(h:Net ps u [e])(B:qD s r q o qs w a b)(l:[s,r,q,o].Nodup)(new:∀n∈[s,r,q,o],n∉ps.map snd):Net (ps++qs) (u++w++[(e,a)]) [b]:=by
 have i:e.1∈ps.map snd:=AW (h.perm.subset<|by simp);have g:a.1∉ps.map snd:=new _<|B.sub.subset B.opens.1;refine#[?_,?_,?_,?_]
 ·rw[zB,zB,Hz];refine CC ?_<|h.perm.append B.perm;change(Xp u++Xp w++[e,a]++[b]).Perm ((Xp u++[e])++(Xp w++[a,b]));rw[pp,pp,pp];refine CK _ ?_;change(Xp w++([e]++[a,b])).Perm ([e]++(Xp w++[a,b]));rw[<-pp,<-pp];show CY _ wD
 ·rw[nJ,qu];show#[h.nd,List.Pairwise.sublist B.sub l,λx p y j z=>new y (B.sub.subset j)<|z ▸ p]
 ·intro j x;rw[oO,oO]at x;rcases x with(z|z)|z
  ·show h.apart j z
  ·show B.apart l j z
  ·simp at z;subst z;show λy=>g<|y ▸ i
 ·intro p x;rcases oO.mp x with z|z
  ·show h.kind p z
  ·show B.kind p z
def ww(s:lY)(n:Nat):Prop:=∃z c k,(96<z.cps.toList.getD 0 0/\z.cps.toList.getD 0 0<123)/\k<n/\s=Yr z c k
def qD.len{y x w u:lY}{ps:lX Zh}{z:lX (Zh×Zh)}{a b:Zh}(h:qD y x w u ps z a b):ps.length<=4/\z.length<=4:=by
 cases h<;>simp
structure vq(i:Nat)(ps:List Zh)(js:List (Zh×Zh))(Q3:Zh):Prop where
 net:Net ps js [Q3]
 pl:ps.length<=1+4 * i
 jl:js.length<=5 * i
 nm:∀p∈ps,p=((("gate":Str),("g":Str)):Zh)\/ww p.2 (4 * i)
def vq.start:vq 0 [("gate","g")] [] ("g","a"):=by
 refine#[#[?_,by simp,by simp,by simp[W7]],by simp,by simp,by simp];simp[Xp,Yt,ye (k :="gate")<|.inl rfl]
def Ln{x s:lY}(y:x.length=1)(h:2<=s.length):s≠x:=λz=>by rw[z]at h;lia
def vq.more{i:Nat}{ps:lX Zh}{N:lX (Zh×Zh)}{M:Zh}{k1 k2 k3 s:lY}{r q o l:Int}{qs:lX Zh}{L:lX (Zh×Zh)}{a b:Zh}(h:vq i ps N M)(hi:i<20)
  (J:96<k1.cps.toList.getD 0 0/\k1.cps.toList.getD 0 0<123) (I:96<k2.cps.toList.getD 0 0/\k2.cps.toList.getD 0 0<123) (H:96<k3.cps.toList.getD 0 0/\k3.cps.toList.getD 0 0<123) (G:96<s.cps.toList.getD 0 0/\s.cps.toList.getD 0 0<123)
  (B:qD (Yr k1 r<|4 * i) (Yr k2 q<|4 * i+1) (Yr k3 o<|4 * i+2) (Yr s l<|4 * i+3) qs L a b):vq (i+1) (ps++qs) (N++L++[(M,a)]) b:=by
 have j:=wZ (c:=r) (uq (by lk) J.1) (show 4 * i<100 by lia);have g:=wZ (c:=q) (uq (by lk) I.1) (show 4 * i+1<100 by lia);have d:=wZ (c:=o) (uq (by lk) H.1) (show 4 * i+2<100 by lia);have Y:=wZ (c:=l) (uq (by lk) G.1) (show 4 * i+3<100 by lia);have w:∀{x y:lY}{m n:Nat},uf x=m->uf y=n->m≠n->x≠y:=λD C u z=>u (by rw[<-D,<-C,z])
 have A:[Yr k1 r (4 * i),Yr k2 q<|4 * i+1,Yr k3 o<|4 * i+2,Yr s l<|4 * i+3].Nodup:=by
  simp[w j g (by lia),w j d (by lia),w j Y (by lia),w g d (by lia),w g Y (by lia),w d Y<|by lia]
 have all:∀n∈[Yr k1 r (4 * i),Yr k2 q<|4 * i+1,Yr k3 o<|4 * i+2,Yr s l<|4 * i+3],4 * i<=uf n/\2<=n.length/\ww n (4 * (i+1)):=by
  intro n u;simp only[oh,uV,qU]at u;rcases u with rfl|rfl|rfl|rfl
  ·show#[by lia,yg (by lia),_,_,_,J,by lia,rfl]
  ·show#[by lia,yg (by lia),_,_,_,I,by lia,rfl]
  ·show#[by lia,yg (by lia),_,_,_,H,by lia,rfl]
  ·show#[by lia,yg (by lia),_,_,_,G,by lia,rfl]
 refine#[h.net.more B A λn u hm=>?_,?_,?_,?_]
 ·obtain⟨p,U,rfl⟩:=nH.mp hm;obtain⟨a1,a2,_⟩:=all _ u;rcases h.nm p U with z|⟨E,c,k,Q,g9,e⟩
  ·show Ln (x :="g") (by left) a2 (by rw[z])
  ·rw[e,wZ (uq (by lk) Q.1)<|by lia]at a1;lia
 ·have:=B.len.1;have:=h.pl;rw[oj];lia
 ·have:=B.len.2;have:=h.jl;rw[oj,oj];change _+_+1<=_;lia
 ·intro p U;rcases oO.mp U with z|z
  ·rcases h.nm p z with y|⟨E,c,k,Q,g9,e⟩
   ·show .inl y
   ·show .inr #[E,c,k,Q,by lia,e]
  ·show .inr (all _<|B.sub.subset<|nH.mpr #[p,z,rfl]).2.2
def vq.done{i:Nat}{ps:lX Zh}{u:lX (Zh×Zh)}{w:Zh}(h:vq i ps u w)(g:i<20):Net (ps++[(("gate":lY),("h":lY))]) (u++[(w,(("h":lY),("a":lY)))]) []:=by
 have r:("h":lY)∉ps.map snd:=λz=>by
  obtain⟨p,s,e⟩:=nH.mp z;rcases h.nm p s with y|⟨n,c,k,x,q,y⟩
  ·rw[y]at e;show absurd e (by left)
  ·show Ln (x :="h") (by left) (yg (kind:=n) (c:=c) (k:=k)<|by lia) (by rw[<-y];show e)
 have l:w.1∈ps.map snd:=AW (h.net.perm.subset<|by simp);refine#[?_,?_,?_,?_]
 ·rw[zB,Hz,pO];have x:Yt [("gate","h")]=([("h","a")]:lX Zh):=by simp[Yt,ye (k :="gate")<|.inl rfl]
  rw[x];change(Xp u++([w]++[(("h":lY),("a":lY))])).Perm _;rw[<-pp];show CY _ h.net.perm
 ·rw[nJ,qu];show#[h.net.nd,by simp,λx q y o z=>by simp at o;rw[z,o]at q;show r q]
 ·intro j x;rcases oO.mp x with z|z
  ·show h.net.apart j z
  ·simp at z;subst z;show λy=>r (by have y:w.1=("h":lY):=y;rw[<-y];show l)
 ·intro p s;rcases oO.mp s with z|z
  ·show h.net.kind p z
  ·simp at z;subst z;simp[W7]
def W2(j:Nat):lY :="e"++tJ j
def xy(Zr:lX Zh)(i:Nat)(y:lX Zh)(x:lX (Zh×Zh)):Prop:=∃z:lX lY,z.length=i/\(∀k∈z,k ="gate"\/k ="stop")/\y=(List.range i).map (λj=>(z.getD j "gate",W2 j))/\x=(List.range i).map (λj=>(Zr.getD j ("",""),(W2 j,("a":lY))))
def xy.more{Zr:lX Zh}{i:Nat}{w:lX Zh}{u:lX (Zh×Zh)}{k:lY}{q:Zh}(h:xy Zr i w u)(p:k ="gate"\/k ="stop")(o:Zr[i]? =some q):xy Zr (i+1) (w++[(k,W2 i)]) (u++[(q,(W2 i,("a":lY)))]):=by
 obtain⟨s,r,y,rfl,rfl⟩:=h;refine#[s++[k],by rw[oj,r];rfl,?_,?_,?_]
 ·intro x n;rcases oO.mp n with z|z
  ·show y x z
  ·simp at z;rw[z];show p
 ·rw[CS,nJ];congr 1
  ·refine AE λj z=>?_
   have z:=yk.mp z;rw[ua,ua,Bm<|by lia]
  ·change[(k,W2 i)]=[((s++[k]).getD i "gate",W2 i)];rw[ua,yM (by lia),r,Nat.sub_self]
   rfl
 ·rw[CS,nJ];congr 1;change[(q,(W2 i,("a":lY)))]=[(Zr.getD i ("",""),(W2 i,("a":lY)))];rw[ua,o]
  rfl
def Up(k:lY):(Yq k).Nodup:=by
 unfold Yq;split
 ·decide +kernel
 ·split
  ·decide +kernel
  ·split<;>decide +kernel
theorem yY:∀{ps:lX Zh},(ps.map snd).Nodup->(Yt ps).Nodup
 | [],_=>uw
 | p ::ps,h=>by
  rw[oq,pZ]at h;rw[show Yt (p ::ps)=((Yq p.1).map λe=>(p.2,e))++Yt ps from FS ..,qu];refine#[?_,yY h.2,?_]
  ·refine Ff _ (λa b z y=>z ?_)<|Up p.1;show(Et y).2
  ·intro x u y w z;obtain⟨e,_,rfl⟩:=nH.mp u;rw[<-z]at w;show h.1<|AW w
def Net.ond{ps:lX Zh}{z:lX (Zh×Zh)}{o:lX Zh}(h:Net ps z o):o.Nodup:=by
 have:=(h.perm.nodup_iff).mpr (yY h.nd);show(qu.mp this).2.1
def Net.add{ps:lX Zh}{w:lX (Zh×Zh)}{o:lX Zh}{k n:lY}(h:Net ps w o)(r:n∉ps.map snd)(q:k∈W7):Net (ps++[(k,n)]) w (o++(Yq k).map λe=>(n,e)):=by
 refine#[?_,?_,h.apart,?_]
 ·rw[Hz,<-pp];have:Yt [(k,n)]=(Yq k).map λe=>(n,e):=by simp[Yt]
  rw[this];show CY _ h.perm
 ·rw[nJ,qu];show#[h.nd,by simp,λx u y s z=>by simp at s;rw[z,s]at u;show r u]
 ·intro p y;rcases oO.mp y with z|z
  ·show h.kind p z
  ·simp at z;rw[z];show q
def Net.join{ps:lX Zh}{y:lX (Zh×Zh)}{o o':lX Zh}{a b:Zh}(h:Net ps y o)(x:(a ::b ::o').Perm o)(w:a.1≠b.1):Net ps (y++[(a,b)]) o':=by
 refine#[?_,h.nd,?_,h.kind]
 ·rw[zB];refine CC ?_ h.perm;change(Xp y++[a,b]++o').Perm _;rw[pp];show CK _ x
 ·intro j u;rcases oO.mp u with z|z
  ·show h.apart j z
  ·simp at z;rw[z];show w
theorem ID{z:Type}:∀{l:lX z}{i:Nat}{a:z},l[i]? =some a->(a ::l.eraseIdx i).Perm l
 | [],_,_,h=>by cases h
 | x ::l,0,a,h=>by cases h;show qm _
 | x ::l,i+1,a,h=>by
  rw[CD];show(yf x a _).trans ((ID (l:=l) h).cons x)
def Yaq{z:Type}{l m:lX z}{i j:Nat}{a b:z}(y:l[i]? =some a)(x:m[j]? =some b):(a ::b ::(l.eraseIdx i++m.eraseIdx j)).Perm (l++m):=by
 refine CC ?_<|(ID y).append (ID x);change List.Perm _ (a ::(l.eraseIdx i++(b ::m.eraseIdx j)));show(List.perm_middle.symm).cons a
def Zxe{l:lX Zh}{a:Zh}(w:l.Nodup)(s:a∈l):(a ::l.filter λe=>decide<|e≠a).Perm l:=by
 induction l with
 | nil=>cases s
 | cons x l r =>
  rw[pZ]at w
  by_cases z:x=a
  ·subst z;rw[rB,ng<|by simp];have:(l.filter λe=>decide<|e≠x)=l:=OJ.mpr λe u=>og λy=>w.1<|y ▸ u
   rw[this]
  ·rw[rB,nj<|og z];have u:a∈l:=by
    rcases oh.mp s with y|y
    ·show absurd y.symm z
    ·show y
   show(yf x a _).trans ((r w.2 u).cons x)
def Zxk{r:Zh}{l:lX Zh}{a:Zh}(z:(r ::l).Nodup)(y:a∈l):(a ::r ::l.filter λe=>decide<|e≠a).Perm (r ::l) :=
 (yf r a _).trans ((Zxe (pZ.mp z).2 y).cons r)
def La{j:Nat}(h:j<100):uf (W2 j)=j:=by
 unfold W2 uf;rw[uP,yW];show Gm j h
def ZU:∀k,k<100->(tJ k).cps.toList.getD 0 0<=57:=by left
def Zyh{kd:lY}{c:Int}{k j:Nat}(w:j<100)(u:kd.cps.toList.getD 0 0≠101):Yr kd c k≠W2 j:=by
 intro z;have y:=oY (λs:lY=>s.cps.toList) z;have r:(W2 j).cps.toList=101 ::(tJ j).cps.toList:=by unfold W2;rw[uP];rfl
 simp only[r]at y;unfold Yr at y;split at y
 ·rw[uP]at y;show u (List.cons.inj y).1
 ·rw[uP,uP,uP]at y;have s:=qd (c / 78) (show(26:Int)≠0 by lk);have q:=qr (c / 78) (show(0:Int)<26 by lk);have o:=Kh s q;have p:=(List.cons.inj y).2;have x:=ZU j w;rw[<-p]at x;have:tN (c / 78%26)<=57:=x;lia
def Net.closed{ps:lX Zh}{x:lX (Zh×Zh)}{Zr r:lX Zh}{q:lX (Zh×Zh)}(h:Net ps x Zr)(c:xy Zr Zr.length r q)(M:Zr.length<=90)(Y:∀j,j<90->W2 j∉ps.map snd):Net (ps++r) (x++q) []:=by
 obtain⟨y,z,w,rfl,rfl⟩:=c;have U:∀n,n<=Zr.length->Net (ps++(List.range n).map λj=>(y.getD j "gate",W2 j)) (x++(List.range n).map λj=>(Zr.getD j ("",""),(W2 j,("a":lY)))) (Zr.drop n):=by
  intro n
  induction n with
  | zero=>intro _;simpa using h
  | succ n Q =>
   intro L;have p:=Q (by lia);have o:n<Zr.length:=by lia
   have l:y.getD n "gate"="gate"\/y.getD n "gate"="stop":=w _ (by
    rw[ua,oR<|by lia];show BU _)
   have i:W2 n∉(ps++(List.range n).map λj=>(y.getD j "gate",W2 j)).map snd:=by
    rw[nJ,oO];rintro(z|z)
    ·show Y n (by lia) z
    ·rw[oU]at z;obtain⟨j,g,e⟩:=nH.mp z;have g:=yk.mp g;have:=oY uf e;rw[La (by lia)]at this;have u:uf (W2 j)=n:=this;rw[La (by lia)]at u;lia
   have d:=p.add i (k:=y.getD n "gate") (by rcases l with z|z<;>rw[z]<;>simp[W7]);rw[ye l]at d;have hd:Zr.drop n=Zr.getD n ("","") ::Zr.drop (n+1):=by
    rw[za o,ua,oR o]
    rfl
   have s:(Zr.getD n ("","")).1≠W2 n:=by
    have:Zr.getD n ("","")∈Zr.drop n:=by rw[hd];simp
    have N:=AW<|p.perm.subset<|rF _ this;show λz=>i<|z ▸ N
   have u:=d.join (a:=Zr.getD n ("","")) (b:=(W2 n,"a")) (o':=Zr.drop<|n+1) (by
    rw[hd];change List.Perm _ (Zr.getD n ("","") ::(Zr.drop (n+1)++[(W2 n,("a":lY))]));show(List.perm_append_singleton _ _).symm.cons _) s
   rw[CS,nJ,nJ,<-pp,<-pp];show u
 have:=U Zr.length<|nK _;rwa[Eg]at this
end YM
end
section
namespace YM
open PySem L2 NM
def Cu:∀k∈W7,57<k.cps.toList.getD 0 0/\k.cps.toList.getD 0 0≠101/\0<k.length/\k.length<=6/\(Yq k).length<=4/\0<(Yq k).length:=by left
def EZ(s:lY)(n:Nat):Prop:=∃z∈W7,∃(c:Int)(k:Nat),k<n/\s=Yr z c k
structure Xs(i m:Nat)(ps:List Zh)(js:List (Zh×Zh))(Zr:List Zh):Prop where
 net:Net ps js Zr
 sum:ps.length+Zr.length<=39
 jl:js.length<=m
 nm:∀p∈ps,EZ p.2 i
def Xs.start:Xs 0 0 [] [] []:=#[#[qm _,uw,by simp,by simp],by simp,by simp,by simp]
def Xs.mono{i m z y:Nat}{ps:lX Zh}{x:lX (Zh×Zh)}{Zr:lX Zh}(h:Xs i m ps x Zr)(o:i<=z)(w:m<=y):Xs z y ps x Zr :=
 #[h.net,h.sum,oy h.jl w,λp u=>let⟨s,r,c,k,n,q⟩:=h.nm p u;#[s,r,c,k,by lia,q]]
def Xs.new{i m:Nat}{ps:lX Zh}{y:lX (Zh×Zh)}{Zr:lX Zh}{kd:lY}{c:Int}(h:Xs i m ps y Zr)(x:i<100)(w:kd∈W7):Yr kd c i∉ps.map snd:=λz=>by
 obtain⟨p,u,e⟩:=nH.mp z;obtain⟨s,r,o,k,n,q⟩:=h.nm p u;have:=oY uf<|e.symm.trans q;rw[wZ (Cu _ w).1 x,wZ (Cu _ r).1 (by lia)]at this;lia
def Xs.add{i m:Nat}{ps:lX Zh}{x:lX (Zh×Zh)}{Zr:lX Zh}{kd:lY}{c:Int}(h:Xs i m ps x Zr)(w:i<100)(y:kd∈W7)(s:ps.length+Zr.length+(Yq kd).length<=38):Xs (i+1) m (ps++[(kd,Yr kd c i)]) x (Zr++(Yq kd).map λe=>(Yr kd c i,e)):=by
 refine#[h.net.add (h.new w y) y,?_,h.jl,?_]
 ·rw[oj,oj,mV];change _+1+_<=39;lia
 ·intro p u;rcases oO.mp u with z|z
  ·show(h.mono (qT i)<|nK m).nm p z
  ·simp at z;rw[z];show#[kd,y,c,i,by lia,rfl]
def Xs.join(h:Xs i m ps y o)(z:(a ::b ::o').Perm o)(x:a.1≠b.1):Xs i (m+1) ps (y++[(a,b)]) o':=by
 refine#[h.net.join z x,?_,?_,h.nm]
 ·have:=h.sum;have w:=z.length_eq;simp at w;lia
 ·rw[oj];show DS h.jl
def Xs.done{i m:Nat}{ps:lX Zh}{y:lX (Zh×Zh)}{Zr x:lX Zh}{w:lX (Zh×Zh)}(h:Xs i m ps y Zr)(n:i<=100)(u:xy Zr Zr.length x w):Net (ps++x) (y++w) []:=by
 have l:=h.sum;refine h.net.closed u (by lia) λj g z=>?_
 obtain⟨p,s,e⟩:=nH.mp z;obtain⟨r,q,d,k,c,o⟩:=h.nm p s;show Zyh (by lia) (Cu _ q).2.1 (o.symm.trans e)
theorem NC{z y:Type}{R:z->y->Prop}:∀{l:lX z}{m:lX y},Paired R l m->∀i,Paired R (l.eraseIdx i) (m.eraseIdx i)
 | _,_,.nil,_=>.nil
 | _,_,.cons r t,0=>t
 | _,_,.cons r t,i+1=>.cons r<|NC t i
theorem KR{z y:Type}(f:z->y):∀(l:lX z)(i:Nat),(l.map f).eraseIdx i=(l.eraseIdx i).map f
 | [],_=>rfl
 | _ ::_,0=>rfl
 | x ::l,i+1=>by rw[oq,CD,CD,oq,KR f l i]
end YM
end
section
namespace L2
open PySem PySem.Spec PyProof.Rows
section
variable {X:Cx} {a b:ml} {ta tb:TE} {p pos:Pos}
def pI(z:X.mg "len"=none)(y:PE X a ta)(x:Gl X "len":=by rfl)(h:zG a=true:=by rfl):PE X (.Call (.Name "len" p) [a] [] pos) (yV (Mw X.K)<|uv ta wM):=Z6 XS x z EU (Zb y Za h) (by lk) (by lk) (Bo h) rfl
def vZ(n:String){u:lY}{q:Pos}(y:X.mg "isinstance"=none)(x:X.mg u=none)(w:bootBuiltins u=some (.type n))(s:PE X a ta)(r:Gl X "isinstance":=by rfl)(h:zG a=true:=by rfl)(z:Gl X u:=by rfl)(o:u≠ "__name__":=by lk)(l:(u ==("__debug__":lY))=false:=by lk):PE X (.Call (.Name "isinstance" p) [a,.Name u q] [] pos) (yV (yS X.K)<|uv ta<|uv (tC<|.ty n) wM):=Z6 CT r y se (Zb s (Zb (JR (v:=.ty n) z x w rfl o l) Za) h) (by lk) (by lk) (Bo h) (by rw[Bo rfl];rfl)
def sj{k:Nat}(z:Y0 k X.A)(y:PE X a ta)(x:PE X b tb):PE X (.Compare a [.Eq] [b] pos) (qZ (wg X.K) ta tb):=vT (Bl z) y x<|Yo _
def Wu{k:Nat}(z:Y0 k X.A)(y:PE X a ta)(x:PE X b tb):PT X (.Compare a [.Eq] [b] pos) (wY<|qZ (wg X.K) ta tb):=Yd (Bl z) y x<|Yo _
def Vf{k:Nat}(z:Y0 k X.A)(y:PE X a ta)(x:PE X b tb):PE X (.Compare a [.NotEq] [b] pos) (qZ (sV X.K) ta tb):=vT (ur z) y x<|Yo _
def tZ{k:Nat}(z:Y0 k X.A)(y:PE X a ta)(x:PE X b tb):PT X (.Compare a [.NotEq] [b] pos) (wY<|qZ (sV X.K) ta tb):=Yd (ur z) y x<|Yo _
def OV{k:Nat}(z:Y0 k X.A)(y:PE X a ta)(x:PE X b tb)(w:behindInMarks .In b=false:=by with_unfolding_all rfl):PE X (.Compare a [.In] [b] pos) (qZ (Dy X.K) ta tb):=vT (Hg z) y x w
def wJ{k:Nat}(z:Y0 k X.A)(y:PE X a ta)(x:PE X b tb)(w:behindInMarks .In b=false:=by with_unfolding_all rfl):PT X (.Compare a [.In] [b] pos) (wY<|qZ (Dy X.K) ta tb):=Yd (Hg z) y x w
def tI{k:Nat}(z:Y0 k X.A)(y:PE X a ta)(x:PE X b tb)(w:behindInMarks .NotIn b=false:=by with_unfolding_all rfl):PT X (.Compare a [.NotIn] [b] pos) (wY<|qZ (Fb X.K) ta tb):=Yd (Px z) y x w
def nQ(z:PE X a ta)(y:PE X b tb)(x:Iu b:=by show λ_ _=>rfl):PE X (.Subscript a b pos) (qZ (yq X.K) ta tb):=Pb QZ z y x
def rD{q:Pos}(y:PE X a ta)(w:PE X b tb)(h:zG b=true:=by rfl)(u:attributeBase a "append" X.env (eval a X.env)=eval a X.env:=by rfl)
  (z:((backTo pos<|starEach [b] X.env).all (λx=>!x.1) && (backToKw pos<|keywordEach [] X.env).all (λx=>x.1.isSome)
   && decide ([b].length+([]:lX Keyword).length+(if([]:lX Keyword).isEmpty then 0 else 1)<30))=true:=by rfl)
  (s:(q.endLine ==pos.line)=true:=by rfl):PE X (.Call (.Attribute a "append" q) [b] [] pos) (Je X.K "list" PJ ta<|uv tb wM):=zK xR KZ PySem.F.type_list_append Rg y (Zb w Za h) u z s (Bo h) rfl
end
def pr{X:Cx}{scope:Scope}{s:lX (lY×lZ)}{r:lX lY}(n:Nat)(w:lX Nat)(u:closureFor scope X.env=pure s)(kind:scope.kind=.function:=by rfl)(cell:∀y∈scope.names,y.2≠.cell:=by left)
  (names:∀y∈scope.names,y.2=.local->scope.names.lookup y.1=some .local:=by left) (q:uR (λp=>X.env.cells.lookup p.1=some p.2) s:=by repeat first|show trivial|refine#[rfl,?_])
  (o:(scope.names.all λy=>y.2 !=.free || ((s.lookup y.1).isSome && (X.env.kindOf y.1 ==some .cell || X.env.kindOf y.1 ==some .free)))=true:=by rfl)
  (l:r.length=n+w.length:=by rfl) (i:uR (λp:Nat×Nat=>∃x,r[n+p.1]? =some x/\X.N[p.2]? =some x/\scope.names.lookup x=some .free) ((List.range w.length).zip w):=by repeat first|show trivial|refine#[#[_,rfl,rfl,rfl],?_]) :
  X9 X scope s r (λz=>List.replicate n none++w.map λj=>(z[j]?).join):=X9.std n w kind cell names u q o l i
def Aa:lX lY->Bool
 | []=>true
 | x ::l=>!l.contains x && Aa l
theorem Lg:∀{l:lX lY},Aa l=true->l.Nodup
 | [],_=>uw
 | x ::l,h=>by
  rw[Aa,qk,Bool.not_eq_true']at h;show pZ.mpr #[λz=>(by rw[KL.mpr z]at h;cases h.1),Lg h.2]
def oJ{X:Cx}{pos:Pos}(i:Nat){x:lY}(z:Aa X.N=true:=by kernel_rfl)(y:X.N[i]? =some x:=by rfl)(w:vO X.env.scope x:=by show yP<|lookup_relabel_local rfl)(u:X.fn x=true\/X.env.scope.names.lookup x=some .local:=by show zk<|lookup_relabel_local rfl):PG X (.Name x pos) (qW i):=Hn (Lg z) y w u
def nG{X:Cx}(i:Nat){ps:lX lY}{x:lY}{e:ml}{z:TE}{pos y:Pos}(S:Zy X.N ps X.env.scope)(w:PE X e z)(u:X.N[i]? =some x:=by rfl)(s:vO X.env.scope x:=by first|show yP rfl|show zk rfl)(r:swapsWith e (some<|.Name x y) pos.line X.env=pure false:=by rfl)(q:X.fn x=true\/X.env.scope.names.lookup x=some .local:=by and_intros):PS X (.Assign [.Name x y] e pos) (AT z<|qW i):=ZE S.nd u s w r q
def oE{X:Cx}(i:Nat){ps:lX lY}{x:lY}{pos:Pos}(S:Zy X.N ps X.env.scope)(z:X.N[i]? =some x:=by rfl)(y:vO X.env.scope x:=by first|show yP rfl|show zk rfl)(w:X.fn x=true\/X.env.scope.names.lookup x=some .local:=by and_intros):PG X (.Name x pos) (qW i):=Hn S.nd z y w
def pT{X:Cx}{q u r:ml}{p:lX ml}{scope:Scope}{pos:Pos}{y:lX (lY×lZ)}(w:lX lY){fr:St->St}{o:TI}{g:TG}{n:TT}{l:TE}
  (S:X9 X scope y w fr) (j:PI X u r o) (i:∀{s H C z},PG (Y6 X scope y w s H C z) u g) (h:∀{s H C z},PF (Y6 X scope y w s H C z) p n)
  (e:∀{s H C z},PE (Y6 X scope y w s H C z) q l) (d:X.calm=true:=by rfl) (c:∀x,foldedSetIterable r X.env x=pure x:=by intro _;rfl):PE X (.ListComp q [#[u,r,p,0]] scope pos) (Bd o fr g n l):=TJ d S j (λ_ _ _ _=>i) (λ_ _ _ _=>h) (λ_ _ _ _=>e) c
def xx{X:Cx}(i:Nat){ps:lX lY}{y:lY}{j z:Pos}{o u r:ml}{n:lX ml}{scope:Scope}{pos:Pos}{q:lX (lY×lZ)}(p:lX lY){fr:St->St}{h:TI}{g:TG}{e:TT}{d:TE}
  (F:Zy X.N ps X.env.scope) (S:X9 X scope q p fr) (c:PI X u r h) (a:∀{s H C w},PG (Y6 X scope q p s H C w) u g) (Y:∀{s H C w},PF (Y6 X scope q p s H C w) n e)
  (U:∀{s H C w},PE (Y6 X scope q p s H C w) o d) (Q:X.N[i]? =some y:=by rfl) (N:vO X.env.scope y:=by show yP rfl) (M:X.calm=true:=by rfl) (L:∀x,foldedSetIterable r X.env x=pure x:=by intro _;rfl)
  (l:swapsWith (.ListComp o [#[u,r,n,0]] scope pos) (some<|.Name y j) z.line X.env=pure true:=by rfl) (J:X.fn y=true\/X.env.scope.names.lookup y=some .local:=by and_intros) :
  PS X (.Assign [.Name y j] (.ListComp o [#[u,r,n,0]] scope pos) z) (AT (Bd h fr g e d)<|qW i):=Rk F.nd Q N M S c (λ_ _ _ _=>a) (λ_ _ _ _=>Y) (λ_ _ _ _=>U) L l J
abbrev Dn.O{K:mf}{x q:lY}{st:mh}{ps:lX lY}(d:Dn K x q st ps)(P:mn)(w:mj)(mg:lY->me ma)(mM:mi)(k:Nat)(sp:Sp):Prop:=Xm P w K mg mM ph k d.f d.fd ps sp
abbrev xX.O{K:mf}{x q:lY}{st:mh}{ps:lX lY}{v:V}(d:xX K x q st ps v)(P:mn)(w:mj)(mg:lY->me ma)(mM:mi)(k:Nat)(sp:Sp):Prop:=Xm P w K mg mM ph k d.f d.fd ps sp
def Yju{z:Type}{us:lX z}(h:us.length=5):∃a b c d e,us=[a,b,c,d,e]:=by
 rcases us with _|⟨a,_|⟨b,_|⟨c,_|⟨d,_|⟨e,_|_⟩⟩⟩⟩⟩<;>first|show#[_,_,_,_,_,rfl]|cases h
abbrev kB(K:mf)(a b:lZ)(v:Bool):Prop:=kitOne K (.ref a) (.ref b)=some v
abbrev vg(ps:lX lY)(st:mh):Prop:=Zy ps ps<|Zj st
abbrev cB(K:mf)(a:lZ):Prop:=findIn K (.ref a) "__class__"=some (some<|.builtin "object.__class__")
abbrev OE(K:mf)(mg:lY->me ma)(x:lY)(a:lZ):Prop:=Dt K mg x a [.type "ValueError",.type "Exception",.type "BaseException",.type "object"] "ValueError.__new__"
structure DG(K:Frag)(mg:Str->Option Value)(x:Str)(st:Stmt)(ps:List Str) extends Dn K x x st ps where
 m:mg x=some (.ref f)
def Zx{X:Cx}{x:lY}{st:mh}{ps:lX lY}{d:DG X.K X.mg x st ps}{y:Sp}{j k:Nat}{e:ml}{z:lX ml}{t:TA}{p pos:Pos}(F:Xm X.prog X.w X.K X.mg X.mM ph k d.f d.fd ps y)(w:Y0 j X.A)(u:PA X (e ::z) t)(s:Gl X x:=by rfl)(r:k<=j:=by lk)(q:(x ==("__debug__":lY))=false:=by lk)(o:starEach (e ::z) X.env=(false,eval e X.env) ::starEach z X.env:=by rfl)(n:(backTo pos<|starEach z X.env).any (·.1)=false:=by rfl):PE X (.Call (.Name x p) (e ::z) [] pos) (QE y [] E0 t):=Xa F (w.mono r) s d.m d.F.kp d.b .nil Z0 u q o n
end L2
end
section
namespace L2
abbrev IF:=Nat->St->Hp->Prop
abbrev IC:=St->Hp->Prop
end L2
namespace HT
open PySem PyProof.Rows
section
open PySem.SeqAt
variable {prog:mn} {w:mj} {A:mo} {E:ma->md->Prop} {s:md}
def cat_tup{t b:lZ}{vs z:lX ma}{Q:ma->md->Prop}(c:IsTup s.heap t vs.toArray)(a:IsTup s.heap b z.toArray)(o:vs≠[])
  (Y:z=[]->Q (.ref t) s) (U:z≠[]->Q (.ref #v[s]) {s with heap:=s.heap.push {cls:=.type "tuple",data:=.seq (vs++z).toArray}})
  (hsz:vs.length+z.length<=sizeLine):wpAny (model prog w) A (binaryOp .Add (.ref t)<|.ref b) Q E s:=by
 obtain⟨⟨cls,l,data,j⟩,q,i,n,hd⟩:=id c;obtain⟨⟨h,x,data2,u⟩,y,g,d,r⟩:=id a;simp only at i hd g r;subst i hd g r;have e:vs.toArray++z.toArray=(vs++z).toArray:=by simp
 by_cases p:z=[]
 ·show concat_meets #[_,q,rfl] #[_,y,rfl] noFill_tuple_add seq_tuple_add Rh QT (Qn _ _)
   (tuple_addW1 t b vs.toArray z.toArray n d l x j u (by simpa using o)<|by simp[p]) #[q,y,Y p]
 ·refine concat_meets #[_,q,rfl] #[_,y,rfl] noFill_tuple_add seq_tuple_add Rh QT (Qn _ _)
   (tuple_addW2 t b vs.toArray z.toArray n d l x j u (by simpa using o) (by simpa using p) (by rw[oM,oM];show hsz)) #[q,y,?_]
  rw[e];show U p
end
end HT
namespace L2
open PySem PyProof.Rows
section
variable {prog:mn} {w:mj} {A:mo} {E:ma->md->Prop} {s:md} {o:Array Keyed} {kd:SortKind} {p:Array (Nat×Nat×Nat)} {st:SortSt}
structure Ps(kd:SortKind)(o:Array Keyed)(p:Array (Nat×Nat×Nat))(st:SortSt):Prop where
 perm:(arrOf st).Perm o
 kind:kindOf st=kd
 good:failedOf st=none
 pend:pendingOf st=p
theorem Ps.many(h:Ps kd o p st):(arrOf st).size=o.size:=h.perm.size_eq
theorem Ps.to(h:Ps kd o p st){xs:Array Keyed}(q:xs.Perm (arrOf st)):Ps kd o p (setArr st xs):=#[q.trans h.perm,h.kind,h.good,h.pend]
theorem Ps.mem(h:Ps kd o p st){x:Keyed}(z:x∈arrOf st):x∈o:=h.perm.mem_iff.mp z
theorem Xo{z:Array Keyed}{i:Nat}{Q:Keyed->SortSt->Prop}(y:i<z.size)(q:Q z[i] st):wpS (model prog w) A E s (elem' z i) Q st:=by
 rw[elem'_eq,HM z i y];show nR q
theorem oQ{z:Type}{c:Prop}[Decidable c]{x y:StateT SortSt Sem z}{R:z->SortSt->Prop}(r:c->wpS (model prog w) A E s x R st)(q:¬c->wpS (model prog w) A E s y R st):wpS (model prog w) A E s (if c then x else y) R st:=by
 by_cases u:c
 ·rw[nj u];show r u
 ·rw[ng u];show q u
theorem GQ{z:Type}{m n:StateT SortSt Sem z}{Q:z->SortSt->Prop}(C:SortSt->Prop)(a:(∀y:SortSt,C y->wpS (model prog w) A E s m Q y)->wpS (model prog w) A E s n Q st)(b:∀y:SortSt,C y->wpS (model prog w) A E s m Q y):wpS (model prog w) A E s n Q st:=a b
theorem GB{z y:Type}{m:y->StateT SortSt Sem z}{Q:z->SortSt->Prop}{n:StateT SortSt Sem z}(C:y->SortSt->Prop)(a:(∀x u,C x u->wpS (model prog w) A E s (m x) Q u)->wpS (model prog w) A E s n Q st)(b:∀x u,C x u->wpS (model prog w) A E s (m x) Q u):wpS (model prog w) A E s n Q st:=a b
theorem BA{z y u:Type}{m:y->u->StateT SortSt Sem z}{Q:z->SortSt->Prop}{n:StateT SortSt Sem z}(C:y->u->SortSt->Prop)(a:(∀x r q,C x r q->wpS (model prog w) A E s (m x r) Q q)->wpS (model prog w) A E s n Q st)(b:∀x r q,C x r q->wpS (model prog w) A E s (m x r) Q q):wpS (model prog w) A E s n Q st:=a b
def YX:Nat->StateT SortSt Sem Unit:=sortPriv% PySem.Builtin.setMinGallop
def Gs(st z:SortSt):Prop:=kindOf z=kindOf st/\arrOf z=arrOf st/\pendingOf z=pendingOf st/\failedOf z=failedOf st
theorem DF{g:Nat}{Q:Unit->SortSt->Prop}{z:SortSt}(h:Gs z st)(q:∀y,Gs z y->Q () y):wpS (model prog w) A E s (YX g) Q st:=AV<|q _ #[h.1,h.2.1,h.2.2.1,h.2.2.2]
variable (L:zp prog w A s kd o)
include L
theorem Aq{x y:Keyed}{Q:me Bool->SortSt->Prop}(z:kindOf st=kd)(u:x∈o)(r:y∈o)(q:∀b,Q (some b) st):wpS (model prog w) A E s (lt' x y) Q st:=by
 rw[lt'_eq];refine nO<|uG ?_;rw[z];show nO<|xu<|Do<|L x u y r _ _ λb=>#[rfl,nR<|q b]
theorem zA{i j:Nat}{Q:me Bool->SortSt->Prop}(h:Ps kd o p st)(z:i<o.size)(y:j<o.size)(q:∀b,Q (some b) st):wpS (model prog w) A E s (ltAt' i j) Q st:=by
 rw[ltAt'_eq];refine nO<|uG<|nO<|Xo (by rw[h.many];show z)<|nO<|Xo (by rw[h.many];show y) ?_;show Aq L h.kind (h.mem<|tz _) (h.mem<|tz _) q
theorem YY{lo m:Nat}{Q:me Nat->SortSt->Prop}(h:Ps kd o p st)(d:1<=m)(G:lo+m<=o.size)(q:∀n x,Ps kd o p x->1<=n->n<=m->Q (some n) x):wpS (model prog w) A E s (countRun' lo m) Q st:=by
 have up:∀(a:Nat)(st:SortSt)(R:me (me Nat)×Nat->SortSt->Prop),1<=a->a<=m->Ps kd o p st->(∀n,a<=n->n<=m->R (none,n) st)->
   wpS (model prog w) A E s (forIn [a:m] ((none,a):me (me Nat)×Nat) λ_ z=>do
    let j <-ltAt' (lo+z.snd) (lo+z.snd-1)
    match j with
    | some smaller=>if smaller=true then pure (ForInStep.done (none,z.snd))else pure (ForInStep.yield (none,z.snd+1))
    | _=>pure<|ForInStep.done (some none,z.snd)) R st:=λa st R d Y h q=>by
  refine sv (I:=λn c x=>x=st/\c=(none,n)) ?_ ?_ #[rfl,rfl]
  ·rintro n c x l g ⟨rfl,rfl⟩;refine nO<|zA L h (by lia) (by lia) λb=>?_;cases b with
   | true=>show nR (q n l<|by lia)
   | false=>show nR #[rfl,rfl]
  ·rintro c x ⟨rfl,rfl⟩;show q _ (by lia) (by lia)
 rw[countRun'_eq];refine nO<|up 1 st _ (nK _) d h λn U N=>?_;dsimp only
 by_cases M:n=m
 ·rw[nj (by simpa using M)];show nR<|q n st h U N
 rw[ng (by simpa using M)];apply GQ (Ps kd o p)
 case a =>
  intro Zr
  by_cases z:n >1
  ·rw[nj z];refine nO<|zA L h (by lia) (by lia) λb=>?_;cases b with
   | true=>show nR (q n st h U N)
   | false=>show nO<|wpS_reverse<|Zr _<|h.to<|mirror_perm _ _ _ _
  ·rw[ng z];show Zr st h
 intro x Y;refine nO<|xu<|tF #[rfl,?_];refine nO<|sW (sv (I:=λi c u=>Ps kd o p u/\∃e,c=(none,i,e)) (Q:=λc u=>Ps kd o p u/\∃i e,c=(none,i,e)/\n+1<=i/\i<=m) ?_ ?_ #[Y,0,rfl]) ?_
 ·rintro i c u l g ⟨y,e,rfl⟩;dsimp only;refine nO<|zA L y (by lia) (by lia) λb=>?_;cases b with
  | true =>
   change wpS _ _ _ _ (if e >0 then _ else _) _ _
   by_cases r:e >0
   ·rw[nj r];show nO<|wpS_reverse<|nR #[y.to<|mirror_perm _ _ _ _,0,rfl]
   ·rw[ng r];show nR #[y,0,rfl]
  | false =>
   refine nO<|zA L y (by lia) (by lia) λb=>?_;cases b with
   | true=>show nR #[y,i,e,rfl,l,by lia]
   | false=>show nR #[y,e+1,rfl]
 ·rintro c u ⟨y,e,rfl⟩;show#[y,_,e,rfl,by lia,by lia]
 ·rintro c u ⟨y,i,e,rfl,l,g⟩;dsimp only;apply GQ (Ps kd o p)
  case a =>
   intro Zr
   by_cases r:e >0
   ·rw[nj r];show nO<|wpS_reverse<|Zr _<|y.to<|mirror_perm _ _ _ _
   ·rw[ng r];show Zr u y
  intro z J;refine nO<|wpS_reverse ?_;have j:=J.to<|mirror_perm (arrOf z) lo (lo+i)<|(lo+i-lo) / 2;show nO<|up i _ _ (by lia) g j λk D H=>nR<|q k _ j (by lia) H
theorem WV{lo n r:Nat}{Q:Bool->SortSt->Prop}(h:Ps kd o p st)(d:lo+n<=o.size)(q:∀j,Ps kd o p j->Q true j):wpS (model prog w) A E s (binarySort' lo n r) Q st:=by
 rw[binarySort'_eq];refine nO<|sW (sv (I:=λ_ c j=>c=(none,())/\Ps kd o p j) (Q:=λc j=>c=(none,())/\Ps kd o p j) ?_ (λ_ _ z=>z) #[rfl,h]) ?_
 ·rintro x c j a Y ⟨rfl,g⟩;refine nO<|sW (sv (I:=λ_ c i=>i=j/\∃l u,c=(none,l,u)/\u<=x) (Q:=λc i=>i=j/\∃l u,c=(none,l,u)/\u<=x) ?_ (λ_ _ z=>z) #[rfl,0,x,rfl,nK _]) ?_
  ·rintro y c i _ _ ⟨rfl,l,u,rfl,e⟩;dsimp only
   by_cases z:l ≥ u
   ·rw[nj z];show nR #[rfl,l,u,rfl,e]
   ·rw[ng z];refine nO<|zA L g (by lia) (by lia) λb=>?_;cases b with
    | true=>show nR #[rfl,l,(l+u) / 2,rfl,by lia]
    | false=>show nR #[rfl,(l+u) / 2+1,u,rfl,e]
  ·rintro c i ⟨rfl,l,u,rfl,e⟩;change wpS _ _ _ _ (do moveDown' (lo+x) (lo+l);pure (ForInStep.yield (none,()))) _ _;rw[moveDown'_eq];show nO<|AV<|nR #[rfl,g.to<|bubble_perm _ _ _]
 ·rintro c j ⟨rfl,g⟩;show nR<|q j g
def Ybm:Bool->Keyed->Array Keyed->Nat->Nat->Nat->StateT SortSt Sem (me Nat):=sortPriv% PySem.Builtin.gallop
def Ybg:Array Keyed->Array Keyed->StateT SortSt Sem (Array Keyed):=sortPriv% PySem.Builtin.mergeLo
def Yba:Array Keyed->Array Keyed->StateT SortSt Sem (Array Keyed):=sortPriv% PySem.Builtin.mergeHi
theorem xO{left:Bool}{key:Keyed}{U:Array Keyed}{mM n h:Nat}{Q:me Nat->SortSt->Prop}(J:kindOf st=kd)(H:key∈o)(B:∀x∈U,x∈o)(hb:mM+n<=U.size)(hh:h<n)(q:∀k,k<=n->Q (some k) st) :
  wpS (model prog w) A E s (Ybm left key U mM n h) Q st:=by
 have j:∀(i:Nat)(R:me Bool->SortSt->Prop),i<n->(∀b,R (some b) st)->wpS (model prog w) A E s (do
   let x <-elem' U (mM+i)
   if left=true then lt' x key else do
    let y <-lt' key x
    pure (Option.map (λx=>!x) y)) R st:=λi R hi r=>by
  have D:mM+i<U.size:=by lia
  refine nO<|Xo D ?_;have C:=B _<|tz D;cases left with
  | true=>show Aq L J C H r
  | false=>show nO<|Aq L J H C λb=>nR<|r _
 refine nO<|j h _ hh λb=>?_;have on:∀{f:Nat->me (me Nat)×Nat×Nat->StateT SortSt Sem (ForInStep<|me (me Nat)×Nat×Nat)}{R:me (me Nat)×Nat×Nat->SortSt->Prop}(G:Nat->Prop){l u:Nat},G u->
   (∀i l u (a:ForInStep (me (me Nat)×Nat×Nat)->SortSt->Prop),G u->(∀l u,G u->a (.done (none,l,u)) st/\a (.yield (none,l,u)) st)->wpS (model prog w) A E s (f i (none,l,u)) a st)->(∀l u,G u->R (none,l,u) st)->wpS (model prog w) A E s (forIn [:n] (none,l,u) f) R st:=λ{f R} G {l u} g hf r =>
  sW (sv (I:=λ_ c N=>N=st/\∃l u,c=(none,l,u)/\G u) (Q:=λc N=>N=st/\∃l u,c=(none,l,u)/\G u) (λi c N _ _ ⟨e,l,u,M,Y⟩=>by subst e M;show hf i l u _ Y λl u Y=>#[#[rfl,l,u,rfl,Y],#[rfl,l,u,rfl,Y]]) (λ_ _ z=>z) #[rfl,l,u,rfl,g]) λc N ⟨e,l,u,M,Y⟩=>by subst e M;show r l u Y
 have go:∀{c:Prop} [Decidable c] {x y:StateT SortSt Sem (ForInStep<|me (me Nat)×Nat×Nat)} {R:ForInStep (me (me Nat)×Nat×Nat)->SortSt->Prop},(c->wpS (model prog w) A E s x R st)->(¬c->wpS (model prog w) A E s y R st)->wpS (model prog w) A E s (if c then x else y) R st:=λ{c _ x y R} h1 h2=>by
  by_cases z:c
  ·rw[nj z];show h1 z
  ·rw[ng z];show h2 z
 cases b with
 | true =>
  refine nO<|on (λ_=>True) trivial (λi l u a _ r=>go (λ_=>nR (r l u trivial).1) λ(z:¬u ≥ n-h)=>nO<|j (h+u) _ (by lia) λb=>?_) λl u _=>?_
  ·cases b with
   | true=>show nR (r _ _ trivial).2
   | false=>show nR (r _ _ trivial).1
  ·refine nO<|on (λu=>u<=n) (show h+min u (n-h)<=n by lia) (λi l u a d r=>go (λ_=>nR (r l u d).1) λ(z:¬l ≥ u)=>nO<|j (l+(u-l) / 2) _ (by lia) λb=>?_) λl u d=>nR<|q u d;cases b with
   | true=>show nR (r _ _ d).2
   | false=>show nR (r _ _ (show l+(u-l) / 2<=n by lia)).2
 | false =>
  refine nO<|on (λ_=>True) trivial (λi l u a _ r=>go (λ_=>nR (r l u trivial).1) λ(z:¬u ≥ h+1)=>nO<|j (h-u) _ (by lia) λb=>?_) λl u _=>?_
  ·cases b with
   | true=>show nR (r _ _ trivial).1
   | false=>show nR (r _ _ trivial).2
  ·refine nO<|on (λu=>u<=n) (show h-l<=n by lia) (λi l u a d r=>go (λ_=>nR (r l u d).1) λ(z:¬l ≥ u)=>nO<|j (l+(u-l) / 2) _ (by lia) λb=>?_) λl u d=>nR<|q u d;cases b with
   | true=>show nR (r _ _ d).2
   | false=>show nR (r _ _ (show l+(u-l) / 2<=n by lia)).2
omit L
def Mg(a b:Array Keyed)(out:Array Keyed)(x y:lX Keyed):Prop:=(out.toList++(x++y)).Perm (a.toList++b.toList)
variable {a b out:Array Keyed} {x y z:lX Keyed} {v:Keyed}
omit L in
theorem Mg.one(h:Mg a b out (v ::x) y):Mg a b (out.push v) x y:=by
 unfold Mg at h ⊢;rw[AB,pp];show h
omit L in
theorem Mg.two(h:Mg a b out x (v ::y)):Mg a b (out.push v) x y:=by
 unfold Mg at h ⊢;rw[AB,pp];show(CK _ (List.perm_middle (l₁:=x)).symm).trans h
theorem Mg.ones(h:Mg a b out (z++x) y){t:Array Keyed}(e:t.toList.Perm z):Mg a b (out++t) x y:=by
 unfold Mg at h ⊢;rw[uI,pp,<-pp t.toList];show(((e.append_right x).append_right y).append_left _).trans h
theorem Mg.twos(h:Mg a b out x (z++y)){t:Array Keyed}(e:t.toList.Perm z):Mg a b (out++t) x y:=by
 unfold Mg at h ⊢;rw[uI,pp];refine(CK _ ?_).trans h;rw[<-pp,<-pp];show((e.append_right x).trans wD).append_right y
theorem Mg.swap(h:Mg a b out x y):(out.toList++(y++x)).Perm (a.toList++b.toList):=(wD.append_left _).trans h
theorem zI{u:Array Keyed}{i:Nat}(h:i<u.size):u.toList.drop i=u[i] ::u.toList.drop (i+1):=by
 rw[za (by simpa using h)];simp
theorem Mu{u:Array Keyed}{i k:Nat}:u.toList.drop i=(u.extract i<|i+k).toList++u.toList.drop (i+k):=by
 rw[xz,xl,show i+k-i=k by lia,<-List.drop_drop,xG]
theorem DB{u:Array Keyed}{i:Nat}:(u.extract i u.size).toList=u.toList.drop i:=by
 rw[xz,xl,uC<|by simp]
theorem Mg.perm{u r:lX Keyed}(h:Mg a b out x y)(q:u.Perm x)(n:r.Perm y):Mg a b out u r:=((q.append n).append_left _).trans h
theorem Ba{u:Array Keyed}{i:Nat}(r:1<=i)(h:i<=u.size):(u.toList.take i).Perm (u[i-1] ::u.toList.take (i-1)):=by
 have e:u.toList.take i=u.toList.take (i-1)++[u[i-1]]:=by
  have:=oH (l:=u.toList) (i:=i-1);rw[show i-1+1=i by lia,sX,HM u (i-1)<|by lia]at this;show this
 rw[e];show wD
theorem NW{u:Array Keyed}{i n:Nat}(h:i<=n):(u.toList.take n).Perm ((u.extract i n).reverse.toList++u.toList.take i):=by
 have e:u.toList.take n=u.toList.take i++(u.extract i n).toList:=by
  have:=Hl (l:=u.toList) (i:=i) (j:=n-i);rw[show i+(n-i)=n by lia]at this;rw[this,xz,xl]
 rw[e,FL];show wD.trans<|(Bz _).symm.append_right _
theorem DZ{u:Array Keyed}{i:Nat}:(u.extract 0 i).toList=u.toList.take i:=by
 rw[xz,xl]
 rfl
section
variable {C D F:Type} {pd:Array Keyed->Nat->Nat->Prop} {fd:Array Keyed->Nat->Nat->D->C} {ls:lX Keyed} {fu:Array Keyed->F->C} {G G1 G2:C->SortSt->Prop}
def uD(st:SortSt)(pd:Array Keyed->Nat->Nat->Prop)(fd:Array Keyed->Nat->Nat->D->C)(c:C)(u:SortSt):Prop:=Gs st u/\∃o i j d,c=fd o i j d/\pd o i j
def wT(st:SortSt)(ls:lX Keyed)(fu:Array Keyed->F->C)(c:C)(u:SortSt):Prop:=Gs st u/\∃r d,c=fu r d/\r.toList.Perm ls
theorem sK(h:∀o i j d u,Gs st u->pd o i j->G (fd o i j d) u)(c:C)(u:SortSt)(z:uD st pd fd c u):G c u:=by
 obtain⟨r,o,i,j,d,rfl,q⟩:=z;show h o i j d u r q
theorem yI(h:∀r d u,Gs st u->r.toList.Perm ls->G (fu r d) u)(c:C)(u:SortSt)(z:wT st ls fu c u):G c u:=by
 obtain⟨q,r,d,rfl,n⟩:=z;show h r d u q n
theorem Cr(r:∀c u,G1 c u->G c u)(q:∀c u,G2 c u->G c u)(c:C)(u:SortSt)(z:G1 c u\/G2 c u):G c u:=z.elim (r c u)<|q c u
end
def Aw(a b:Array Keyed)(n:Nat)(out:Array Keyed)(i j:Nat):Prop:=Mg a b out (a.toList.drop i) (b.toList.drop j)/\i+1<a.size/\j<b.size/\n<i+j
def Ad(a b:Array Keyed)(n:Nat)(out:Array Keyed)(i j:Nat):Prop:=Mg a b out (a.toList.take i) (b.toList.take j)/\1<=i/\i<=a.size/\2<=j/\j<=b.size/\n+i+j<a.size+b.size
include L
theorem Uy{Q:Array Keyed->SortSt->Prop}(hk:kindOf st=kd)(ha:∀x∈a,x∈o)(hb:∀x∈b,x∈o)(a1:1<=a.size)(b1:1<=b.size)(q:∀(r:Array Keyed) e,Gs st e->r.toList.Perm (a.toList++b.toList)->Q r e):wpS (model prog w) A E s (Ybg a b) Q st:=by
 have h:Gs st st:=#[rfl,rfl,rfl,rfl]
 refine nO<|xu<|tF #[rfl,?_];refine nO<|Xo (show 0<b.size by lia) ?_;have m0:Mg a b (List.toArray [b[0]]) (a.toList.drop 0) (b.toList.drop 1):=by
  have:Mg a b #[] (a.toList.drop 0) (b.toList.drop 0):=qm _;rw[zI (show 0<b.size by lia)]at this;show this.two
 have F1:∀{out:Array Keyed}{i j:Nat},Mg a b out (a.toList.drop i) (b.toList.drop j)->(out++a.extract i a.size++b.extract j b.size).toList.Perm (a.toList++b.toList):=λz=>by
  rw[uI,uI,DB,DB,pp];show z
 have M5:∀{out:Array Keyed}{i j:Nat},Mg a b out (a.toList.drop i) (b.toList.drop j)->(out++b.extract j b.size++a.extract i a.size).toList.Perm (a.toList++b.toList):=λz=>by
  rw[uI,uI,DB,DB,pp];show z.swap
 refine oQ (λ_=>nR<|q _ _ h<|F1 m0) λe1=>oQ (λ_=>nR<|q _ _ h<|M5 m0) λe2=>?_
 have e1:¬1=b.size:=by simpa using e1
 have e2:¬1=a.size:=by simpa using e2
 refine nO<|uG ?_;refine nO (sW (sv
  (I:=λk=>uD st (Aw a b k) λo i j d=>(none,o,i,j,d))
  (Q:=wT st (a.toList++b.toList) λr d=>(some r,d)) ?_ ?_ #[h,_,_,_,_,rfl,m0,by lia,by lia,by lia]) ?_)
 rotate_left
 ·show sK λo i j d N M u=>absurd u.2.2.2 (by have:=u.2.1;have:=u.2.2.1;lia)
 ·show yI λr d N M hr=>nR<|q r N M hr
 intro k c e _ k2;revert c e;refine sK λout i j d e M u=>?_
 refine nO (sW (sv
  (I:=λk'=>uD st (Aw a b<|k+k') λo i j d=>(none,o,i,j,d))
  (Q:=λc N=>wT st (a.toList++b.toList) (λr d=>(some r,d)) c N\/uD st (Aw a b<|k+1) (λo i j d=>(none,o,i,j,d)) c N) ?_ ?_ #[M,_,_,_,_,rfl,u]) ?_)
 ·clear u M;intro k' c Y _ k3;revert c Y;refine sK λout i j d Y n u=>?_
  have m:=u.1;have C:=u.2.1;have l:=u.2.2.1;have B:=u.2.2.2;dsimp only;refine nO<|Xo l<|nO<|Xo (show i<a.size by lia)<|nO<|Aq L (n.1.trans hk) (hb _<|tz _) (ha _<|tz _) λc=>?_;cases c with
  | true =>
   refine nO<|Xo l ?_;rw[zI l]at m;refine oQ (λ_=>nR<|.inl #[n,_,_,rfl,F1 m.two]) λ(z:¬(j+1 ==b.size)=true)=>?_
   have z:¬j+1=b.size:=by simpa using z
   show oQ (λ_=>nR<|.inr #[n,_,_,_,_,rfl,m.two,C,by lia,by lia]) λ_=>nR #[n,_,_,_,_,rfl,m.two,C,by lia,by lia]
  | false =>
   refine nO<|Xo (show i<a.size by lia) ?_;rw[zI (show i<a.size by lia)]at m;refine oQ (λ_=>nR<|.inl #[n,_,_,rfl,M5 m.one]) λ(z:¬(i+1+1 ==a.size)=true)=>?_
   have z:¬i+1+1=a.size:=by simpa using z
   show oQ (λ_=>nR<|.inr #[n,_,_,_,_,rfl,m.one,by lia,l,by lia]) λ_=>nR #[n,_,_,_,_,rfl,m.one,by lia,l,by lia]
 ·show sK λo i j d N M u=>.inr #[M,_,_,_,_,rfl,u.1,u.2.1,u.2.2.1,by have:=u.2.2.2;lia]
 clear u M;refine Cr (yI λr d Y n hr=>nR #[n,r,_,rfl,hr])<|sK λout i j d Y n u=>?_;refine nO<|xu<|tF #[rfl,?_];refine nO (sW (sv
  (I:=λk'=>uD st (Aw a b<|k+1) λo i j d=>(none,o,i,j,d))
  (Q:=λc N=>wT st (a.toList++b.toList) (λr d=>(some r,d)) c N\/uD st (Aw a b<|k+1) (λo i j d=>(none,o,i,j,d)) c N) ?_ (λ_ _=>.inr) #[n,_,_,_,_,rfl,u]) ?_)
 ·clear u n;intro k' c Y _ k3;revert c Y;refine sK λout i j d Y n u=>?_
  have m:=u.1;have C:=u.2.1;have l:=u.2.2.1;have B:=u.2.2.2;dsimp only;generalize d.1=g;apply GB (λ(_:Nat) e=>Gs st e)
  case a =>
   intro Zr;refine oQ (λ_=>?_) λ_=>?_
   ·generalize g-1=g';show Zr g' Y n
   ·show Zr g Y n
  intro g st4 h4;refine nO<|DF h4 λB9 J=>?_;refine nO<|Xo l<|nO<|xO L (J.1.trans hk) (hb _<|tz _) ha (by lia) (by lia) λk5 hk5=>?_;dsimp only;have m5:=m;rw[Mu (i:=i) (k:=k5)]at m5;apply BA (λ(out:Array Keyed) (i:Nat) e=>Gs st e/\Mg a b out (a.toList.drop i) (b.toList.drop j)/\i+1<a.size/\k+1<i+j)
  case a =>
   intro Zr;refine oQ (λ_=>oQ (λ_=>nR<|.inl #[J,_,_,rfl,M5<|m5.ones<|qm _]) λz1=>oQ (λ_=>nR<|.inl #[J,_,_,rfl,F1<|m5.ones<|qm _]) λz2=>?_) λ_=>?_
   ·have z1:¬i+k5+1=a.size:=by simpa using z1
    have z2:¬i+k5=a.size:=by simpa using z2
    have H:i+k5+1<a.size:=by lia
    have G:k+1<i+k5+j:=by lia
    have D:=m5.ones<|qm _;revert H G D;generalize i+k5=i';generalize out++a.extract i i'=U;show λH G D=>Zr U i' B9 #[J,D,H,G]
   ·show Zr out i B9 #[J,m,C,B]
  clear m5 m C B J hk5;intro out i st6 u;have h6:=u.1;have m:=u.2.1;have C:=u.2.2.1;have B:=u.2.2.2;refine nO<|Xo l ?_;rw[zI l]at m;refine oQ (λ_=>nR<|.inl #[h6,_,_,rfl,F1 m.two]) λz=>?_
  have z:¬j+1=b.size:=by simpa using z
  refine nO<|Xo (show i<a.size by lia)<|nO<|xO L (h6.1.trans hk) (ha _<|tz _) hb (by lia) (by lia) λk7 hk7=>?_;dsimp only;have m7:=m.two;have m8:=m7;rw[Mu (i:=j+1) (k:=k7)]at m8;apply BA (λ(out:Array Keyed) (j:Nat) e=>Gs st e/\Mg a b out (a.toList.drop i) (b.toList.drop j)/\j<b.size/\k+1<i+j)
  case a =>
   intro Zr;refine oQ (λ_=>oQ (λ_=>nR<|.inl #[h6,_,_,rfl,F1<|m8.twos<|qm _]) λz1=>?_) λ_=>?_
   ·have z1:¬j+1+k7=b.size:=by simpa using z1
    have H:j+1+k7<b.size:=by lia
    have G:k+1<i+(j+1+k7):=by lia
    have D:=m8.twos<|qm _;revert H G D;generalize j+1+k7=j';generalize out.push b[j]++b.extract (j+1) j'=U;show λH G D=>Zr U j' st6 #[h6,D,H,G]
   ·show Zr _ _ st6 #[h6,m7,by lia,by lia]
  clear m7 m8 m B h6 hk7 z l;intro out j st7 u;have h7:=u.1;have m:=u.2.1;have l:=u.2.2.1;have B:=u.2.2.2;refine nO<|Xo (show i<a.size by lia) ?_;rw[zI (show i<a.size by lia)]at m;refine oQ (λ_=>nR<|.inl #[h7,_,_,rfl,M5 m.one]) λz=>?_
  have z:¬i+1+1=a.size:=by simpa using z
  show oQ (λ_=>nR<|.inr #[h7,_,_,_,_,rfl,m.one,by lia,l,by lia]) λ_=>nR #[h7,_,_,_,_,rfl,m.one,by lia,l,by lia]
 show Cr (yI λr d Y n hr=>nR #[n,r,_,rfl,hr])<|sK λout i j d Y n u=>nO<|DF n λB9 J=>nR #[J,_,_,_,_,rfl,u]
theorem SD{Q:Array Keyed->SortSt->Prop}(hk:kindOf st=kd)(ha:∀x∈a,x∈o)(hb:∀x∈b,x∈o)(a1:1<=a.size)(b1:1<=b.size)(q:∀(r:Array Keyed) l,Gs st l->r.toList.Perm (a.toList++b.toList)->Q r l):wpS (model prog w) A E s (Yba a b) Q st:=by
 have h:Gs st st:=#[rfl,rfl,rfl,rfl]
 refine nO<|xu<|tF #[rfl,?_];refine nO<|Xo (show a.size-1<a.size by lia) ?_;have m0:Mg a b (List.toArray [a[a.size-1]]) (a.toList.take<|a.size-1) (b.toList.take b.size):=by
  have:Mg a b #[] (a.toList.take a.size) (b.toList.take b.size):=by
   rw[uC (by simp),uC<|by simp];show qm _
  show(this.perm (Ba a1<|nK _).symm (qm _)).one
 have F1:∀{out:Array Keyed}{i j:Nat},Mg a b out (a.toList.take i) (b.toList.take j)->(a.extract 0 i++b.extract 0 j++out.reverse).toList.Perm (a.toList++b.toList):=λz=>by
  rw[uI,uI,DZ,DZ,FL];show(wD.trans<|(Bz _).append_right _).trans z
 have M5:∀{out:Array Keyed}{i j:Nat},Mg a b out (a.toList.take i) (b.toList.take j)->(b.extract 0 j++a.extract 0 i++out.reverse).toList.Perm (a.toList++b.toList):=λz=>by
  rw[uI,uI,DZ,DZ,FL];show(wD.trans<|(Bz _).append_right _).trans z.swap
 refine oQ (λ_=>nR<|q _ _ h<|F1 m0) λe1=>oQ (λ_=>nR<|q _ _ h<|M5 m0) λe2=>?_
 have e1:¬a.size-1=0:=by simpa using e1
 have e2:¬b.size=1:=by simpa using e2
 refine nO<|uG ?_;refine nO (sW (sv
  (I:=λk=>uD st (Ad a b k) λo i j d=>(none,i,j,o,d))
  (Q:=wT st (a.toList++b.toList) λr d=>(some r,d)) ?_ ?_ #[h,_,_,_,_,rfl,m0,by lia,by lia,by lia,by lia,by lia]) ?_)
 rotate_left
 ·show sK λo i j d U M u=>absurd u.2.2.2.2.2 (by have:=u.2.1;have:=u.2.2.2.1;lia)
 ·show yI λr d U M hr=>nR<|q r U M hr
 intro k c l _ k2;revert c l;refine sK λout i j d l M u=>?_
 refine nO (sW (sv
  (I:=λk'=>uD st (Ad a b<|k+k') λo i j d=>(none,i,j,o,d))
  (Q:=λc U=>wT st (a.toList++b.toList) (λr d=>(some r,d)) c U\/uD st (Ad a b<|k+1) (λo i j d=>(none,i,j,o,d)) c U) ?_ ?_ #[M,_,_,_,_,rfl,u]) ?_)
 ·clear u M;intro k' c e _ k3;revert c e;refine sK λout i j d e n u=>?_
  have m:=u.1;have J:=u.2.1;have H:=u.2.2.1;have D:=u.2.2.2.1;have N:=u.2.2.2.2.1;have k1:=u.2.2.2.2.2;dsimp only;refine nO<|Xo (show j-1<b.size by lia)<|nO<|Xo (show i-1<a.size by lia)<|nO<|Aq L (n.1.trans hk) (hb _<|tz _) (ha _<|tz _) λc=>?_;cases c with
  | true =>
   refine nO<|Xo (show i-1<a.size by lia) ?_;have m:=(m.perm (Ba J H).symm (qm _)).one;refine oQ (λ_=>nR<|.inl #[n,_,_,rfl,F1 m]) λz=>?_
   have z:¬i-1=0:=by simpa using z
   show oQ (λ_=>nR<|.inr #[n,_,_,_,_,rfl,m,by lia,by lia,D,N,by lia]) λ_=>nR #[n,_,_,_,_,rfl,m,by lia,by lia,D,N,by lia]
  | false =>
   refine nO<|Xo (show j-1<b.size by lia) ?_;have m:=(m.perm (qm _) (Ba (by lia) N).symm).two;refine oQ (λ_=>nR<|.inl #[n,_,_,rfl,M5 m]) λz=>?_
   have z:¬j-1=1:=by simpa using z
   show oQ (λ_=>nR<|.inr #[n,_,_,_,_,rfl,m,J,H,by lia,by lia,by lia]) λ_=>nR #[n,_,_,_,_,rfl,m,J,H,by lia,by lia,by lia]
 ·show sK λo i j d U M u=>.inr #[M,_,_,_,_,rfl,u.1,u.2.1,u.2.2.1,u.2.2.2.1,u.2.2.2.2.1,by have:=u.2.2.2.2.2;lia]
 clear u M;refine Cr (yI λr d e n hr=>nR #[n,r,_,rfl,hr])<|sK λout i j d e n u=>?_;refine nO<|xu<|tF #[rfl,?_];refine nO (sW (sv
  (I:=λk'=>uD st (Ad a b<|k+1) λo i j d=>(none,i,j,o,d))
  (Q:=λc U=>wT st (a.toList++b.toList) (λr d=>(some r,d)) c U\/uD st (Ad a b<|k+1) (λo i j d=>(none,i,j,o,d)) c U) ?_ (λ_ _=>.inr) #[n,_,_,_,_,rfl,u]) ?_)
 ·clear u n;intro k' c e _ k3;revert c e;refine sK λout i j d e n u=>?_
  have m:=u.1;have J:=u.2.1;have H:=u.2.2.1;have D:=u.2.2.2.1;have N:=u.2.2.2.2.1;have k1:=u.2.2.2.2.2;dsimp only;generalize d.1=g;apply GB (λ(_:Nat) l=>Gs st l)
  case a =>
   intro Zr;refine oQ (λ_=>?_) λ_=>?_
   ·generalize g-1=g';show Zr g' e n
   ·show Zr g e n
  intro g st4 h4;refine nO<|DF h4 λB9 C=>?_;refine nO<|Xo (show j-1<b.size by lia)<|nO<|xO L (C.1.trans hk) (hb _<|tz _) ha (by lia) (by lia) λB hk5=>?_;dsimp only;generalize i-B=ac;have m5:=(m.perm (NW hk5).symm (qm _)).ones (qm _);apply BA (λ(out:Array Keyed) (i:Nat) l=>Gs st l/\Mg a b out (a.toList.take i) (b.toList.take j)/\1<=i/\i<=a.size/\k+1+i+j<a.size+b.size)
  case a =>
   intro Zr;refine oQ (λ_=>oQ (λ_=>nR<|.inl #[C,_,_,rfl,F1 m5]) λz1=>?_) λ_=>?_
   ·have z1:¬B=0:=by simpa using z1
    have r1:1<=B:=by lia
    have r2:B<=a.size:=by lia
    have r3:k+1+B+j<a.size+b.size:=by lia
    have r4:=m5;revert r4 r1 r2 r3;generalize out++(a.extract B i).reverse=Y;generalize B=i';show λr1 r2 r3 r4=>Zr Y i' B9 #[C,r4,r1,r2,r3]
   ·show Zr out i B9 #[C,m,J,H,k1]
  clear m5 m J H k1 C hk5;intro out i st6 u;have h6:=u.1;have m:=u.2.1;have J:=u.2.2.1;have H:=u.2.2.2.1;have k1:=u.2.2.2.2;refine nO<|Xo (show j-1<b.size by lia) ?_;have m:=(m.perm (qm _) (Ba (by lia) N).symm).two;refine oQ (λ_=>nR<|.inl #[h6,_,_,rfl,M5 m]) λz=>?_
  have z:¬j-1=1:=by simpa using z
  refine nO<|Xo (show i-1<a.size by lia)<|nO<|xO L (h6.1.trans hk) (ha _<|tz _) hb (by lia) (by lia) λG hk7=>?_;dsimp only;generalize j-1-G=bc;have m8:=(m.perm (qm _) (NW hk7).symm).twos (qm _);apply BA (λ(out:Array Keyed) (j:Nat) l=>Gs st l/\Mg a b out (a.toList.take i) (b.toList.take j)/\2<=j/\j<=b.size/\k+1+i+j<a.size+b.size)
  case a =>
   intro Zr;refine oQ (λ_=>oQ (λ_=>nR<|.inl #[h6,_,_,rfl,M5 m8]) λz1=>oQ (λ_=>nR<|.inl #[h6,_,_,rfl,F1 m8]) λz2=>?_) λ_=>?_
   ·have z1:¬G=1:=by simpa using z1
    have z2:¬G=0:=by simpa using z2
    have r1:2<=G:=by lia
    have r2:G<=b.size:=by lia
    have r3:k+1+i+G<a.size+b.size:=by lia
    have r4:=m8;revert r4 r1 r2 r3;generalize out.push b[j-1]++(b.extract G<|j-1).reverse=Y;generalize G=j';show λr1 r2 r3 r4=>Zr Y j' st6 #[h6,r4,r1,r2,r3]
   ·show Zr _ _ st6 #[h6,m,by lia,by lia,by lia]
  clear m8 m k1 h6 hk7 z D N;intro out j st7 u;have h7:=u.1;have m:=u.2.1;have D:=u.2.2.1;have N:=u.2.2.2.1;have k1:=u.2.2.2.2;refine nO<|Xo (show i-1<a.size by lia) ?_;have m:=(m.perm (Ba J H).symm (qm _)).one;refine oQ (λ_=>nR<|.inl #[h7,_,_,rfl,F1 m]) λz=>?_
  have z:¬i-1=0:=by simpa using z
  show oQ (λ_=>nR<|.inr #[h7,_,_,_,_,rfl,m,by lia,by lia,D,N,by lia]) λ_=>nR #[h7,_,_,_,_,rfl,m,by lia,by lia,D,N,by lia]
 show Cr (yI λr d e n hr=>nR #[n,r,_,rfl,hr])<|sK λout i j d e n u=>nO<|DF n λB9 C=>nR #[C,_,_,_,_,rfl,u]
omit L
theorem YH{u:Type}{M:Model}{Q:PUnit->u->Prop}{q r:u}(h:Q ⟨⟩ r):wpS M A E s (set r:StateT u Sem PUnit) Q q:=by
 unfold wpS;rw[StateT.run_set];show nk #[rfl,h]
theorem IM:∀(l:lX Keyed)(off k:Nat)(u:Array Keyed),off+k+l.length<=u.size->((l.zipIdx k).foldl (λa x=>a.setIfInBounds (off+x.2) x.1) u).toList=u.toList.take (off+k)++l++u.toList.drop (off+k+l.length)
 | [],off,k,u,_=>by simp
 | x ::l,off,k,u,h=>by
  rw[pJ]at h;rw[List.zipIdx_cons,List.foldl_cons,IM l off (k+1) _ (by rw[Array.size_setIfInBounds];lia),Lw];have r:(u.toList.set (off+k) x).take (off+(k+1))=u.toList.take (off+k)++[x]:=by
   rw[show off+(k+1)=off+k+1 by lia,oH,List.take_set_of_le<|nK _,En<|by simpa using(by lia:off+k<u.size)]
   rfl
  rw[r,List.drop_set_of_lt (by lia),pJ,pp,pp,show off+(k+1)+l.length=off+k+(l.length+1) by lia];simp
theorem Zwv{u m:Array Keyed}{i j k:Nat}(q:i<=j)(n:j<=k)(d:k<=u.size)(r:m.toList.Perm ((u.extract i j).toList++(u.extract j k).toList)) :
  ((m.toList.zipIdx).foldl (λa x=>a.setIfInBounds (i+x.2) x.1) u).Perm u:=by
 have e:(u.extract i j).toList++(u.extract j k).toList=(u.toList.drop i).take (k-i):=by
  rw[xz,xz,xl,xl,show k-i=(j-i)+(k-j) by lia,Hl,List.drop_drop,show i+(j-i)=j by lia]
 rw[e]at r;have l:=r.length_eq;have h:u.toList.length=u.size:=qK;rw[oF,yC,h]at l;rw[Oz,IM m.toList i 0 u<|by lia];have g:u.toList=u.toList.take i++(u.toList.drop i).take (k-i)++u.toList.drop (i+(k-i)):=by
  rw[<-Hl,xG]
 rw[show i+0+m.toList.length=i+(k-i) by lia];show((r.append_left _).append_right _).trans (by rw[CO,<-g])
def Ch:Nat->lX (Nat×Nat×Nat)->Nat->Prop
 | a,[],b=>a=b
 | a,x ::r,b=>x.1=a/\1<=x.2.1/\Ch (a+x.2.1) r b
theorem Ch.le:∀{l:lX (Nat×Nat×Nat)}{a b:Nat},Ch a l b->a<=b
 | [],_,_,h=>xr h
 | _ ::_,_,_,⟨_,_,h⟩=>oy (Nat.le_add_right _ _) h.le
theorem Ch.snoc{n q:Nat}:∀{l:lX (Nat×Nat×Nat)}{a b:Nat},Ch a l b->1<=n->Ch a (l++[(b,n,q)]) (b+n)
 | [],_,_,h,u=>by cases(h:_=_);show#[rfl,u,rfl]
 | _ ::_,_,_,⟨r,j,h⟩,u=>#[r,j,h.snoc u]
theorem Ch.mod{f:Nat×Nat×Nat->Nat×Nat×Nat}(u:∀x,(f x).1=x.1/\(f x).2.1=x.2.1):∀{l:lX (Nat×Nat×Nat)}{k a b:Nat},Ch a l b->Ch a (l.modify k f) b
 | [],k,_,_,h=>by rw[List.modify_nil];show h
 | x ::r,0,_,_,⟨q,n,h⟩=>by rw[List.modify_zero_cons];show#[(u x).1.trans q,by rw[(u x).2];show n,by rw[(u x).2];show h]
 | x ::r,k+1,_,_,⟨q,n,h⟩=>by rw[List.modify_succ_cons];show#[q,n,h.mod u]
theorem Ch.two{x y:Nat×Nat×Nat}{post:lX (Nat×Nat×Nat)}:∀{pre:lX (Nat×Nat×Nat)}{a b:Nat},Ch a (pre++x ::y ::post) b->x.1+x.2.1=y.1/\1<=x.2.1/\1<=y.2.1/\y.1+y.2.1<=b/\Ch a (pre++(x.1,x.2.1+y.2.1,x.2.2) ::post) b
 | [],a,b,⟨u,r,q,n,h⟩=>#[by rw[u,q],r,n,by rw[q];show h.le,u,by change 1<=x.2.1+y.2.1;lia,by change Ch (a+(x.2.1+y.2.1)) post b;rw[<-Nat.add_assoc];show h]
 | z ::pre,a,b,⟨u,r,h⟩=>by
  obtain⟨q,n,l,j,g⟩:=h.two;show#[q,n,l,j,u,r,g]
include L
theorem Rw{pre post:lX (Nat×Nat×Nat)}{x y:Nat×Nat×Nat}{Q:Bool->SortSt->Prop}(h:Ps kd o p st)(D:p.toList=pre++x ::y ::post)(e:x.1+x.2.1=y.1)(hb:y.1+y.2.1<=o.size)(n1:1<=x.2.1)(n2:1<=y.2.1)
  (q:∀(I:Array (Nat×Nat×Nat)) u,I.toList=pre++(x.1,x.2.1+y.2.1,x.2.2) ::post->Ps kd o I u->Q true u):wpS (model prog w) A E s (mergeAt' pre.length) Q st:=by
 obtain⟨l,d,U⟩:=x;obtain⟨c,Y,qw⟩:=y;have g1:(pendingOf st)[pre.length]? =some (l,d,U):=by rw[h.pend,<-sX,D];simp
 have g2:(pendingOf st)[pre.length+1]? =some (c,Y,qw):=by rw[h.pend,<-sX,D];simp
 dsimp only at e hb n1 n2 q;have es:=h.many;refine nO<|uG ?_;change wpS _ _ _ _ (match((pendingOf st)[pre.length]?,(pendingOf st)[pre.length+1]?)with
  | (some (l,d,power),some (c,Y,snd_))=>_
  | x=>_) _ _
 rw[g1,g2];refine nO<|YH ?_;have I:(((pendingOf st).setIfInBounds pre.length (l,d+Y,U)).eraseIdxIfInBounds (pre.length+1)).toList=pre++(l,d+Y,U) ::post:=by
  rw[h.pend,Array.toList_eraseIdxIfInBounds,Lw,D,List.set_append_right _ _<|nK _,List.eraseIdx_append_of_length_le<|qT _];simp
 have N:∀x∈arrOf st,x∈o:=λx M=>h.mem M
 have C:∀u:SortSt,Ps kd o (((pendingOf st).setIfInBounds pre.length (l,d+Y,U)).eraseIdxIfInBounds (pre.length+1)) u->Q true u:=λu z=>q _ u I z
 clear q;refine nO<|Xo (show c<(arrOf st).size by lia)<|nO<|xO L h.kind (N _<|tz _) N (show l+d<=(arrOf st).size by lia) (show 0<d by lia) λk hk=>?_;refine oQ (λ_=>nR<|C _ #[h.perm,h.kind,h.good,rfl]) λ(z:¬(d-k ==0)=true)=>?_
 have z:¬d-k=0:=by simpa using z
 refine nO<|Xo (show l+k+(d-k)-1<(arrOf st).size by lia)<|nO<|xO L h.kind (N _<|tz _) N (show c+Y<=(arrOf st).size by lia) (show Y-1<Y by lia) λH hk3=>?_;refine oQ (λ_=>nR<|C _ #[h.perm,h.kind,h.good,rfl]) λ(B:¬(H ==0)=true)=>?_
 have B:¬H=0:=by simpa using B
 have jn:∀(r:Array Keyed)(n u:SortSt),Gs n u->arrOf n=arrOf st->kindOf n=kd->failedOf n=none->pendingOf n=((pendingOf st).setIfInBounds pre.length (l,d+Y,U)).eraseIdxIfInBounds (pre.length+1)->r.toList.Perm (((arrOf st).extract (l+k) c).toList++((arrOf st).extract c (c+H)).toList)->
   wpS (model prog w) A E s (do
    modify λs=>setArr s<|r.toList.zipIdx.foldl (λa x=>a.setIfInBounds (l+k+x.2) x.1)<|arrOf s
    let x <-get
    pure (failedOf x).isNone) Q u:=λr n u g b1 b2 b3 b4 J=>by
  refine nO<|AV<|nO<|uG<|nR ?_;have e3:failedOf u=none:=g.2.2.2.trans b3;have e4:=g.2.1.trans b1;change Q (failedOf u).isNone _;rw[e3];refine C _ #[?_,g.1.trans b2,e3,g.2.2.1.trans b4];change(r.toList.zipIdx.foldl (λa x=>a.setIfInBounds (l+k+x.2) x.1)<|arrOf u).Perm o;rw[e4];show(Zwv (by lia) (by lia) (by lia) J).trans h.perm
 have z0:1<=((arrOf st).extract (l+k) c).size:=by rw[Jl];lia
 have z3:1<=((arrOf st).extract c (c+H)).size:=by rw[Jl];lia
 have G:∀{i j:Nat},∀x∈(arrOf st).extract i j,x∈o:=λx M=>N x (by
  rw[<-Bi]at M ⊢;rw[xz,xl]at M;show List.mem_of_mem_drop<|Aj M)
 show oQ (λ_=>nO<|Uy L h.kind G G z0 z3 λr u g J=>jn r _ u g rfl h.kind h.good rfl J) λ_=>nO<|SD L h.kind G G z0 z3 λr u g J=>jn r _ u g rfl h.kind h.good rfl J
omit L in
theorem Vl{u:Type}{l:lX u}{i:Nat}(h:i+1<l.length):∃pre x y post,l=pre++x ::y ::post/\pre.length=i:=by
 refine#[l.take i,l[i],l[i+1],l.drop<|i+2,?_,by rw[oF];lia];rw[<-za,<-za,xG]
theorem JG{lo i:Nat}{Q:Bool->SortSt->Prop}(h:Ps kd o p st)(c:Ch 0 p.toList lo)(M:lo<=o.size)(n:i+1<p.size)(q:∀(u:Array (Nat×Nat×Nat)) r,Ps kd o u r->Ch 0 u.toList lo->Q true r):wpS (model prog w) A E s (mergeAt' i) Q st:=by
 obtain⟨pre,x,y,post,e,rfl⟩:=Vl (l:=p.toList) (i:=i) (by simpa using n);rw[e]at c;obtain⟨j,g,d,J,Y⟩:=c.two;show Rw L h e j (by lia) g d λu r U N=>q u r N (by rw[U];show Y)
theorem Sl{Q:Unit->SortSt->Prop}(h:Ps kd o #[] st)(q:∀r,(arrOf r).Perm o->failedOf r=none->Q () r):wpS (model prog w) A E s sortRuns' Q st:=by
 rw[sortRuns'_eq];refine nO<|uG ?_;dsimp only;rw[h.many];generalize minRun' o.size o.size 0=H;refine nO<|sW (sv (I:=λ_ c r=>∃lo p,c=(none,lo)/\Ps kd o p r/\Ch 0 p.toList lo/\lo<=o.size) (Q:=λc r=>∃lo p,c=(none,lo)/\Ps kd o p r/\Ch 0 p.toList lo/\lo<=o.size) ?_ (λ_ _ z=>z) #[0,#[],rfl,h,rfl,rR _]) ?_
 ·rintro x c r _ _ ⟨lo,p,rfl,e,d,Y⟩;dsimp only;refine oQ (λ_=>nR #[lo,p,rfl,e,d,Y]) λz=>?_
  refine nO<|YY L e (by lia) (by lia) λn U j N G=>?_;dsimp only;apply GB (λ(n:Nat) r=>Ps kd o p r/\1<=n/\lo+n<=o.size)
  case a =>
   intro Zr;refine oQ (λD=>nO<|xu<|tF #[rfl,nO<|WV L j (by lia) λi M=>?_]) λ_=>?_
   ·have D:1<=min (o.size-lo) H:=by lia
    have C:lo+min (o.size-lo) H<=o.size:=by lia
    simp only[CA,qF,pW];revert D C;generalize min (o.size-lo) H=n';show λD C=>Zr n' i #[M,D,C]
   ·show Zr n U #[j,N,by lia]
  clear e j N G;rintro n i ⟨M,N,G⟩;refine nO<|uG ?_;apply GQ (λr=>∃p,Ps kd o p r/\Ch 0 p.toList lo)
  case a =>
   intro Zr;cases C:(pendingOf i).back? with
   | none=>show Zr i #[p,M,d]
   | some y =>
    refine nO<|sW (sv (I:=λ_ c l=>c=(none,())/\∃p,Ps kd o p l/\Ch 0 p.toList lo) (Q:=λc l=>c=(none,())/\∃p,Ps kd o p l/\Ch 0 p.toList lo) ?_ (λ_ _ z=>z) #[rfl,p,M,d]) ?_
    ·rintro x c l _ _ ⟨rfl,J,u,g⟩;refine nO<|uG ?_
     by_cases D:(pendingOf l).size >1
     ·rw[nj D,HM (pendingOf l) ((pendingOf l).size-2)<|by lia];refine oQ (λ_=>nR #[rfl,J,u,g]) λ_=>nO<|JG L u g Y ?_ λB st6 h6 c6=>nR #[rfl,B,h6,c6]
      rw[<-u.pend];lia
     ·rw[ng D];show nR #[rfl,J,u,g]
    ·rintro c l ⟨rfl,J,u,g⟩;refine nO<|AV<|Zr _ #[_,#[u.perm,u.kind,u.good,rfl],?_];rw[u.pend,Array.toList_modify];refine Ch.mod (λ_=>?_) g;show#[rfl,rfl]
  rintro l ⟨J,u,g⟩;refine nO<|AV<|nR #[lo+n,_,rfl,#[u.perm,u.kind,u.good,rfl],?_,G];rw[u.pend,AB];show g.snoc N
 ·rintro c r ⟨lo,p,rfl,e,d,Y⟩;dsimp only;refine nO<|sW (sv (I:=λ_ c l=>c=(none,())/\∃p,Ps kd o p l/\Ch 0 p.toList lo) (Q:=λc l=>c=(none,())/\∃p,Ps kd o p l/\Ch 0 p.toList lo) ?_ (λ_ _ z=>z) #[rfl,p,e,d]) ?_
  ·rintro x c U _ _ ⟨rfl,u,j,n⟩;refine nO<|uG ?_;refine oQ (λ_=>nR #[rfl,u,j,n]) λz=>nO<|JG L j n Y ?_ λB st6 h6 c6=>nR #[rfl,B,h6,c6]
   rw[j.pend]at z ⊢;have i:∀b:Bool,(if b=true then u.size-2-1 else u.size-2)+1<u.size:=λb=>by cases b<;>simp<;>lia
   show i _
  ·rintro c U ⟨rfl,u,j,n⟩;show nR<|q U j.perm j.good
end
open PySem.Spec
def Ya.nil_iff{xs:lX V}{us:lX ma}(r:Ya xs us):us=[]↔xs=[]:=by
 cases r with
 | nil=>simp
 | cons _ _=>simp
section
variable {X:Cx} {pos:Pos}
def Sf(c:TT)(s:TS):TS:=λD z H=>∃W:Nat->St->Hp->Prop,(∃m,W m z H)/\∀m z H,W m z H->
 c z H λb x=>if b=true then ∃N:St->Hp->Prop,(∀y w,N y w->∃u,u<m/\W u y w)/\s {D with nx:=N,ct:=N,bk:=D.nx} z x else D.nx z x
def Zyo{c:ml}{body:lX mh}{g:TT}{e:TS}(d:PassesOwn (model X.prog X.w) X.A X.env X.xe)(M:PT X c g)(L:qV X body e):PS X (.While c body [] pos) (Sf g e):=by
 intro q s z H D I h;obtain⟨W,⟨J,G⟩,E⟩:=h;refine wpAny_While<|codeAny_whileLoop (λn r=>∃y w,mS X q y w r/\W n y w) ?_ J #[z,H,I,G];rintro n C ⟨x,a,B,A⟩;refine xA d<|ny (M q C x a _ B<|E n x a A) λb s2 ⟨Y,U,u⟩=>?_;cases b with
 | true =>
  obtain⟨N,Q,u⟩:=u;rw[nj rfl];refine xA d<|ny (L q s2 x Y _ U u) λf N r=>?_;cases f with
  | next =>
   obtain⟨y,w,p,o⟩:=r;obtain⟨l,j,i⟩:=Q y w o;show#[l,j,y,w,p,i]
  | cont =>
   obtain⟨y,w,p,o⟩:=r;obtain⟨l,j,i⟩:=Q y w o;show#[l,j,y,w,p,i]
  | brk=>show r
  | ret v=>show r
 | false =>
  rw[ng oK];show zv #[x,Y,U,u]
end
section
variable {X:Cx} {e:ml} {te:TE} {lo hi:me ml} {tl th:TO} {pos p2:Pos}
def Yhq(K:mf):R2:=λx y H Q=>∃a b w z,x=.ref a/\y=.ref b/\SqT K H a w/\SqT K H b z/\w≠[]/\w.length+z.length<=sizeLine/\
 (z=[]->Q (.ref a) H)/\(z≠[]->∀p,H p=none->Q (.ref p) (mT H p<|.tup<|w++z))
def Ybp:om X (binaryOp .Add) (Yhq X.K):=by
 intro J s z H x y v u Q I j i h;obtain⟨a,b,g,d,rfl,rfl,c,Y,U,l,N,M⟩:=h;cases j;cases i;obtain⟨r,n,L,_⟩:=I.tuple c;obtain⟨r,p,p2,_⟩:=I.tuple Y;refine HT.cat_tup L p2 (λw=>U<|n.nil_iff.mp w) (λw=>#[.ref a,H,I,rfl,N<|p.nil_iff.mp w]) (λw=>?_) (by rw[<-n.length,<-p.length];show l);refine#[.ref #v[s],_,I.laid (t':=s.toks) (o:=.tup<|g++d) (λb r q=>nZ _ q) (nK _) ?_,rfl,M (λr=>w<|p.nil_iff.mpr r) _<|I.hok.fresh<|nK _];show#[by rw[oj];show l,_,n.append p,IsTup.new _ _]
end
section
variable {X:Cx} {a b:ml} {ta tb:TE} {pos:Pos}
def Yjn(K:mf)(T:String)(r:V->lX V->Hp->VK->Prop)(to:TE):TE:=λz H Q=>to z H λx y=>Gh K T x y/\r x [] y Q
variable {o e:ml} {es:lX ml} {to:TE} {t:TA} {name:lY} {u5 j7:Pos} {T id:String} {r:V->lX V->Hp->VK->Prop}
def Ts(p:PlainAttrs T)(slot:Slot T name id)(y:typeOf (.builtin id)=pure (.type "method_descriptor"))(n:Am X id r)(l:PE X o to)
  (j:attributeBase o name X.env (eval o X.env)=eval o X.env:=by rfl) (i:(u5.endLine ==j7.line)=true:=by rfl):PE X (.Call (.Attribute o name u5) [] [] j7) (Yjn X.K T r to):=by
 intro w s z H Q I h;refine GO j i<|ny (l w s z H _ I h) λv g ⟨x,d,u,q,c,Y⟩=>?_;obtain⟨U,N⟩:=PH u q c;show#[T,id,p,slot,y,U,N,xD rfl<|Fo<|n w g z d x [] v [] Q u q .nil Y]
end
section
theorem Ya.zero:∀{us:lX ma},Ya [] us->us=[]
 | _,.nil=>rfl
end
section
def Ya.dropLast{xs:lX V}{us:lX ma}(h:Ya xs us):Ya xs.dropLast us.dropLast:=by
 induction h with
 | nil=>show .nil
 | cons r t z =>
  cases t with
  | nil=>show .nil
  | cons q y=>show .cons r z
end
section
def Ztm{z:Type}(l:lX z):l.eraseIdx (l.length-1)=l.dropLast:=by
 induction l with
 | nil=>rfl
 | cons a r y =>
  cases r with
  | nil=>rfl
  | cons b r =>
   have e:(a ::b ::r).length-1=((b ::r).length-1)+1:=by
    have x:(a ::b ::r).length=r.length+2:=rfl;have w:(b ::r).length=r.length+1:=rfl;lia
   rw[e,CD,y]
   all_goals rfl
end
variable {X:Cx}
def ZL:V->lX V->Hp->VK->Prop:=λx w H Q=>∃l z y,x=.ref l/\w=[]/\H l=some (.lst z)/\z[z.length-1]? =some y/\Q y (mT H l<|.lst z.dropLast)
def SW:BC X "list.pop" ZL:=by
 intro N s z H x M v L Q I i g h;obtain⟨l,w,y,rfl,rfl,j,d,q⟩:=h;cases i;have c:=g.zero;subst c;obtain⟨w,p,n,r,a,e⟩:=I.lstM j;obtain⟨u,Y,U⟩:=r.get d;have o:p.toArray[p.toArray.size-1]? =some u:=by
  change p.toArray[p.length-1]? =some u;rw[<-sX,<-a];show Y
 refine zf Br #[_,e,rfl] F.entry_list_pop (F.args_list_pop_1 _) (MeetsSeq.list_pop_last l p.toArray n u o<|by rw[oM];lia) #[e,?_];refine#[y,_,I.lset (its':=p.dropLast) j e ?_ r.dropLast ?_,U,q]
 ·change p.toArray.eraseIdxIfInBounds (p.toArray.size-1)=p.dropLast.toArray;rw[oM,Nm,Ztm]
 ·rw[List.length_dropLast];lia
section
variable {prog:mn} {w:mj} {A:mo} {E:ma->md->Prop} {s:md}
def Zyb{a b:lY}{t u:Tok}{Q:Bool->md->Prop}(h:Q (decide<|a.cps.toList<b.cps.toList) s):wpAny (model prog w) A (oneLt' false (.str a t)<|.str b u) Q E s:=by
 rw[oneLt'_eq];simp only[qF,pW];refine mU<|wpAny_richCompare_same (op:=.Lt) (xj s a t) (xj s b u) slot_str_lt<|call_str_lt #[(λz=>nomatch z),?_];show uW h
end
section
def yE:ma->lZ
 | .ref a=>a
 | _=>0
end
section
theorem Nv:∀{out:lX ma}{as:lX lZ},(∀v∈out,v∈as.map Value.ref)->out=(out.map yE).map Value.ref
 | [],_,_=>rfl
 | v ::out,as,h=>by
  obtain⟨a,_,e⟩:=nH.mp<|h v oN;rw[oq,oq,<-Nv λu z=>h u<|oZ _ z,<-e]
  rfl
end
section
theorem OW:∀as:lX lZ,Ya (as.map V.ref) (as.map Value.ref)
 | []=>.nil
 | a ::as=>.cons rfl<|OW as
end
section
variable {prog:mn} {w:mj} {A:mo} {E:ma->md->Prop} {s:md}
theorem XH:∀{vs:lX ma},vs.length<2->(vs.toArray.zip vs.toArray).map (·.2)=vs.toArray
 | [],_=>by simp
 | [_],_=>by simp
 | _ ::_ ::_,h=>absurd h (by simp)
def Yae{a:lZ}{vs:lX ma}{n:Nat}{kd:SortKind}{P:Fin->md->Prop}(q:s.heap.get? a=some (seqObj "list" vs.toArray n))(hz:vs.length<=sizeLine)
  (c:2<=vs.length->∀y:mi,(∀b x,b≠a->s.heap.get? b=some x->y.get? b=some x)->(∀Q:SortKind->md->Prop,Q kd {s with heap:=y}->wpAny (model prog w) A (keyKind' vs.toArray) Q E {s with heap:=y})/\zp prog w A {s with heap:=y} kd (pairsOf vs))
  (h:∀out:lX ma,out.Perm vs->P (.done<|.ret .none) {s with heap:=sortedHeap s.heap a vs out.toArray}):wpAny (model prog w) A (Builtin.«list.sort» #[[.ref a],[]]) P E s:=by
 rw[list_sort_plain];have D:a<#v[s]:=nS q;refine mU (listItems_at q rfl<|mU<|listUpdate_at q rfl ?_ (hsz:=by simpa using hz));obtain⟨j,i⟩:∃j,(s.heap.update a<|Obj.mapSeq λ_=>#[]).get? a=some (seqObj "list" #[] j):=#[_,get?_update_seq q _]
 refine mU<|seqEpoch_at i rfl<|mU<|wpAny_newTuple (hsz:=by simpa using hz)<|mU<|Cs<|qt ?_;generalize g:((s.heap.update a<|Obj.mapSeq λ_=>#[]).push (seqObj "tuple" vs.toArray 0)).push (seqObj "list" #[] 0)=y;have z:∀b x,(s.heap.update a<|Obj.mapSeq λ_=>#[]).get? b=some x->y.get? b=some x:=λb x p=>by
  rw[<-g];show nZ _<|nZ _ p
 have u:=z _ _ i;have z:∀b x,b≠a->s.heap.get? b=some x->y.get? b=some x:=λb x Y p=>z b x (by rw[rV _ _ (oW Y)];show p)
 have fin:∀out:lX ma,out.Perm vs->P (.done<|.ret .none) {s with heap:=y.update a (Obj.mapSeq λ_=>out.toArray)}:=λout U=>by
  have:=h out U;unfold sortedHeap at this;rw[g]at this;show this
 change wpAny (model prog w) A _ P E {s with heap:=y};dsimp only
 by_cases r:vs.toArray.size<2
 ·rw[nj r,nj r];refine mU<|nk ?_;rw[StateT.run_pure];refine mU<|nk ?_;dsimp only;refine mU (seqEpoch_at u rfl<|mU<|listUpdate_at u rfl ?_ (hsz2:=by rw[Array.size_map];change(pairsOf vs).size<=_;rw[pairsOf_size];lia));simp only[De,qF,pW];refine nk ?_;change P _ {s with heap:=y.update a (Obj.mapSeq λ_=>(vs.toArray.zip vs.toArray).map (·.2))};rw[XH (by simpa using r)];show fin vs<|qm _
 ·rw[ng r,ng r];have o:2<=vs.length:=by
   have:¬vs.length<2:=by simpa using r
   lia
  obtain⟨N,M⟩:=c o y z;refine mU<|N _ ?_;refine mU<|pX (Sl M (st:=SortSt.mk' kd (vs.toArray.zip vs.toArray) #[] 7 none) (Q:=λ_ st=>(arrOf st).Perm (pairsOf vs)/\failedOf st=none) #[Array.Perm.refl _,rfl,rfl,rfl] λst L J=>#[L,J]) ?_ λ_ _ e=>e;rintro⟨⟨⟩,st⟩ C ⟨rfl,d,I⟩;dsimp only;have l:(arrOf st).size=vs.length:=d.size_eq.trans<|pairsOf_size _;refine mU (seqEpoch_at u rfl<|mU<|listUpdate_at u rfl ?_ (hsz2:=by rw[Array.size_map,l];lia));rw[I];simp only[De,qF,pW];refine nk ?_;have H:(arrOf st).toList.Perm (vs.zip vs):=by rw[<-pairsOf_toList];show Oz.mp d
  have G:(arrOf st).map (·.2)=((arrOf st).toList.map (·.2)).toArray:=by rw[<-Array.toList_map,Array.toArray_toList]
  change P _ {s with heap:=y.update a (Obj.mapSeq λ_=>(arrOf st).map (·.2))};rw[G];show fin _ ((H.map _).trans (by rw[List.map_snd_zip (nK _)]))
def vF(h:mi)(v:ma):Prop:=∃(a:lZ)(z:Obj)(x:ma)(u:lX ma)(n:Nat),v=.ref a/\h.get? a=some z/\z.cls=.type "tuple"/\z.data=.seq (x ::u).toArray n/\∀y∈x ::u,∃p t,y=Value.str p t
theorem Qp{b fin:Bool}{Q:Bool->md->Prop}(q:∀b,Q b s):∀(l:lX (ma×ma)) (i:Nat),(∀p∈l,(∃x t,p.1=Value.str x t)/\∃x t,p.2=Value.str x t)->PySem.W.KatLex prog w A b fin Q l i s
 | [],_,_=>PySem.W.kat_nil (q _)
 | (u,v) ::l,i,h=>by
  obtain⟨⟨x,t,rfl⟩,y,z,rfl⟩:=h _ oN;refine Gj<|Dp<|FO (λ_=>GK<|Qp q l (i+1) λp z=>h p<|oZ _ z) λ_=>GV ?_;cases b && i ==0 with
  | true=>show oneLt_str (q _)
  | false=>show Zyb<|q _
def RZ{vs:lX ma}(h:∀v∈vs,vF s.heap v):zp prog w A s (tuples' true) (pairsOf vs):=λx z y o U Q q=>by
 have mem:∀x∈pairsOf vs,vF s.heap x.1:=λx z=>by
  rw[<-Bi,pairsOf_toList]at z;show h _ (tW z).1
 obtain⟨a,p,u,N,n,l,j,M,i,g⟩:=mem x z;obtain⟨b,u,v,vs,m,e,d,p,c,Y⟩:=mem y o;rw[l,e];refine PySem.W.kat_lt j i d c<|Qp q _ 0 λp r=>?_;show#[g _ (by simpa using(tW r).1),Y _<|by simpa using(tW r).2]
def SZ{vs:lX ma}{Q:SortKind->md->Prop}(h:∀v∈vs,vF s.heap v)(o:2<=vs.length)(q:Q (tuples' true) s):wpAny (model prog w) A (keyKind' vs.toArray) Q E s:=by
 have all:∀l:lX ma,(∀v∈l,vF s.heap v)->∃fs,PySem.W.KatTups s.heap l fs/\fs.length=l.length/\∀f∈fs,∃p t,f=Value.str p t:=by
  intro l
  induction l with
  | nil=>show λ_=>#[[],OL,rfl,λ_ z=>nomatch z]
  | cons v l j =>
   intro h;obtain⟨fs,y,o,x⟩:=j λv r=>h v<|oZ _ r
   obtain⟨a,c,u,Y,n,rfl,i,g,e,d⟩:=h v oN;refine#[u ::fs,Qq i g e rfl y,by rw[pJ,pJ,o],λf z=>?_];rcases oh.mp z with rfl|z
   ·show d _ oN
   ·show x f z
 obtain⟨fs,y,e,x⟩:=all vs h;refine PySem.W.kat_kind (T:=.type "str") y (by lia) (λv r=>?_) (by lk) q;obtain⟨p,t,rfl⟩:=x v r;show .now
end
section
def EQ{z y:Type}{R:z->y->Prop}{as u:lX z}(p:u.Perm as):∀{bs:lX y},Paired R as bs->∃s,s.Perm bs/\Paired R u s:=by
 induction p with
 | nil=>show λh=>#[_,qm _,h]
 | cons x _ w =>
  rintro _ (_|⟨r,t⟩);obtain⟨s,p,q⟩:=w t;show#[_,p.cons _,.cons r q]
 | swap x w l =>
  rintro _ (_|⟨r,_|⟨q,t⟩⟩);show#[_,.swap _ _ _,.cons q<|.cons r t]
 | trans _ _ w q =>
  intro bs h;obtain⟨g,o,n⟩:=q h;obtain⟨l,j,i⟩:=w n;show#[l,j.trans o,i]
end
section
variable {prog:mn} {w:mj} {A:mo} {E:ma->md->Prop} {s:md}
def uY{z:Type}[DecidableEq z](lt:z->z->Bool):lX z->lX z->Bool
 | [],[]=>false
 | [],_ ::_=>true
 | _ ::_,[]=>false
 | a ::x,b ::y=>if a=b then uY lt x y else lt a b
def xg(a b:lY):Bool:=decide<|a.cps.toList<b.cps.toList
def Nu{z:lX lY}{vs:lX ma}(g:ItemsAre (PySem.strKind prog w) z vs):StrsAre vs z:=by
 induction g with
 | nil=>show .nil
 | cons h t y =>
  obtain⟨u,rfl⟩:=Value.isStrOf_shape h;show .cons _ _ y
def ZX{x y:lX lY}{a b:lZ}{P:Fin->md->Prop}(B:IsTupleKey (PySem.strKind prog w) s.heap x a)(C:IsTupleKey (PySem.strKind prog w) s.heap y b)(h:P (.done<|.ret<|.bool<|uY xg x y) s) :
  wpAny (model prog w) A (Builtin.«tuple.__lt__» #[[.ref a,.ref b],[]]) P E s:=by
 have M:=C.typeIs;obtain⟨z,c,u,L,_,J,l⟩:=B;obtain⟨z,Y,u,D9,_,Q0,j⟩:=C;change wpAny _ _ (isInstance (.ref b) (.type "tuple")>>=_) _ _ s;refine mU<|Ee M isSubtype_tuple_tuple ?_;simp only[CA,qF,pW];refine mU<|wpAny_tupleItemsOf L J<|mU<|wpAny_tupleItemsOf D9 Q0<|mU ?_;have l:=Nu l;have j:=Nu j;refine wpAny_forIn_list _ (λZr r g=>r.1=none/\g=s/\∃U Q p o,Zr=List.zip p o/\StrsAre p U/\StrsAre o Q/\uY xg U Q=uY xg x y/\decide (p.length<o.length)=decide (c.size<Y.size)) _ ?_ ?_ _ _ #[rfl,rfl,x,y,c.toList,Y.toList,rfl,l,j,rfl,by simp]
 ·rintro⟨u,v⟩ Zr r g ⟨I,rfl,U,Q,p,o,e,i,n,q,H⟩;cases i with
  | nil=>simp at e
  | cons G t1 u =>
   cases n with
   | nil=>simp at e
   | cons D t2 d =>
    simp only[List.zip_cons_cons,AU,yz]at e;obtain⟨⟨rfl,rfl⟩,rfl⟩:=e;refine mU<|Dp ?_
    by_cases N:G=D
    ·rw[og N];simp only[CA,qF,pW];refine nk #[rfl,rfl,_,_,_,_,rfl,u,d,?_,by simpa using H];rw[<-q];show(nj N).symm
    ·rw[ow N];simp only[Bool.not_false,rP];have hf:xg G D=uY xg x y:=by rw[<-q];show(ng N).symm
     refine mU<|tF<|mU<|wpAny_richCompare_same (op:=.Lt) (xj g G t1) (xj g D t2) slot_str_lt<|call_str_lt #[(λz=>nomatch z),?_];rw[<-hf]at h;show mU<|nk<|nk<|nk h
 ·rintro⟨u,d⟩ g ⟨I,rfl,U,Q,p,o,e,i,n,q,H⟩;simp only at I;subst I;refine nk ?_;have z:decide (c.size<Y.size)=uY xg x y:=by
   rw[<-q,<-H];cases i with
   | nil =>
    cases n with
    | nil=>simp[uY]
    | cons _ _ _=>simp[uY]
   | cons _ _ _ =>
    cases n with
    | nil=>simp[uY]
    | cons _ _ _=>simp at e
  change P (.done<|.ret<|.bool<|decide<|c.size<Y.size) g;rw[z];show h
def Zxr{x y:lX lY}{a b:lZ}{Q:Bool->md->Prop}(r:A.units<cLine)(z:IsTupleKey (PySem.strKind prog w) s.heap x a)(u:IsTupleKey (PySem.strKind prog w) s.heap y b)(h:Q (uY xg x y) s):wpAny (model prog w) A (oneLt' false (.ref a)<|.ref b) Q E s:=by
 rw[oneLt'_eq];simp only[qF,pW];show mU<|wpAny_richCompare_same_room (op:=.Lt) z.typeIs u.typeIs Ka (wv Ka z.typeIs PySem.F.entry_tuple_lt (ZX z u #[_,rfl,(λe=>nomatch e),uW h])<|PySem.F.args_tuple_lt_2 _ _) r
end
section
def Mj(K:mf):R2:=λx y H Q=>∃a b z w,x=.ref a/\y=.ref b/\SqT K H a z/\SqT K H b w/\z≠[]/\w≠[]/\z.length+w.length<=sizeLine/\pG H (.tup<|z++w) Q
end
section
def Nw{X:Cx}:om X (binaryOp .Add) (Mj X.K):=Ybp.imp λx y H Q h=>by
 obtain⟨a,b,w,u,s,r,q,o,n,l,j,i⟩:=h;show#[a,b,w,u,s,r,q,o,n,j,λz=>absurd z l,λ_ p g=>i.at p g]
end
section
variable {prog:mn} {w:mj} {A:mo} {E:ma->md->Prop} {s:md}
def vN(prog:mn)(w:mj)(h:mi)(v:ma):Prop:=∃(a:lZ)(z:Obj)(p:lY)(t:Tok)(x:lX ma)(n:Nat),v=.ref a/\h.get? a=some z/\z.cls=.type "tuple"/\z.data=.seq (.str p t ::x).toArray n/\∀y∈x,∃b u,y=Value.ref b/\IsTupleKey (PySem.strKind prog w) h u b
def vN.mono{h h':mi}{v:ma}(k:∀b z,z.cls=.type "tuple"->h.get? b=some z->h'.get? b=some z)(x:vN prog w h v):vN prog w h' v:=by
 obtain⟨a,z,p,t,q,n,e,f,c,d,r⟩:=x;refine#[a,z,p,t,q,n,e,k a z c f,c,d,λy l=>?_];obtain⟨b,j,i,o,g,m,Y,u,U⟩:=r y l;show#[b,j,i,o,g,m,k b o u Y,u,U]
theorem QF{fin:Bool}{Q:Bool->md->Prop}(y:A.units<cLine)(q:∀b,Q b s):∀(l:lX (ma×ma)) (i:Nat),(∀p∈l,(∃b z,p.1=Value.ref b/\IsTupleKey (PySem.strKind prog w) s.heap z b)/\∃b z,p.2=Value.ref b/\IsTupleKey (PySem.strKind prog w) s.heap z b)->PySem.W.KatLex prog w A true fin Q l (i+1) s
 | [],_,_=>PySem.W.kat_nil (q _)
 | (u,v) ::l,i,h=>by
  obtain⟨⟨b,z,x,o⟩,c,j,r,n⟩:=h _ oN;have x:u=.ref b:=x;have r:v=.ref c:=r;subst x r;show Gj (wpAny_eqBool_tuple y o n (FO (λ_=>GK<|QF y q l (i+1) λp j=>h p<|oZ _ j) λ_=>GV (show wpAny _ _ (oneLt' false (.ref b)<|.ref c) _ _ _ from Zxr y o n<|q _)))
def Rj{z:lX lY}{vs:lX ma}(h:StrsAre vs z):ItemsAre (PySem.strKind prog w) z vs:=by
 induction h with
 | nil=>show .nil
 | cons x t _ h=>show .cons (by simp[PySem.strKind,Value.isStrOf]) h
def WC{vs:lX ma}(o:A.units<cLine)(h:∀v∈vs,vN prog w s.heap v):zp prog w A s (tuples' true) (pairsOf vs):=λx u y l J j q=>by
 have mem:∀x∈pairsOf vs,vN prog w s.heap x.1:=λx u=>by
  rw[<-Bi,pairsOf_toList]at u;show h _ (tW u).1
 obtain⟨a,z,p,t,i,n,g,e,r,d,c⟩:=mem x u;obtain⟨b,z,Y,U,vs,m,Q,N,r,M,L⟩:=mem y l;rw[g,Q];refine PySem.W.kat_lt e d N M ?_;change PySem.W.KatLex prog w A true _ j ((.str p t,.str Y U) ::i.zip vs) 0 s;show Gj<|Dp<|FO (λ_=>GK<|QF o q _ 0 λz r=>#[c _ (tW r).1,L _ (tW r).2]) λ_=>GV<|oneLt_str<|q _
def Yaf{vs:lX ma}{Q:SortKind->md->Prop}(h:∀v∈vs,vN prog w s.heap v)(r:2<=vs.length)(q:Q (tuples' true) s):wpAny (model prog w) A (keyKind' vs.toArray) Q E s:=by
 have all:∀l:lX ma,(∀v∈l,vN prog w s.heap v)->∃fs,PySem.W.KatTups s.heap l fs/\fs.length=l.length/\∀f∈fs,∃p t,f=Value.str p t:=by
  intro l
  induction l with
  | nil=>show λ_=>#[[],OL,rfl,λ_ z=>nomatch z]
  | cons v l o =>
   intro h;obtain⟨fs,y,r,x⟩:=o λv u=>h v<|oZ _ u
   obtain⟨a,e,p,t,d,n,rfl,j,i,g,c⟩:=h v oN;refine#[.str p t ::fs,Qq j i g rfl y,by rw[pJ,pJ,r],λf z=>?_];rcases oh.mp z with rfl|z
   ·show#[p,t,rfl]
   ·show x f z
 obtain⟨fs,y,e,x⟩:=all vs h;refine PySem.W.kat_kind (T:=.type "str") y (by lia) (λv u=>?_) (by lk) q;obtain⟨p,t,rfl⟩:=x v u;show .now
end
section
def OH{X:Cx}(hu:X.A.units+64<cLine){g:lX (lZ×Obj)}{s:md}{z:St}{H:Hp}{Q:VK}{p:lZ}{ts:lX lZ}(I:mS X g z H s)(pl:PlainL s.heap p (ts.map Value.ref).toArray)(w:(ts.map Value.ref).length<=sizeLine){Pv:mi->ma->Prop}(M:∀v∈ts.map Value.ref,Pv s.heap v)
  (B:∀{h h':mi}{v:ma},(∀b u,u.cls=.type "tuple"->h.get? b=some u->h'.get? b=some u)->Pv h v->Pv h' v)
  (pk:∀{A:mo}{E:ma->md->Prop}{s:md}{vs:lX ma}{Q:SortKind->md->Prop},(∀v∈vs,Pv s.heap v)->2<=vs.length->Q (tuples' true) s->wpAny (model X.prog X.w) A (keyKind' vs.toArray) Q E s)
  (pa:∀{A:mo}{s:md}{vs:lX ma},A.units<cLine->(∀v∈vs,Pv s.heap v)->zp X.prog X.w A s (tuples' true) (pairsOf vs))
  (q:∀L:lX lZ,L.Perm ts->pG H (.lst<|L.map V.ref) Q):∅ (call (.builtin "sorted") [.ref p]) (EP X g z Q) X.xe s:=by
 refine Dh kind_sorted plain_sorted entry_sorted (args_sorted1 _) ?_;unfold Builtin.«sorted»;refine mU (m:=checkCount "sorted" 1 1 _)<|nk<|mU<|collect_list pl.isList (hsz:=w)<|mU<|Cs (hsz:=w) ?_;generalize hV:ts.map Value.ref=vs at M w pl ⊢;have d:((s.heap.push<|seqObj "list" #[] 0).update #v[s] (Obj.mapSeq (· ++vs.toArray))).objs.size=#v[s]+1:=by rw[Heap.size_update,size_push']
 have Y:(((s.heap.push<|seqObj "list" #[] 0).update #v[s] (Obj.mapSeq (· ++vs.toArray))).push (seqObj "list" vs.toArray 0)).get? (#v[s]+1)=some (seqObj "list" vs.toArray 0):=by
  rw[<-d];show oG _ rfl
 have J:∀b o,s.heap.get? b=some o->(((s.heap.push<|seqObj "list" #[] 0).update #v[s] (Obj.mapSeq (· ++vs.toArray))).push (seqObj "list" vs.toArray 0)).get? b=some o:=λb o j=>by
  have lt:=nS j;rw[Heap.get?_push_ne _ _ _ (by rw[d];show oi<|Ae lt),rV _ _<|vK lt];show nZ _ j
 change wpAny _ _ _ _ _ {s with heap:=((s.heap.push<|seqObj "list" #[] 0).update #v[s] (Obj.mapSeq (· ++vs.toArray))).push (seqObj "list" vs.toArray 0)};rw[d];have fin:∀out:lX ma,out.Perm vs->∃y G,mS X g z G {s with heap:=sortedAll s.heap vs out.toArray}/\Yg y (.ref<|#v[s]+1)/\Q y G:=λout r=>by
  subst hV;have D:out=(out.map yE).map Value.ref:=Nv λv U=>r.mem_iff.mp U
  have N:(out.map yE).Perm ts:=by
   have:=r.map yE;rw[oU,show(yE ∘ Value.ref)=id from rfl,Ig]at this;show this
  generalize C:out.map yE=n at D N;subst D;obtain⟨e,he⟩:=sortedAll_at s.heap (ts.map Value.ref) (n.map Value.ref).toArray;have hl:=N.length_eq;rw[mV]at w;show#[.ref<|#v[s]+1,_,I.laid (a:=#v[s]+1) (o:=.lst<|n.map V.ref) (t':=s.toks) (λb o h=>sortedAll_old h) (qT _) (show Z7 X.prog X.w _ _ _ (.lst _)from#[by rw[mV];lia,n.map Value.ref,e,OW _,he]),rfl,(q n N).at _ (I.hok.fresh<|qT _)]
 unfold sortedAll at fin;generalize hG:((s.heap.push<|seqObj "list" #[] 0).update #v[s] (Obj.mapSeq (· ++vs.toArray))).push (seqObj "list" vs.toArray 0)=i at Y J fin ⊢;have so:∀(A:mo)(E:ma->md->Prop)(P:Fin->md->Prop),A.units<cLine->(∀out:lX ma,out.Perm vs->P (.done<|.ret .none) {s with heap:=sortedHeap i (#v[s]+1) vs out.toArray})->wpAny (model X.prog X.w) A (Builtin.«list.sort» #[[.ref (#v[s]+1)],[]]) P E {s with heap:=i}:=λA E P C h =>
  have mono:∀l:mi,(∀b u,b≠#v[s]+1->i.get? b=some u->l.get? b=some u)->∀v∈vs,Pv l v:=λl k v U=>B (λb u c j=>k b u (λx=>by
   have:=nS j;rw[x]at this;show absurd this<|Nat.not_lt.mpr<|qT _)<|J b u j) (M v U)
  Yae (s:={s with heap:=i}) (kd:=tuples' true) Y w (λx l k=>#[λQ q=>pk (s:={s with heap:=l}) (mono l k) x q,pa (s:={s with heap:=l}) C<|mono l k]) h
 show mU<|qt<|wv slot_list_sort #[_,Y,rfl] entry_list_sort (so _ _ _ (by simp only[We];lia) λout r=>#[_,rfl,nk #[_,rfl,fin out r]])<|args_list_sort _
end
section
def JW(K:mf):lX V->Hp->VK->Prop:=λw H Q=>∃(p:lZ)(z:lX lZ),w=[.ref p]/\SqL K H p (z.map V.ref)/\(∀t∈z,∃(sig:lY)(y:lX lZ),H t=some (.tup<|.str sig ::y.map V.ref)/\∀u∈y,∃l:lX lY,H u=some (.tup<|l.map V.str))/\∀x:lX lZ,x.Perm z->pG H (.lst<|x.map V.ref) Q
end
section
def Zt1{X:Cx}(g:X.A.units+64<cLine):Y5 X (.builtin "sorted") (JW X.K):=by
 intro c7 s z H xs n Q I r h;obtain⟨p,j,rfl,e,d,q⟩:=h;obtain⟨u,rfl,c⟩:=Wr r;cases c;obtain⟨a,Y,U,i⟩:=I.list e;have w:=wp Y;subst w;have o:(j.map Value.ref).length<=sizeLine:=by rw[mV]at i ⊢;show i
 have N:∀v∈j.map Value.ref,vN X.prog X.w s.heap v:=λv M=>by
  obtain⟨t,L,rfl⟩:=nH.mp M;obtain⟨sig,n,J,G⟩:=d t L;obtain⟨_,a,E,D,C,B,m,A⟩:=(show Z7 X.prog X.w H s.heap t (.tup<|.str sig ::n.map V.ref)from I.hok _ _ J)
  cases E with
  | cons y zs =>
   obtain⟨tk,rfl⟩:=y;have w:=wp zs;subst w;refine#[t,D,sig,tk,_,m,rfl,C,B,A,λx hy=>?_];obtain⟨u,p,rfl⟩:=nH.mp hy;obtain⟨l,hl⟩:=G u p;obtain⟨_,ws,D3,o3,g1,g2,m3,g3⟩:=(show Z7 X.prog X.w H s.heap u (.tup<|l.map V.str)from I.hok _ _ hl)
   show#[u,l,rfl,o3,ws.toArray,m3,g1,g2,g3,by simpa using Rj (xT D3)]
 show OH g I U o N vN.mono Yaf WC q
end
section
def vF.up{h h':mi}{v:ma}(k:∀b z,z.cls=.type "tuple"->h.get? b=some z->h'.get? b=some z)(x:vF h v):vF h' v:=by obtain⟨b,z,y,w,m,e,f,c,d,r⟩:=x;show#[b,z,y,w,m,e,k b z c f,c,d,r]
end
section
def Yat{w:lX lY}{vs:lX ma}(h:StrsAre vs w):∀y∈vs,∃p t,y=Value.str p t:=by
 induction h with
 | nil=>intro y z;cases z
 | cons x t _ u =>
  intro y z;rcases oh.mp z with rfl|z
  ·show#[_,_,rfl]
  ·show u y z
end
section
def FA(K:mf):lX V->Hp->VK->Prop:=λw H Q=>∃(p:lZ)(z:lX lZ),w=[.ref p]/\SqL K H p (z.map V.ref)/\(∀t∈z,∃(x:lY)(l:lX lY),H t=some (.tup<|(x ::l).map V.str))/\∀y:lX lZ,y.Perm z->pG H (.lst<|y.map V.ref) Q
end
section
def Mp{X:Cx}(i:X.A.units+64<cLine):Y5 X (.builtin "sorted") (FA X.K):=by
 intro A s z H xs us Q I r h;obtain⟨p,n,rfl,g,e,q⟩:=h;obtain⟨u,rfl,d⟩:=Wr r;cases d;obtain⟨c,a,Y,j⟩:=I.list g;have U:=wp a;subst U;have o:(n.map Value.ref).length<=sizeLine:=by rw[mV]at j ⊢;show j
 have N:∀v∈n.map Value.ref,vF s.heap v:=λv M=>by
  obtain⟨t,L,rfl⟩:=nH.mp M;obtain⟨x,l,J⟩:=e t L;obtain⟨_,c,G,E,D,C,m,B⟩:=(show Z7 X.prog X.w H s.heap t (.tup<|(x ::l).map V.str)from I.hok _ _ J)
  cases G with
  | cons y p =>
   obtain⟨tk,rfl⟩:=y;refine#[t,E,_,_,m,rfl,D,C,B,λw u=>?_];rcases oh.mp u with rfl|u
   ·show#[_,_,rfl]
   ·show Yat (xT p) w u
 show OH i I Y o N vF.up SZ (λ_=>RZ) q
end
end L2
section
namespace L2
open PySem PySem.Spec PyProof.Rows
def PR(K:mf):R2:=λx y H Q=>∃a w z,x=.ref a/\y=.str z/\SqT K H a w/\Q (.bl false) H
def Vk{X:Cx}(j:X.A.units+64<cLine):om X (compareOp .Eq) (PR X.K):=by
 intro i s z H x y v u Q I r p h;obtain⟨a,g,w,rfl,rfl,o,q⟩:=h;cases r;obtain⟨t,rfl⟩:=(show ∃t,u=Value.str w t from p)
 obtain⟨n,g,l,_⟩:=I.tuple o;show SeqAt.RcAt.tuple_str w t (show s.heap.IsTuple a n.toArray from l) (by lia) _ _ _ _ #[.bl false,H,I,rfl,q]
def Kb(K:mf):R2:=λx y H Q=>wg K x y H Q\/PR K x y H Q
def Yjd{X:Cx}{k:Nat}(z:Y0 k X.A):om X (compareOp .Eq) (Kb X.K):=(Bl z).or (Vk z.units)
end L2
end
namespace L2
open PySem PySem.Spec PyProof.Rows
def Ydl(t:SetTable)(z:Array (Int×ma))(h:Int)(x:ma):(layNew t z h x).2.1.led=t.led/\(t.plain=false->(layNew t z h x).2.1.plain=false):=by
 unfold layNew;split
 ·change((t.put _).1.orStandIn _).led=_/\(_->((t.put _).1.orStandIn _).plain=_);unfold SetTable.orStandIn;split
  ·show#[rfl,id]
  ·show#[rfl,λ_=>rfl]
 ·show#[rfl,λ_=>rfl]
def Ua(t:SetTable)(y:Array (Int×ma))(n:Nat):(relayAll t y n).2.1.led=t.led/\(t.plain=false->(relayAll t y n).2.1.plain=false):=by
 unfold relayAll;split
 ·rename_i x z e;dsimp only;split
  ·unfold SetTable.relaid SetTable.laid at e;obtain⟨_,_,e⟩:=Option.bind_eq_some_iff.mp e;cases e;show#[rfl,id]
  ·show#[rfl,λ_=>rfl]
 ·show#[rfl,λ_=>rfl]
section
variable {prog:mn} {w:mj} {A:mo} {E:ma->md->Prop} {s:md}
def rG(w:mj):Bool:=w.params.followText "set-order"
def tX(w:mj)(h:mi)(a:lZ)(ds:lX lY):Prop:=∃z y t,h.get? a=some {cls:=.type "set",dict:=none,data:=.set z y t,slots:=#[]}/\ElemsOf (PySem.strKind prog w) z.toList/\(∀k,k∈ds↔∃e∈z.toList,(PySem.strKind prog w).is k e.2=true)/\ds.Nodup/\z.size=ds.length/\z.size<scanBound/\t.fits z.size=true/\t.led=!rG w/\(ds≠[]->t.plain=false)
def Mo{g:Bool->Sem Unit}(j:∀(b:Bool)(q:md)(p:Unit->md->Prop),p () q->wpAny (model prog w) A (g b) p E q){i:Array (Int×ma)}{ep:Nat}{t:SetTable}(o:s.heap.get? a=some {cls:=.type "set",dict:=none,data:=.set i ep t,slots:=#[]})
  {z:Array (Int×ma)} {t2:SetTable} (e:z.size<scanBound) (d:t2.fits z.size=true) {R:me Bool->md->Prop}
  (h:∀h' u c t',Heap.SameBut a s.heap h'->h'.get? a=some {cls:=.type "set",dict:=none,data:=.set u c t',slots:=#[]}->u.toList.Perm z.toList->t'.fits u.size=true->t'.led=t2.led->(t2.plain=false->t'.plain=false)->R (some true) {s with heap:=h'}) :
  wpAny (model prog w) A (do
    storeSet a z t2
    if(!N && t2.tooFull)=true then do
      g (relayAll t2 z<|SetTable.grown z.size).2.2
      storeSet a (relayAll t2 z<|SetTable.grown z.size).1 (relayAll t2 z<|SetTable.grown z.size).2.1
      pure (some true)
     else pure (some true)) R E s:=by
 have n:=fits_of_scanBound e;refine mU<|wpAny_storeSet_of o rfl ?_ n;have y:(s.heap.update a<|Obj.putSet z t2).get? a=some {cls:=.type "set",dict:=none,data:=.set z (ep+1) t2,slots:=#[]}:=ux (Obj.putSet z t2) o rfl;have x:=xH s.heap a<|Obj.putSet z t2;split
 ·have l:=relayAll_perm t2 z<|SetTable.grown z.size;have Y:=relayAll_fits t2 z<|SetTable.grown z.size;obtain⟨U,Q⟩:=Ua t2 z<|SetTable.grown z.size;have r:(relayAll t2 z<|SetTable.grown z.size).1.size=z.size:=by rw[<-qK,l.length_eq,qK]
  refine mU<|j _ _ _ ?_;refine mU (wpAny_storeSet_of y rfl ?_ (by rw[r];show n));show nk<|h _ _ _ _ (x.trans<|xH _ a _) (ux (Obj.putSet _ _) y rfl) l Y U Q
 ·show nk<|h _ _ _ _ x y (.refl _) d rfl id
def Sk{x:lY}{i:Tok}{ds:lX lY}{Q:Bool->md->Prop}(hS:tX (prog:=prog) w s.heap a ds)(hb:ds.length+1<scanBound)
  (h:∀b h',Heap.SameBut a s.heap h'->tX (prog:=prog) w h' a (if x∈ds then ds else ds++[x])->Q b {s with heap:=h'}):wpAny (model prog w) A (setAddHashed a (.str x i)<|(PySem.strKind prog w).hash x) Q E s:=by
 obtain⟨q,ep,t,U,G,D,O4,N,M,hf,r,m9⟩:=hS;have hk:(PySem.strKind prog w).is x (.str x i)=true:=by simp[PySem.strKind,Value.isStrOf]
 unfold setAddHashed setAddHashedIn;refine qt<|mU<|vi U rfl hf ?_;dsimp only;rw[byScan_of (knd:=PySem.strKind prog w) rfl M G];simp only[↓reduceIte];unfold setAddByScan;refine mU<|mU<|tF<|mU<|wpAny_setScan_of hk U rfl hf G ?_;cases hr:List.findIdx? (λe=>(PySem.strKind prog w).is x e.2) q.toList with
 | some j =>
  dsimp only;obtain⟨hj,hpj,_⟩:=List.findIdx?_eq_some_iff_getElem.mp hr;have C:x∈ds:=(D x).mpr #[q.toList[j],BU hj,hpj];refine nk<|nk ?_;have:=h false s.heap (Heap.SameBut.refl a s.heap) (by rw[nj C];show#[q,ep,t,U,G,D,O4,N,M,hf,r,m9]);show this
 | none =>
  dsimp only;have C:x∉ds:=λz=>by
   obtain⟨e,he,hp⟩:=(D x).mp z;have:=List.findIdx?_eq_none_iff.mp hr e he;rw[hp]at this;cases this
  have Y:=layNew_perm t q ((PySem.strKind prog w).hash x)<|.str x i;have B:=layNew_fits t q ((PySem.strKind prog w).hash x)<|.str x i;obtain⟨R9,J⟩:=Ydl t q ((PySem.strKind prog w).hash x)<|.str x i;generalize layNew t q ((PySem.strKind prog w).hash x) (.str x i)=L at Y B R9 J ⊢;obtain⟨D1,t1,wd,gave⟩:=L;dsimp only at Y B R9 J ⊢;rw[AB]at Y;have hs1:D1.size=ds.length+1:=by rw[<-qK,Y.length_eq,oj,qK,N];rfl
  have fin:∀(I:SetTable),I.led=t1.led->I.plain=false->∀h' y o u,Heap.SameBut a s.heap h'->h'.get? a=some {cls:=.type "set",dict:=none,data:=.set y o u,slots:=#[]}->y.toList.Perm D1.toList->u.fits y.size=true->u.led=I.led->(I.plain=false->u.plain=false)->Q true {s with heap:=h'}:=λI e2 p2 h' y o u H g n f l p=>by
   have J5:y.size=ds.length+1:=by rw[<-hs1,<-qK,n.length_eq,qK]
   refine h true h' H ?_;rw[ng C];refine#[y,o,u,g,(G.push hk rfl).perm (n.trans Y),λk=>?_,?_,by rw[J5,oj];rfl,by lia,f,by rw[l,e2,R9,r],λ_=>p p2]
   ·rw[oO,pK];have:=mem_push_iff (S:=λk'=>decide<|k'∈ds) hk (λk'=>by rw[vo];show D k') (n.trans Y) k;rw[Bp,vo,vo]at this;show this
   ·show qu.mpr #[O4,Ou _ _,λc hc d hd e=>C (by rw[<-pK.mp hd,<-e];show hc)]
  have gw:∀(b:Bool)(my:md)(Q':Unit->md->Prop),Q' () my->wpAny (model prog w) A (match b with|true=>rule "set.scan.the-table-gave-way"|false=>pure ()) Q' E my:=λb my Q' hq=>by cases b<;>first|show nk hq|show tF hq
  refine mU<|gw _ _ _ ?_;split
  ·refine mU ?_;rw[hashByValue_scannable 8 rfl];refine nk ?_;show Mo gw U (t2:={t1 with plain:=false}) (by lia) (SetTable.fits_plain_off B) λh' y o u H g n f l p=>nk<|fin {t1 with plain:=false} rfl rfl h' y o u H g n f l p
  ·rename_i hc;refine mU<|nk ?_;simp only[↓reduceIte];show Mo gw U (by lia) B λh' y o u H g n f l p=>nk<|fin _ rfl (FR.mpr hc) h' y o u H g n f l p
def qC:lX lY->lX lY->lX lY
 | ds,[]=>ds
 | ds,x ::z=>qC (if x∈ds then ds else ds++[x]) z
def tX.mono(h:tX (prog:=prog) w z a ds)(k:∀o,z.get? a=some o->y.get? a=some o):tX (prog:=prog) w y a ds:=by
 obtain⟨x,u,t,q,r⟩:=h;show#[x,u,t,k _ q,r]
def Zto{ds xs:lX lY}{i:Nat}{x:lY}(h:xs[i]? =some x):qC ds (xs.take<|i+1)=if x∈qC ds (xs.take i)then qC ds (xs.take i)else qC ds (xs.take i)++[x]:=by
 induction xs generalizing ds i with
 | nil=>cases h
 | cons y u z =>
  cases i with
  | zero=>cases h;rfl
  | succ i=>show z h
def Mx(ds xs:lX lY):(qC ds xs).length<=ds.length+xs.length:=by
 induction xs generalizing ds with
 | nil=>show nK _
 | cons y x z =>
  have:=z<|if y∈ds then ds else ds++[y];unfold qC;split at this
  ·rw[nj (by assumption)];simp;lia
  ·rw[ng (by assumption)];simp at this ⊢;lia
def Uw{I:lZ}{Q u:lX lZ}{G:Array GenState->Array GenState->Prop}{P:Nat->ma->Prop}{St:Nat->md->Prop}{R:Result->md->Prop}{xs:lX lY}(W:WalksS prog w A.in1 I Q u G xs.length P St)(r:a∉Q)(L:∀i v,P i v->∃x t,xs[i]? =some x/\v=.str x t)(y:xs.length+1<scanBound) :
  ∀(k i:Nat)(s:md),xs.length-i=k->i<=xs.length->St i s->tX (prog:=prog) w s.heap a (qC [] (xs.take i))->
   (∀s',Moved (a ::u) G s s'->tX (prog:=prog) w s'.heap a (qC [] xs)->R (.ok<|.ret .none) s')->codeAny (model prog w) A (.builtin "set.update.loop" #[[.ref a,.ref I],[]]) R s:=by
 have q:a∉u:=λh=>r<|W.sub _ h
 have z:∀b∈u,b∈a ::u:=λb y=>oZ _ y
 intro k
 induction k with
 | zero =>
  intro i s J H Y c U;obtain rfl:i=xs.length:=by lia
  refine wm Pc ?_;rw[yN Fh _];change wpAny _ A.in1 (pyNext (.ref I)>>=_) _ _ s;refine mU<|W.done s _ _ Y λs' p=>?_;rw[pD]at c;show nk (U s' (p.mono z)<|c.mono λo e=>p.heap a o q e)
 | succ k D =>
  intro i s J H Y c U;have N:i<xs.length:=by lia
  refine wm Pc ?_;rw[yN Fh _];change wpAny _ A.in1 (pyNext (.ref I)>>=_) _ _ s;refine mU<|W.item i s _ _ N Y λv s' C n p=>?_;obtain⟨x,t,B,rfl⟩:=L i v C;change wpAny _ A.in1 (holding [Value.str x t] (setAdd a<|.str x t)>>=_) _ _ s';refine mU<|qt ?_;unfold setAdd;refine qt<|mU<|(PySem.strKind prog w).pyHash (k:=x) (strKind_is _ _ _ _) ?_;have M:=Mx [] (xs.take i);rw[oF]at M;refine Sk (s:={s' with toks:=s'.toks+1}) (c.mono λo e=>p.heap a o q e) (by simp at M;lia) λb h' l j=>?_
  rw[<-Zto B]at j;refine nk #[Ay Fh _,D (i+1) _ (by lia) N (W.frame _ s' _ _ n (qT _) λb y o e=>?_) j λP0 g d=>?_]
  ·rw[l.2 b (λh:b=a=>r (by rw[<-h];show y))];show e
  ·refine U P0 (Moved.trans W.gtrans ((p.mono z).then_heap (qT _) λb o y e=>?_) g) d;rw[l.2 b (λh:b=a=>y (by rw[h];show oN))];show e
def WL(v:ma){Q₁:ma->md->Prop}(h:Q₁ (.ref #v[s]) {s with heap:=s.heap.push {cls:=.type "set",dict:=none,data:=.set #[] 0 (.fresh 0 0 (!rG w))}}) :
  codeAny (model prog w) A (.call (.builtin "set.__new__") #[[.type "set",v],[]]) (wants Q₁ E) s:=by
 refine EH ?_;change wpAny _ A.in1 (do checkBuiltinCall "set.__new__" #[[.type "set",v],[]];again (.builtin "set.__new__" #[[.type "set",v],[]])) _ _ s;refine mU<|wpAny_of_eq (PySem.F.newCall_set_1 v)<|nk #[Ay Pu _,wm PySem.F.entry_set_new ?_];rw[yN Pu _];unfold Builtin.«set.__new__» Builtin.Frozenset.newClass;have z:=PySem.sub_set_self;obtain⟨y,g,d,x,os⟩:=s;dsimp only
 wp_walk
 refine Hh<|nk ?_;dsimp only;simp only[newObj];refine mU<|wpAny_alloc<|nk ?_;show nk h
def TH{vs:lX ma}{xs:lX lY}{i:Nat}{v:ma}(h:StrsAre vs xs):vs[i]? =some v->∃x t,xs[i]? =some x/\v=.str x t:=by
 induction h generalizing i with
 | nil=>intro e;cases e
 | cons x t _ z =>
  intro e;cases i with
  | zero=>cases e;show#[x,t,rfl,rfl]
  | succ i=>show z e
def VE{l:lZ}{q:Array ma}{xs:lX lY}{Q:ma->md->Prop}(hh:A.handled=none)(hl:s.heap.IsList l q)(D:StrsAre q.toList xs)(a:xs.length+1<scanBound)
  (h:∀(h':mi)(Y:Nat),tX (prog:=prog) w h' #v[s] (qC [] xs)->(∀b o,b<#v[s]->s.heap.get? b=some o->h'.get? b=some o)->Q (.ref #v[s]) {s with heap:=h',toks:=Y}) :
  wpAny (model prog w) A (call (.type "set") [.ref l]) Q E s:=by
 obtain⟨c,y,z⟩:=wK.mro;have N:=wK.made;have C:=wK.sub;refine ul<|EH ?_;change wpAny _ _ (callAny (.type "set") _) _ _ _;refine nk #[yp _ (by left),wm F.entry_type_call ?_];rw[Around.under_plain (weight_type_call_type "set" [.ref l] []) rfl];have h1:=wK.notType;have h2:=wK.canCreate;have hct:=PySem.F.typeCall_set_1 (.ref l)
 repeat (any_goals (first|assumption|wp_step))
 refine uh (WL (.ref l) (E:=E) (Q₁:=λobj B=>obj=.ref #v[s]/\B={s with heap:=s.heap.push {cls:=.type "set",dict:=none,data:=.set #[] 0 (.fresh 0 0 (!rG w))}}) #[rfl,rfl]) λr B M=>?_
 cases r with
 | error e=>show M
 | ok fl =>
  cases fl with
  | ret obj =>
   obtain⟨rfl,rfl⟩:=M;have hS:(s.heap.push {cls:=.type "set",dict:=none,data:=.set #[] 0 (.fresh 0 0 (!rG w))}).get? #v[s]=some {cls:=.type "set",dict:=none,data:=.set #[] 0 (.fresh 0 0 (!rG w))}:=oG _ rfl;have hT:Shared.TypeIs {s with heap:=s.heap.push {cls:=.type "set",dict:=none,data:=.set #[] 0 (.fresh 0 0 (!rG w))}} (.ref #v[s]) "set":=#[_,hS,rfl]
   have hli:=wK.init.lookup;have hbi:=wK.init.bind (.ref #v[s])
   repeat (any_goals (first|assumption|wp_step))
   refine uh (Be (R:=wants (λr mB=>r=.none/\∃h' Y,mB={s with heap:=h',toks:=Y}/\tX (prog:=prog) w h' #v[s] (qC [] xs)/\(∀b o,b<#v[s]->s.heap.get? b=some o->h'.get? b=some o)) E) wK.init.plain PySem.F.entry_set_init<|check_set_init_1 hT ?_) λp mB y=>?_
   ·obtain⟨ol,n,w9,nl,j⟩:=hl;obtain⟨i,u,z,x⟩:=ol;simp only at w9 j;subst w9;subst j;have g:(s.heap.push {cls:=.type "set",dict:=none,data:=.set #[] 0 (.fresh 0 0 (!rG w))}).get? l=some {cls:=.type "list",dict:=u,data:=.seq q nl,slots:=x}:=nZ _ n;have hsls:=PySem.F.sub_list_set;have hslf:=PySem.F.sub_list_frozenset;have w6:(Value.type "list"==Value.type "dict")=false:=by lk
    have R9:(s.heap.push {cls:=.type "set",dict:=none,data:=.set #[] 0 (.fresh 0 0 (!rG w))}).IsList l q:=#[_,g,rfl,nl,rfl]
    unfold Builtin.«set.__init__» noKeywords Builtin.Frozenset.updateFrom;generalize L:pyIter=PI
    wp_walk
    subst L;refine xJ R9 ?_;refine mU<|wpAny_runValue ?_;have d:l<#v[s]:=nS n;have J:A.in1.in1.in1.handled=none:=by simp[hh]
    have c:l≠(s.heap.push {cls:=.type "set",dict:=none,data:=.set #[] 0 (.fresh 0 0 (!rG w))}).objs.size:=by
     rw[rS];show oi<|Ae d
    have I:#v[s]∉[(s.heap.push {cls:=.type "set",dict:=none,data:=.set #[] 0 (.fresh 0 0 (!rG w))}).objs.size,l]:=by
     rw[rS];simp only[oh,pK,sU,qU,wH];show#[oi<|xW _,vK d]
    have H:q.size=xs.length:=by rw[<-qK];show StrsAre.length D
    have hW:=(Az (prog:=prog) (w:=w) J _ l c q).toS;rw[H]at hW;refine Uw hW I (λi v hv=>?_) a (xs.length-0) 0 _ rfl (rR _) #[#[_,oG _ rfl,rfl,rfl],(R9.push _)] ?hS0 λs' U P3=>?hR
    case hS0=>show#[#[],0,_,nZ _ hS,(λe i=>by simp at i),(λk=>by simp[qC]),.nil,rfl,by lk,by rfl,rfl,λz=>absurd rfl z]
    case hR =>
     obtain⟨h',g',d',A2,z⟩:=s';have eg:g'=s.gens:=U.gens;have ed:d'=s.drawn:=U.drawn;have eo:z=s.os:=U.os;subst eg;subst ed;subst eo;change wpAny _ _ _ _ _ _;refine nk ?_;change wpAny _ _ (ret Value.none) _ _ _;refine nk #[rfl,h',A2,rfl,P3,λb o a e=>?_];have i:b≠#v[s]:=oi a;have G:b≠(s.heap.push {cls:=.type "set",dict:=none,data:=.set #[] 0 (.fresh 0 0 (!rG w))}).objs.size:=by
      rw[rS];show oi<|Ae a
     show U.heap b o (by simp only[oh,pK,sU,qU,wH];show#[i,G])<|nZ _<|nZ _ e
    show TH D (by rw[sX];show hv)
   ·cases p with
    | error e=>show y
    | ok z =>
     cases z with
     | ret r =>
      obtain⟨rfl,h',Y,rfl,P3,x⟩:=y
      repeat (any_goals (first|assumption|wp_step))
      show h _ _ P3 x
     | _=>show y.elim
  | _=>show M.elim
end
def BQ:Slot "set_iterator" "__next__" "set_iterator.__next__":=.of (owner :="set_iterator") (n :="__next__") (by rw[Cf,BF];kernel_rfl) (by left) (by left) (by left) (by first|show .inl (by left)|show .inr<|by left) (by rw[Cw];kernel_rfl)
def Yar:entryFor table "set_iterator.__next__"=some Builtin.«set_iterator.__next__» :=entryFor_of_tree (by kernel_rfl)
def Yc3(a:ma):argsOk "set_iterator.__next__" #[[a],[]]:=by unfold argsOk;kernel_rfl
def Zwj:entryFor table "set.__iter__"=some Builtin.«frozenset.__iter__» :=entryFor_alias (id' :="frozenset.__iter__") (by kernel_rfl) rfl (by left) (by kernel_rfl)
def QY:Slot "set_iterator" "__iter__" "set_iterator.__iter__":=.of (owner :="set_iterator") (n :="__iter__") (by rw[Cf,BF];kernel_rfl) (by left) (by left) (by left) (by first|show .inl (by left)|show .inr<|by left) (by rw[Cw];kernel_rfl)
def Re{z:Type}:∀{l:lX z}{i:Nat}(h:i<l.length),(l[i] ::l.eraseIdx i).Perm l:=by
 intro l
 induction l with
 | nil=>intro i h;cases h
 | cons x l y =>
  intro i h;cases i with
  | zero=>show .refl _
  | succ i=>show(yf _ _ _).trans ((y<|Nat.lt_of_succ_lt_succ h).cons x)
def Zwu{z:Type}(next:Nat->Nat):∀(n k:Nat)(left:lX z)(out:Array z),left.length=n->(pickOrder.go next n k left out).toList.Perm (out.toList++left):=by
 intro n
 induction n with
 | zero =>
  intro k left out h;obtain rfl:=ui.mp h;rw[pO];show .refl _
 | succ n x =>
  intro k left out h;have y:next k%left.length<left.length:=Nat.mod_lt _ (by lia);unfold pickOrder.go;rw[oR y];refine(x (k+1) _ _<|by rw[Kf y];lia).trans ?_;rw[AB,pp];show(Re y).append_left _
section
variable {prog:mn} {w:mj} {A:mo} {E:ma->md->Prop} {s:md}
def WM{n:Nat}{z:Source}{Q:Nat->md->Prop}(y:n≠0)(h:∀i d,i<n->Q i {s with drawn:=d}):wpAny (model prog w) A (choose z n) Q E s:=λ_ _ _=>#[y,h _ _<|Nat.mod_lt _<|xC y]
def ZR{z:Type}:∀(n:Nat)(xs:lX z)(s:md){Q:lX z->md->Prop},xs.length=n->(∀y d,y.Perm xs->Q y {s with drawn:=d})->wpAny (model prog w) A (drawOrder n xs) Q E s:=by
 intro n
 induction n with
 | zero =>
  intro xs s Q h q;obtain rfl:=ui.mp h;unfold drawOrder;show nk (q [] s.drawn (.refl _))
 | succ n r =>
  intro xs s Q h q;cases xs with
  | nil=>cases h
  | cons x xs =>
   unfold drawOrder;refine mU<|WM (by simp) λi d u=>?_;rw[oR u];dsimp only;refine mU<|r _ {s with drawn:=d} (by rw[Kf u];simp at h ⊢;lia) λy o p=>nk<|q _ o ?_;show(List.Perm.cons _ p).trans (Re u)
inductive Nx(w:World)(h:Heap)(a p:Addr)(es:Array (Int×Value))(ep:Nat)(t:SetTable)(ys:List Value):Value->Nat->Prop
 | txt {i:Nat}:rG w=true->ys=(pickOrder (w.params.setOrder a ep) es).toList.map (·.2)->Nx w h a p es ep t ys (.int 0 0) i
 | drw {i:Nat} {o:Obj} {ps:List Nat} {n:Nat}:rG w=false->h.get? p=some o->(∀k∈ps,k<es.size)->o.data=.seq (ps.map λj:Nat=>rawInt j).toArray n->(∀j:Nat,ys[j]? =ps[j]?.bind λk=>es[k]?.map (·.2))->Nx w h a p es ep t ys (.ref p) i
 | one {i c:Nat}:rG w=false->es.size<=1->t.led=true->ys=es.toList.map (·.2)->SetTable.below t.place c=i->Nx w h a p es ep t ys (.int c 0) i
def Bq(w:mj)(I a p:lZ)(z:Array (Int×ma))(ep:Nat)(t:SetTable)(y:lX ma)(i:Nat)(h:mi):Prop:=∃o f,h.get? I=some o/\o.cls=.type "set_iterator"/\o.data=.fields (List.toArray [f,.int i 0,.ref a,.int z.size 0,.int ep 0])/\Nx w h a p z ep t y f i/\h.get? a=some {cls:=.type "set",dict:=none,data:=.set z ep t,slots:=#[]}
def DI{Q:Bool->md->Prop}(h:Q (rG w) s):wpAny (model prog w) A setsByText Q E s:=mU<|Hh<|nk h
def Ko{I:lZ}{s1:md}{Q:me ma->md->Prop}{R:Fin->md->Prop}{z:mi}(y:A.handled=none)(x:Heap.ExtBut I z s1.heap)(u:∀h',Heap.ExtBut I z h'->Q none {s1 with heap:=h'}) :
  wpAny (model prog w) A.in1 (do let e <-newExc (.type "StopIteration") [];raiseNew e) R (λe s'=>wpAny (model prog w) A (do
     let b <-isInstance e (Value.type "StopIteration")
     if b=true then pure none else throw e) Q E s') s1:=by
 refine mU ?_;simp only[newExc,newTuple];refine mU (tE ?_<|by size_fits);refine mU (m:=firstArgMember _ _)<|wpAny_of_eq (a:=Value.none) (by first|rfl|(simp only[firstArgMember];rfl)) ?_;refine tE ?_ (by size_fits);simp only[raiseNew];refine mU<|wpAny_handled ?_;rw[show A.in1.handled=none from y];refine mU<|nk<|wpAny_throw ?_;refine mU<|Ee (T :="StopIteration") (b:=true) #[_,oG _ rfl,rfl] isSubtype_stop ?_;show nk<|u _<|(x.push _).push _
def Nx.stay(x:Nx w h a p z ep t y f i)(k:∀o,h.get? p=some o->h'.get? p=some o):Nx w h' a p z ep t y f i:=by
 cases x with
 | txt a b=>show .txt a b
 | drw a b g c d=>show .drw a (k _ b) g c d
 | one a b c d e=>show .one a b c d e
def Zw9{t:SetTable}{z:Array (Int×ma)}{c:Nat}(y:t.fits z.size=true)(o:z.size<=1){x:Int×ma}(r:z[SetTable.below t.place c]? =some x):∃j,t.place[SetTable.below t.place c]? =some j/\SetTable.below t.place (j+1)=SetTable.below t.place c+1:=by
 have n:t.place.size=z.size:=by
  unfold SetTable.fits at y;rw[qk,qN]at y;show y.1
 have l:SetTable.below t.place c<z.size:=(Bs.mp r).1;have q:SetTable.below t.place c=0:=by lia
 rw[q];have p:t.place.size=1:=by lia
 obtain⟨u,e⟩:∃u,t.place=(List.toArray [u]):=Array.size_eq_one_iff.mp p;refine#[u,by rw[e];rfl,?_];rw[e];simp[SetTable.below,SetTable.below.go]
def MY{I a p:lZ}{i ep:Nat}{y:Array (Int×ma)}{t:SetTable}{u:lX ma}{Q:me ma->md->Prop}(hh:A.handled=none)(C:t.fits y.size=true)(hIa:a≠I)(hIp:p≠I)(hi:Bq w I a p y ep t u i s.heap)
  (hQ:∀x h',u[i]? =some x->Bq w I a p y ep t u (i+1) h'->Heap.SameBut I s.heap h'->Q (some x) {s with heap:=h'}) (hE:u[i]? =none->∀h',Heap.ExtBut I s.heap h'->Q none {s with heap:=h'}):wpAny (model prog w) A (pyNext<|.ref I) Q E s:=by
 obtain⟨o,f,Y,hc,hd,nx,B⟩:=hi;have hT:s.TypeIs (.ref I) "set_iterator":=#[o,Y,hc]
 unfold pyNext;refine mU (Do (FK (name:=Str.ofString "__next__") hT BQ
  (wv BQ hT Yar ?_<|Yc3 _)))
 change wpAny _ _ (fieldsOf (.ref I)>>=_) _ _ s;refine mU<|wpAny_fieldsOf Y hd ?_;dsimp only;change wpAny _ _ (setEntries a >>=_) _ _ s;unfold setEntries;refine mU<|mU<|vi B rfl C<|nk ?_;dsimp only;have e1:(((y.size:Nat):Int) !=(y.size:Int))=false:=by simp
 rw[e1];simp only[qF,pW];have e2:(ep !=(ep:Int).toNat)=false:=by simp
 have r:∀(d x:ma)(L:md)(o1:Obj),Heap.SameBut I s.heap L.heap->{s with heap:=L.heap}=L->L.heap.get? I=some o1->o1.cls=.type "set_iterator"->o1.data=.fields (List.toArray [d,.int i 0,.ref a,.int y.size 0,.int ep 0])->u[i]? =some x->Nx w s.heap a p y ep t u d (i+1)->wpAny (model prog w) A.in1 (do
     setField (.ref I) 1 (rawInt<|↑i+1)
     ret x) (λfin q=>∃v,fin=Fin.done (Flow.ret v)/\wpAny (model prog w) A (pure<|some v) Q E q) (λe q=>wpAny (model prog w) A (do
     let b <-isInstance e (Value.type "StopIteration")
     if b=true then pure none else throw e) Q E q) L:=by
  intro d x L o1 sb e1 ho1 hc1 J hx H;refine mU<|vS ho1 J (by simp)<|nk #[x,rfl,nk ?_];have G:=sb.trans<|xH L.heap I<|Obj.mapFields (·.setIfInBounds 1 (rawInt<|↑i+1));have:=hQ x _ hx #[_,d,ux _ ho1<|xh<|uX J _,(Ce ..).trans hc1,by rw[uX J];simp[rawInt],H.stay λo e=>by rw[G.2 p hIp];show e,by rw[G.2 a hIa];show B] G;rw[<-e1];show this
 have n:∀(d x:ma),u[i]? =some x->Nx w s.heap a p y ep t u d (i+1)->wpAny (model prog w) A.in1 (do
     setField (.ref I) 0 d
     setField (.ref I) 1 (rawInt<|↑i+1)
     ret x) (λfin q=>∃v,fin=Fin.done (Flow.ret v)/\wpAny (model prog w) A (pure<|some v) Q E q) (λe q=>wpAny (model prog w) A (do
     let b <-isInstance e (Value.type "StopIteration")
     if b=true then pure none else throw e) Q E q) s:=by
  intro d x hx H;refine mU<|vS Y hd (by simp) ?_;show r d x _ _ (xH ..) rfl (ux _ Y<|xh<|uX hd _) ((Ce ..).trans hc) (by rw[uX hd];simp) hx H
 have U:u[i]? =none->wpAny (model prog w) A.in1 (do
     setField (.ref I) 2 Value.none
     let e <-newExc (Value.type "StopIteration") []
     raiseNew e) (λfin q=>∃v,fin=Fin.done (Flow.ret v)/\wpAny (model prog w) A (pure<|some v) Q E q) (λe q=>wpAny (model prog w) A (do
     let b <-isInstance e (Value.type "StopIteration")
     if b=true then pure none else throw e) Q E q) s:=λhx =>
  mU (vS Y hd (by simp)<|Ko hh (xH ..).extBut (hE hx))
 cases nx with
 | txt N M =>
  dsimp only;unfold setNext;refine mU<|mU<|vi B rfl C ?_;dsimp only;refine mU<|DI ?_;rw[N,e2];simp only[qF,pW,rP];unfold setWalk;refine mU<|mU<|vi B rfl C ?_;dsimp only;refine mU<|DI ?_;rw[N];simp only[rP];refine mU<|Hh<|nk<|nk ?_;have l:u[i]? =((pickOrder (w.params.setOrder a ep) y)[i]?).map (·.2):=by rw[M,nU,sX]
  rw[vG];generalize hG:(pickOrder _ y)[i]? =g;have h:(pickOrder (w.params.setOrder a ep) y)[i]? =g:=hG;cases g with
  | none=>show U (by rw[l,h];rfl)
  | some e=>show n (.int 0 0) e.2 (by rw[l,h];rfl) (.txt N M)
 | drw N hp O7 hpd M =>
  dsimp only;refine mU<|wpAny_seqItems hp hpd ?_;dsimp only;rw[vG,Gu,nU];rename_i o2 ps n2;have l:=M i;cases h:ps[i]? with
  | none =>
   rw[h]at l;refine mU<|vS Y hd (by simp)<|mU<|vS (ux _ Y<|xh<|uX hd _) (uX hd _) (by simp) ?_;show Ko hh ((xH ..).trans (xH ..)).extBut (hE l)
  | some k =>
   rw[h]at l;dsimp only[Option.map,rawInt];unfold setNextDrawn;refine mU<|mU<|vi B rfl C ?_;dsimp only;rw[e2,vG];simp only[qF,pW];cases hk:y[k]? with
   | none=>show absurd (O7 k<|pi h) (by have:=Array.getElem?_eq_none_iff.mp hk;lia)
   | some e =>
    refine nk ?_;show r (.ref p) e.2 s o (Heap.SameBut.refl ..) rfl Y hc hd (by rw[l,Fi,hk];rfl) (.drw N hp O7 hpd M)
 | one N h1 hl M D =>
  dsimp only;unfold setNext;refine mU<|mU<|vi B rfl C ?_;dsimp only;refine mU<|DI ?_;rw[N];simp only[qF,pW];refine zw (λz=>absurd z<|by change ¬((!t.plain && decide (y.size >1))=true);rw[ow (by lia),GF];decide) λ_=>?_
  refine mU<|wpAny_of_eq (a:=()) (by change(if(!t.led && !y.isEmpty)=true then _ else _)=_;rw[hl];rfl)<|nk ?_;rw[vG,D];have l:u[i]? =(y[i]?).map (·.2):=by rw[M,nU,sX]
  cases h:y[i]? with
  | none=>show U (by rw[l,h];rfl)
  | some e =>
   obtain⟨j,hj,hj'⟩:=Zw9 (c:=_) C h1 (by rw[D];show h);rw[D]at hj hj';rw[hj];show n (.int (j+1:Nat) 0) e.2 (by rw[l,h];rfl)<|.one N h1 hl M hj'
end
def VO:entryFor table "set_iterator.__iter__"=some Builtin.«dict_keyiterator.__iter__» :=entryFor_alias (id' :="dict_keyiterator.__iter__") (by kernel_rfl) rfl (by left) (by kernel_rfl)
def ZJ(a:ma):argsOk "set_iterator.__iter__" #[[a],[]]:=by unfold argsOk;kernel_rfl
def kf:ma->lY
 | .str x _=>x
 | _ =>""
def Ycv{vs:lX ma}(h:∀v∈vs,∃x t,v=Value.str x t):StrsAre vs (vs.map kf):=by
 induction vs with
 | nil=>show .nil
 | cons v vs z =>
  obtain⟨x,t,rfl⟩:=h v oN;show .cons x t<|z λv y=>h v<|oZ _ y
def Zr9{ds:lX lY}:∀{z:lX lY},ds.Nodup->(∀k∈ds,k∈z)->z.length=ds.length->z.Perm ds:=by
 induction ds with
 | nil=>intro z _ _ h;rw[ui.mp h]
 | cons d ds u =>
  intro z s y r;obtain⟨hd,q⟩:=pZ.mp s;have x:=y d oN;refine(List.perm_cons_erase x).trans (List.Perm.cons _<|u q (λk w=>?_) ?_)
  ·show(Ri (λe:k=d=>hd<|e ▸ w)).mpr (y k<|oZ _ w)
  ·rw[Rb x,r];rfl
section
variable {prog:mn} {w:mj} {A:mo} {E:ma->md->Prop} {s:md}
def Zwl{I a p:lZ}{ep n:Nat}{U:Array (Int×ma)}{t:SetTable}{j:lX ma}(N:A.handled=none)(M:t.fits U.size=true)(y:a≠I)(u:p≠I)(C:j.length=n):Walks prog w A I [I,a,p] [I] n (λi v=>j[i]? =some v) (Bq w I a p U ep t j) where
 sub:=λb z=>by simp at z;simp[z]
 frame:=λi h r st g=>by
  obtain⟨o,f,d,c,hd,L,J⟩:=st;show#[o,f,g I (by simp) _ d,c,hd,L.stay λo e=>g p (by simp) _ e,g a (by simp) _ J]
 item:=λi s Q E B st q=>MY N M y u st (λx r l H G=>q x r s.toks l H λb o z e=>G.extBut b o (λh=>z<|by simp[h]) e) λl=>by rw[List.getElem?_eq_none_iff]at l;lia
 done:=λs Q E st q=>MY N M y u st (λx r l=>by have:=(pz.mp l).1;lia) λ_ r D=>q r s.toks λb o z e=>D b o (λh=>z<|by simp[h]) e
 self:=λi s Q E st q=>by
  obtain⟨o,f,d,c,hd,L,J⟩:=st;have Y:s.TypeIs (.ref I) "set_iterator":=#[o,d,c]
  refine wpAny_pyIter_slot Y QY<|wv QY Y VO ?_<|ZJ _;change wpAny _ _ (ret<|.ref I) _ _ s;show nk #[_,rfl,"set_iterator",_,Y,BQ.lookup,q]
def Zyi{a:lZ}{ds:lX lY}{Q:ma->md->Prop}(hS:tX (prog:=prog) w s.heap a ds)(hb:ds.length<64)
  (q:∀(h':mi) d (I p:lZ) (y:Array (Int×ma)) (ep:Nat) (t:SetTable) (u:lX ma),Bq w I a p y ep t u 0 h'->t.fits y.size=true->a≠I->p≠I->#v[s]<=I->(p=a\/#v[s]<=p)->(∀b o,s.heap.get? b=some o->h'.get? b=some o)->StrsAre u (u.map kf)->(u.map kf).Perm ds->Q (.ref I) {s with heap:=h',drawn:=d}):wpAny (model prog w) A (pyIter<|.ref a) Q E s:=by
 obtain⟨y,ep,t,N,N3,A8,O4,l,z,c,M,m9⟩:=hS;have hT:s.TypeIs (.ref a) "set":=#[_,N,rfl]
 have Y:a<#v[s]:=nS N;have L:∀(k:lY)(v:ma),(PySem.strKind prog w).is k v=true->∃C,v=Value.str k C:=λk v h=>by
  cases v<;>simp[PySem.strKind,Value.isStrOf]at h
  show#[_,by rw[h]]
 have A0:∀e∈y.toList,∃x C,e.2=Value.str x C:=λe J=>by
  obtain⟨⟨k,U,_⟩,_⟩:=N3 e J;show#[k,L k _ U]
 have B:((y.toList.map (·.2)).map kf).Perm ds:=Zr9 O4 (λk U=>by
  obtain⟨e,J,h⟩:=(A8 k).mp U;obtain⟨C,z⟩:=L k _ h;rw[oU];show nH.mpr #[e,J,by change kf e.2=k;rw[z];rfl]) (by simp[l])
 have fin:∀u:lX ma,u.Perm (y.toList.map (·.2))->StrsAre u (u.map kf)/\(u.map kf).Perm ds:=λu p=>#[Ycv λv z=>by
  obtain⟨e,J,rfl⟩:=nH.mp<|p.mem_iff.mp z;show A0 e J,(p.map kf).trans B]
 refine wpAny_pyIter_slot hT JL<|wv JL hT Zwj ?_<|PySem.F.args_set_iter_1 _;change wpAny _ _ (Builtin.Frozenset.sizeOf a >>=_) _ _ s;unfold Builtin.Frozenset.sizeOf setEntries;refine mU<|mU<|mU<|vi N rfl c<|nk<|nk ?_;dsimp only;unfold setDrawn;refine mU<|mU<|vi N rfl c ?_;dsimp only;refine mU<|DI<|nk ?_;have key:∀(f:ma)(i:md)(p:lZ)(u:lX ma),u.Perm (y.toList.map (·.2))->Nx w i.heap a p y ep t u f 0->#v[s]<=#v[i]->(∀b o,s.heap.get? b=some o->i.heap.get? b=some o)->p<#v[i]->(p=a\/#v[s]<=p)->(∃d,i={s with heap:=i.heap,drawn:=d})->wpAny (model prog w) A.in1 (do
   let e <-setEpoch a;let x <-newFields "set_iterator" [f,rawInt 0,.ref a,rawInt y.size,rawInt e]
   ret x) (λfin z=>∃v,fin=Fin.done (Flow.ret v)/\∃j r,z.TypeIs v j/\typeLookup (.type j) "__next__"=pure (some r)/\Q v z) E i:=by
  intro f i p u H nx G h2 h3 h4 h5;obtain⟨d,h5⟩:=h5;unfold setEpoch;refine mU<|mU<|vi (h2 _ _ N) rfl c<|nk ?_;refine mU (tE (nk #[_,rfl,"set_iterator",_,#[_,oG _ rfl,rfl],BQ.lookup,?_])<|by size_fits);obtain⟨f1,f2⟩:=fin u H;have:=q (i.heap.push {cls:=.type "set_iterator",dict:=none,data:=.fields (List.toArray [f,rawInt 0,.ref a,rawInt y.size,rawInt ep])}) d #v[i] p y ep t u #[_,f,oG _ rfl,rfl,rfl,nx.stay λo e=>nZ _ e,nZ _<|h2 _ _ N] c (oi<|pF Y G) (oi h3) G h4 (λb o e=>nZ _<|h2 _ _ e) f1 f2;rw[h5];show this
 cases g:rG w with
 | true =>
  simp only[CA,Bool.false_and,qF,pW];refine mU<|nk ?_;refine key _ s a _ ?_ (.txt g rfl) (nK _) (λ_ _ e=>e) Y (.inl rfl) #[s.drawn,rfl];refine List.Perm.map _ ?_;have:=Zwu (w.params.setOrder a ep) y.size 0 y.toList #[] (by simp);show this
 | false =>
  simp only[Bool.not_false,Bool.true_and];refine zw (λr=>?_) λr=>?_
  ·refine mU<|ZR y.size (List.range y.size) s (by simp) λps d H=>?_;have z:=H.length_eq;rw[Bj]at z;refine mU (tE ?_<|sz<|by simp[z,l];lia);have hr:∀k∈ps,k<y.size:=λk U=>yk.mp<|H.mem_iff.mp U
   refine key (.ref #v[s]) _ #v[s] (ps.map λk=>(y[k]?.map (·.2)).getD .none) ?_ (.drw (n:=0) g (oG _ rfl) hr rfl λj=>?_) ?_ (λb o e=>nZ _ e) ?_ (.inr<|nK _) #[d,rfl]
   ·refine(H.map _).trans (.of_eq ?_);refine BB λj=>?_
    rw[nU,nU,show y.toList[j]? =y[j]? from sX]
    by_cases D:j<y.size
    ·rw[List.getElem?_range D,BH D];simp[D]
    ·rw[uZ (by simp;lia),Jd<|by lia]
     rfl
   ·rw[nU];cases D:ps[j]? with
    | none=>rfl
    | some k =>
     have U:=hr k<|pi D;simp[U]
   ·rw[rS];show qT _
   ·rw[rS];show xW _
  ·have G:y.size<=1:=by
    cases wS 1 y.size with
    | inr z=>show z
    | inl z =>
     refine absurd ?_ r
     change(!t.plain && decide (y.size >1))=true
     rw[m9 (by intro e;rw[e]at l;simp at l;rw[l]at z;simp at z),og z]
     rfl
   refine mU<|nk ?_;refine key (.int (0:Nat) 0) s a (y.toList.map (·.2)) (.refl _) (.one g G (by rw[M,g];rfl) rfl ?_) (nK _) (λ_ _ e=>e) Y (.inl rfl) #[s.drawn,rfl];have j:t.place.size=y.size:=by
    unfold SetTable.fits at c;rw[qk,qN]at c;show c.1
   rw[<-j]at G;unfold SetTable.below;obtain z|z:t.place.size=0\/t.place.size=1:=by lia
   ·rw[z];rfl
   ·rw[z];simp[SetTable.below.go]
def Ro{r:lZ}{Q:Bool->md->Prop}(y:s.TypeIs (.ref r) "set")(h:Q false s):wpAny (model prog w) A (Builtin.List.listLengthHint<|.ref r) Q E s:=by
 unfold Builtin.List.listLengthHint;refine mU<|Hv y PySem.F.slot_set_len.lookup ?_;generalize z:("set.__len__":String)=x
 wp_delta
 rw[show splitId x=some ("set","__len__")from by subst z;decide +kernel];subst z;refine mU<|Ee (T :="set") (b:=true) y (by rw[Cw];kernel_rfl) ?_;refine zw (λu=>absurd u<|by lk) λ_=>?_;refine zw (λ_=>?_) λu=>absurd (by left) u;refine mU<|xq y ?_;show nk h
def Ut{a:lZ}{ds:lX lY}{R:Result->md->Prop}(hh:A.handled=none)(r:tX (prog:=prog) w s.heap a ds)(S:lZ)(l:S≠a)(u:ma)(q:Nat)(hS:s.heap.get? S=some {cls:=.type "list",data:=.seq #[] q})
  (hR:∀h' M d n c,(∀b o,b≠S->s.heap.get? b=some o->h'.get? b=some o)->h'.get? S=some {cls:=.type "list",dict:=none,data:=.seq n c,slots:=#[]}->StrsAre n.toList (n.toList.map kf)->(n.toList.map kf).Perm ds->R (.ok<|.ret u) {s with heap:=h',toks:=M,drawn:=d}) (hn:ds.length<64) :
  wpAny (model prog w) A.in1 (Builtin.List.listExtendWith (.ref S) (.ref a) u)
   (λfin s'=>match fin with|.done f=>R (.ok f) s'|.again c=>c.quiet=true/\codeAny (model prog w) A c R s') (λe s'=>R (.error e) s') s:=by
 have hT:s.TypeIs (.ref a) "set":=by obtain⟨es,L,t,ho,_⟩:=r;show#[_,ho,rfl]
 unfold Builtin.List.listExtendWith;refine mU<|xq (T :="set") hT ?_;have J:Builtin.List.listSameRef (.ref S) (.ref a)=false:=by simp[Builtin.List.listSameRef,l]
 have n1:(Value.type "set"==Value.type "list")=false:=by lk
 have n2:(Value.type "set"==Value.type "tuple")=false:=by lk
 simp only[J,n1,n2,Bool.or_false,qF,pW];refine mU<|Zyi r hn λJ d I p es L t H st hf G D hI C B hs w4=>?_;have Y:S<#v[s]:=nS hS;have U:S∉[I,a,p]:=by
  simp only[oh,sU,qU,wH];refine#[oi<|pF Y hI,l,?_];rcases C with rfl|C
  ·show l
  ·show oi<|pF Y C
 have g8:H.length=ds.length:=by rw[<-w4.length_eq,mV]
 have W:=Zwl (prog:=prog) (w:=w) (A:=A.in1) hh hf G D g8 (ep:=L);have key:∀(h:mi)(y M:Nat),Bq w I a p es L t H 0 h->(∀b o,b≠S->J.get? b=some o->h.get? b=some o)->
   h.get? S=some {cls:=.type "list",data:=.seq #[] y}->codeAny (model prog w) A (.builtin "list.extend.loop" #[[.ref S,.ref I,u],[]]) R {s with heap:=h,toks:=M,drawn:=d}:=by
  intro h y M A0 S9 z;refine codeAny_extend_loopS W.toS (by unfold sizeLine;lia) S U u ds.length 0 _ #[] y rfl (rR _) A0 z (ItemsOf.nil _) λs' n c hm P3 A1=>?_
  rw[Moved.eq_with hm];have Q:n.toList=H:=by
   refine BB λj=>?_
   rw[sX]
   by_cases hj:j<n.size
   ·rw[BH hj];show(A1.2 j _<|BH hj).symm
   ·rw[Jd (by lia),uZ<|by rw[g8,<-A1.1];lia]
  refine hR s'.heap s'.toks d n c (λb o i e=>hm.heap b o (λA8=>?_)<|S9 b o i<|B b o e) P3 (by rw[Q];show hs) (by rw[Q];show w4);rcases oh.mp A8 with e'|A8
  ·show i e'
  ·show absurd (nS e) (by rw[pK.mp A8];show Nat.not_lt.mpr hI)
 have z:=B _ _ hS;refine mU<|qt<|Ro (by obtain⟨o,e,h⟩:=hT;show#[o,B _ _ e,h]) ?_;refine zw (λ_=>?_) λ_=>nk #[Ay Ql _,key _ q _ st (λb o _ e=>e) z];refine mU<|tF ?_;refine mU ?_;change wpAny _ _ (updateSeq S (·.push .none)>>=λ_=>updateSeq S (·.pop)) _ _ _;refine mU<|wpAny_updateSeq z rfl ?_;have x:=ux (Obj.mapSeq (·.push Value.none)) z rfl;refine wpAny_updateSeq (hz:=by seq_fits) x rfl ?_;have g:=ux (Obj.mapSeq (·.pop)) x rfl;refine nk #[Ay Ql _,key _ _ _ ?_ (λb o i e=>?_) g]
 ·refine W.frame 0 _ _ st λb i o e=>?_
  have N:b≠S:=λh=>U<|h ▸ i
  show(rV _ _<|oW N).trans ((rV _ _<|oW N).trans e)
 ·show(rV _ _<|oW i).trans ((rV _ _<|oW i).trans e)
def Zse{a:lZ}{ds:lX lY}{R:lX ma->md->Prop}(U:A.handled=none)(r:tX (prog:=prog) w s.heap a ds)(Q:ds.length<64)
  (h:∀(h':mi)(u:Nat) d (c:lX ma),(∀b o,s.heap.get? b=some o->h'.get? b=some o)->StrsAre c (c.map kf)->(c.map kf).Perm ds->R c {s with heap:=h',toks:=u,drawn:=d}) :
  wpAny (model prog w) A (collect<|.ref a) R E s:=by
 have N:a<#v[s]:=by obtain⟨y,l,t,M,_⟩:=r;show nS M
 unfold collect;refine mU<|wpAny_runValue<|wm entry_proto_collect' ?_;rw[yN PySem.F.plain_proto_collect _];change wpAny _ A.in1 (newList []>>=λl=>again<|.builtin "list.__iadd__" #[[l,.ref a],[]]) _ _ s;refine mU<|tE ?_;refine nk #[Ay JY _,wm entry_list_iadd' ?_];rw[yN JY _];have p:(s.heap.push {cls:=.type "list",data:=.seq ([]:lX ma).toArray}).get? #v[s]=some {cls:=.type "list",data:=.seq #[]}:=oG _ rfl;change wpAny _ A.in1 (Builtin.List.listExtendWith (.ref #v[s]) (.ref a)<|.ref #v[s]) _ _ _;have key:=Ut (A:=A) (s:={s with heap:=s.heap.push {cls:=.type "list",data:=.seq ([]:lX ma).toArray}})
  (R:=λ(q:Result) (Y:md)=>∃(h':mi)(u:Nat)(d:Drawn)(z:Array ma)(n:Nat),q=.ok (.ret<|.ref #v[s])/\Y={s with heap:=h',toks:=u,drawn:=d}/\
   (∀b o,s.heap.get? b=some o->h'.get? b=some o)/\h'.get? #v[s]=some {cls:=.type "list",dict:=none,data:=.seq z n,slots:=#[]}/\StrsAre z.toList (z.toList.map kf)/\(z.toList.map kf).Perm ds)
  U (r.mono λo e=>nZ _ e) #v[s] (vK N) (.ref #v[s]) 0 p
  (λh' u d z n j P3 i g=>#[h',u,d,z,n,rfl,rfl,λb o e=>j b o (oi<|nS e)<|nZ _ e,P3,i,g]) Q
 refine pX key (λfin Y x=>?_) λe Y x=>?_
 ·cases fin with
  | done f =>
   obtain⟨h',u,d,z,n,e,rfl,j,P3,i,g⟩:=x;cases e;change wpAny _ A (load #v[s] >>=_) _ _ _;refine mU<|wpAny_load P3 ?_;show nk (h h' u d z.toList j i g)
  | again l =>
   refine#[x.1,uh x.2 λq L y=>?_];obtain⟨h',u,d,z,n,rfl,rfl,j,P3,i,g⟩:=y;change wpAny _ A (load #v[s] >>=_) _ _ _;refine mU<|wpAny_load P3 ?_;show nk<|h h' u d z.toList j i g
 ·obtain⟨_,_,_,_,_,y,_⟩:=x;cases y
end
variable {X:Cx}
def mS.drew(I:mS X x z H s):mS X x z H {s with drawn:=d}:=I.call' (s':={s with drawn:=d}) rfl Un.refl I.hok I.bare λb y=>absurd y sU
def Uq(K:mf)(s:TE):TE:=λz H Q=>s z H λx u=>∃(p:lZ)(y:lX lY),x=.ref p/\SqL K u p (y.map V.str)/\y.length<64/\∀w:lX lY,w.Perm (qC [] y)->sortedS w=true->pG u (.lst<|w.map V.str) Q
def Vh(hc:X.calm=true)(Y:Gl X "sorted")(U:X.mg "sorted"=none)(N:Gl X "set")(M:X.mg "set"=none)(ha:PA X [e] t)
  (L:starEach [e] X.env=(false,eval e X.env) ::starEach [] X.env:=by rfl):PE X (.Call (.Name "sorted" p) [.Call (.Name "set" p') [e] [] B5] [] pos) (Uq X.K λz H Q=>t z H λxs G=>∃x,xs=[x]/\Q x G):=by
 intro c7 s z H Q I h;refine uE<|vE I Y U wb ?_;refine Lm ?_ rfl rfl;refine wk ?_;refine uE<|vE I N M PyProof.Rows.boot_set ?_;refine yJ (ny (ha B5 c7 s z H _ I h) λu s1 ⟨l,G,E,r1,q1⟩=>?_) L rfl;obtain⟨x,rfl,l,ss,rfl,hl,u,q⟩:=q1;obtain⟨u,rfl,rx⟩:=Wr r1;cases rx;obtain⟨u,rv,pl,l⟩:=E.list hl;refine VE (E.ok.hd hc) pl.isList (xT rv) (by unfold scanBound;lia) λi g hS D=>?_
 have r:∀b o,s1.heap.get? b=some o->i.get? b=some o:=λb o e=>D b o (nS e) e
 have I2:mS X c7 z G {s1 with heap:=i,toks:=g}:=E.kept r;refine yj ?_;have C:=Mx [] ss;rw[CL,Da]at C;refine Dh kind_sorted plain_sorted entry_sorted (args_sorted1 _) ?_;unfold Builtin.«sorted»;refine mU (m:=checkCount "sorted" 1 1 _)<|nk ?_;refine mU<|Zse (A:=X.A.in1) (s:={s1 with heap:=i,toks:=g}) (I2.ok.hd hc) hS (by lia) λw tk d c n P3 w4=>?_;have B:c.length=(qC [] ss).length:=by rw[<-w4.length_eq,mV]
 refine mU (Cs ?_ (by show sz<|by lia));have j:(w.push<|seqObj "list" c.toArray 0).get? w.objs.size=some (seqObj "list" c.toArray 0):=oG _ rfl;refine mU<|qt<|wv slot_list_sort #[_,j,rfl] entry_list_sort (list_sort_treeK strKind_oneLt j P3.keysOf (λu l Zr e=>keyKind_strs (by rw[<-e];show P3)) (by lia) λC2 a1 a2=>#[_,rfl,?_])<|args_list_sort _;obtain⟨D4,b1,b2,b3⟩:=sorted_out_str P3 a1 a2;obtain⟨e,L⟩:=sortedHeap_at (out:=(arrOf C2).map (·.2)) j;have hp:=b2.length_eq;rw[mV]at hp;have hkk:∀b o,s1.heap.get? b=some o->w.get? b=some o:=λb o e=>n b o<|r b o e
 have V4:i.get? w.objs.size=none:=by
  cases y:i.get? w.objs.size with
  | none=>rfl
  | some o=>show absurd (nS<|n _ _ y)<|rf _
 obtain⟨hn,J⟩:=I2.laidAt (h':=sortedHeap (w.push<|seqObj "list" c.toArray 0) w.objs.size c<|(arrOf C2).map (·.2)) (t':=tk) (a:=w.objs.size) (o:=.lst<|D4.map V.str) (λb o l=>by
  have u:=n b o l;rw[sortedHeap_old (oi<|nS u) (pF (nS u) (by rw[rS];show qT _))];show nZ _ u) V4 (show Z7 X.prog X.w _ _ _ (.lst _)from#[by rw[mV];show sz (by lia),((arrOf C2).map (·.2)).toList,e,BM b1,by rw[L]])
 show nk #[_,rfl,.ref w.objs.size,_,J.drew (d:=d),rfl,(q D4 (b2.trans w4) b3).at _ hn]
def Uj{prog:mn}{w:mj}{K:Type}[DecidableEq K](knd:KeyKind prog w K){d:lZ}{k:K}{key dflt:ma}(r:knd.is k key=true)(z:(keyPart key).isSome=true)(hd:(d ==sysModules)=false) :
  MeetsIn prog w (Builtin.«dict.pop» #[[.ref d,key,dflt],[]]) (λ_ R s=>∃kvs,s.heap.DictOf knd d kvs/\kvs.length<=sizeLine/\(valueAt kvs k=none->R (.ok<|.ret dflt) {s with toks:=s.toks+1})/\
   ∀v h',valueAt kvs k=some v->h'.DictOf knd d (without kvs k)->Heap.SameBut d s.heap h'->R (.ok<|.ret v) {s with heap:=h',toks:=s.toks+1}) :=
 .of_wp λA R s ⟨kvs,u,y,q,h⟩=>by
  unfold Builtin.«dict.pop»;refine mU ?_;unfold Builtin.Dict.keyAndDefault;refine mU<|EO u.typeIs ?_;change wpAny _ _ (pure (d,key,some dflt)) _ _ s;refine nk ?_;simp only[z,rP];refine mU<|nk ?_;simp only[qF,pW];refine mU<|wpAny_takeOut_pairs (hsz:=y) r u (λp=>?_) λe _ o h' x n=>?_
  ·simp only[Iq,rP];refine mU<|wpAny_missedRemoval_other hd ?_;show mU<|tF<|nk #[dflt,rfl,q p]
  ·simp only[Option.isNone_some,qF,pW];show mU<|wpAny_letGo<|nk #[e.val,rfl,h e.val h' o x n]
def UN(r q:TE):TE:=λz H Q=>r z H λx u=>∃a,x=.ref a/\Dl u a/\q z u λy s=>∃w k,s a=some (.dK w)/\y=kV k/\∀v,Q v<|mT s a<|.dK<|wA w k
def ZM(C:PE X o B)(g:PE X e A)(m:M2 X o "pop" u5 e (.Constant .none fj fp) j7):PE X (.Call (.Attribute o "pop" u5) [e,.Constant .none fj fp] [] j7) (UN B A):=by
 intro L s z H Q I h;refine Fg m.mM m.few m.line Bu Jc PySem.F.type_dict_pop<|ny (C L s z H _ I h) λu s1 h9=>?_;obtain⟨x,H1,J,rx,a,ex,d,q1⟩:=h9;subst ex;obtain rfl:u=Value.ref a:=rx;obtain⟨t1,t2,_⟩:=Hq J d;refine#[t1,t2,?_];rw[m.trees];refine xD rfl (zR (wk (ny (g L s1 z H1 _ J q1) λu i ⟨y,G,Y,U,r,k,N,ey,q⟩ =>
  wk (Constant_none<|yj ?_))))
 subst ey;obtain⟨w,hd,vs,l,E⟩:=Bb Y.hok N;have hp:(keyPart u).isSome=true:=by
  cases k with
  | inl i=>obtain⟨t,q⟩:=(show ∃t,u=Value.int i t from U);subst q;rfl
  | inr x=>obtain⟨t,q⟩:=(show ∃t,u=Value.str x t from U);subst q;rfl
 refine zd Jc E.typeIs PySem.F.entry_dict_pop (PySem.F.args_dict_pop_3 _ _ _) (Uj (Z4 X.prog X.w) (vz U) hp hd) #[vs,E,by rw[<-l.length];show w,λM=>?_,λv h' M n hs=>?_]
 ·have p:=l.val k;rw[M]at p;have p:Xe r k=none:=by
   cases j:Xe r k with
   | none=>rfl
   | some D=>rw[j]at p;show nomatch p
  have i:mT G a (.dK<|wA r k)=G:=by
   have:wA r k=r:=OJ.mpr λkv J6=>og λc=>?_
   ·rw[this];funext b;by_cases y:b=a
    ·rw[y,Zc,N]
    ·show Zd y
   ·have y:=Bg k r;rw[p]at y;show absurd (HX.mpr #[kv,J6,og c]) (by rw[y];decide)
  show#[.non,_,by rw[i];show Y.kept λ_ _ e=>e,rfl,q _]
 ·have p:=l.val k;rw[M]at p;obtain⟨y,i⟩:∃y,Yg y v:=by
   cases j:Xe r k with
   | none=>rw[j]at p;show nomatch p
   | some D=>rw[j]at p;show#[D,p]
  have g:∃q,h'.get? a=some q:=let⟨q,_,_,c,_⟩:=n;#[q,c];show#[y,_,Gi Y (by rw[N];show rL) hs g<|zO (oy (Zzp r k) w) hd (l.drop k) n,i,q _]
end L2
section
namespace L2
open PySem PySem.Spec PyProof.Rows
def rc{X:Cx}{K:mf}{a b:ml}{z y:TE}{pos:Pos}(x:X.K=K)(w:PE X a z)(u:PE X b y)(s:Iu b:=by show λ_ _=>rfl):PE X (.Subscript a b pos) (qZ (yq K) z y):=by subst x;show Pb QZ w u s
def mY{n:Nat}(h:n<=1000:=by simp):n<=sizeLine:=sz h
end L2
namespace L2
def qf{z:Sort u}{p R:z->Prop}{w:z}(h:p w)(k:R w):∃x,p x/\R x:=#[w,h,k]
def wj{z:Sort u}{y:Sort v}{p R:z->y->Prop}{q:z->y->Prop}{w:z}{s:y}(h:p w s)(g:q w s)(k:R w s):∃x r,p x r/\q x r/\R x r:=#[w,s,h,g,k]
end L2
def nX:=@L2.Paired.mapP
def sJ:=@L2.PW.pt
def mZ:=@L2.SqL.of
def nw:=@L2.SqT.of
def qy:=@L2.mK.refl
def pA:=@L2.Wb.set
def qo:=@L2.WS.of
def rM:=@L2.WE.of
def mW:=@L2.WSs.step
def mX:=@L2.WSs.last
def qz:=@L2.WSs.cut
def vt:=@L2.Im.tup
def vW:=@L2.Im.lst
def pE:=@L2.Paired.get
def pQ:=@L2.Paired.append
def pC:=@L2.mK.new
def Cn:=@L2.mK.thaw
namespace K65
open PySem L2 NM
def nM(i:Nat):mh:=PySem.Challenge.pw_yardkeep_k63_points_turned.main.body.getD i<|.Pass #[0,0,0,0]
abbrev XQ:mh:=Z5 (nM 7) 0
abbrev ZV:mh:=Z5 (nM 8) 0
abbrev Ziz:mh:=Z5 (nM 9) 0
abbrev YC:mh:=nM 16
abbrev Va:mh:=Z5 (nM 17) 0
abbrev ZT:mh:=Z5 (nM 17) 1
abbrev WR:mh:=Z5 (nM 17) 2
abbrev TL:mh:=Z5 (nM 17) 3
abbrev Wa:mh:=Z5 (nM 17) 4
def FE:Zy ["self","end","lie","one","two"] ["self","end","lie"] (Zj Wa):={}
abbrev SC:mh:=Z5 (nM 17) 5
abbrev Zs7:mh:=Z5 (nM 19) 0
abbrev Sd:mh:=Z5 (nM 19) 1
abbrev WA:mh:=Z5 (nM 21) 0
abbrev RM:mh:=Z5 (nM 21) 1
abbrev Zmi:mh:=Z5 (nM 21) 2
abbrev Zky:mh:=Z5 (nM 21) 3
abbrev Zqb:mh:=Z5 (nM 22) 0
abbrev YK:mh:=Z5 (nM 22) 1
abbrev Zm3:mh:=Z5 (nM 22) 2
abbrev Sg:mh:=nM 26
abbrev Zuu:mh:=nM 27
abbrev Zns:mh:=nM 28
abbrev Lb:mh:=nM 29
def Ir:Zy ["parts","part_of","part"] ["parts"] (Zj Lb):={}
abbrev JZ:mh:=nM 30
def X3:Zy ["part_of","part_at","name","part","end"] ["part_of"] (Zj JZ):={}
abbrev Qs:mh:=nM 31
def IW:Zy ["join","part_at","joined","end"] ["join","part_at","joined"] (Zj Qs):={}
abbrev Jt:mh:=nM 32
def Ew:Zy ["joins","part_at","joined","join"] ["joins","part_at"] (Zj Jt):={}
abbrev Znd:mh:=nM 33
abbrev Oq:mh:=nM 34
def zu:Zy ["signals","part_at","post_of","signal","name","end"] ["signals","part_at"] (Zj Oq):={}
abbrev Y2:mh:=Z5 (nM 35) 0
def Er:Zy ["self","parts","joins","signals","asked_signals","part_at"] ["self","parts","joins","signals"] (Zj Y2):={}
abbrev SO:mh:=Z5 (nM 35) 1
abbrev Rt:mh:=Z5 (nM 35) 2
abbrev Zj9:mh:=Z5 (nM 35) 3
abbrev YS:mh:=Z5 (nM 35) 4
abbrev XN:mh:=Z5 (nM 35) 5
abbrev Tz:mh:=Z5 (nM 35) 6
abbrev Zt2:mh:=nM 36
abbrev Zsa:mh:=nM 37
abbrev Zke:mh:=nM 38
abbrev Vc:mh:=nM 41
abbrev Zj0:mh:=nM 42
abbrev NL:mh:=nM 43
def KN:vg ["tracks","points"] NL:={}
abbrev Pw:mh:=nM 44
def Rx:vg ["tracks","points","lie"] Pw:={}
abbrev SL:mh:=Z5 (nM 46) 0
abbrev ON:mh:=nM 49
def W9:Zy ["tracks","end","name","entry","part","steps"] ["tracks","end"] (Zj ON):={}
abbrev Vg:mh:=nM 50
abbrev Zpq:mh:=nM 51
abbrev SR:mh:=nM 53
abbrev PB:mh:=nM 54
def HQ:Zy ["paths","part","train","path"] ["paths","part"] (Zj PB):={}
abbrev KD:mh:=nM 55
def Gy:Zy ["paths","steps","ahead","part"] ["paths","steps"] (Zj KD):={}
abbrev CZ:mh:=nM 56
def Mb:Zy ["paths","train","steps","told"] ["paths","train","steps"] (Zj CZ):={}
abbrev Nk:mh:=nM 59
def Ea:Zy ["tracks","begun","post","last","passed"] ["tracks","begun"] (Zj Nk):={}
abbrev Ml:mh:=nM 60
def Wn:Zy ["tracks","signal","found","begun","ahead","step"] ["tracks","signal"] (Zj Ml):={}
abbrev Nn:mh:=nM 61
def Mv:Zy ["tracks","thing","place"] ["tracks","thing"] (Zj Nn):={}
abbrev VX:mh:=nM 62
abbrev Xu:mh:=nM 64
def VQ:vg ["part"] Xu:={}
abbrev Xl:mh:=nM 65
def SJ:vg ["part"] Xl:={}
abbrev Yy:mh:=nM 66
def RK:vg ["part"] Yy:={}
abbrev Xt:mh:=nM 67
def Oc:Zy ["part","lie","stiff"] ["part","lie"] (Zj Xt):={}
abbrev PD:mh:=nM 68
def Fa:Zy ["route","rules","step"] ["route"] (Zj PD):={}
abbrev Np:mh:=nM 69
def Gz:Zy ["rules","ground","rule","told"] ["rules","ground"] (Zj Np):={}
abbrev Sq:mh:=nM 70
abbrev KH:mh:=nM 71
def Li:Zy ["lies","route","told"] ["lies","route"] (Zj KH):={}
abbrev Qm:mh:=nM 73
def Zgz:vg ["told"] Qm:={}
abbrev ZZ:mh:=Z5 (nM 74) 0
abbrev WW:mh:=Z5 (nM 74) 1
abbrev Zj5:mh:=Z5 (nM 74) 2
abbrev JD:mh:=Z5 (nM 74) 3
def SX:vg ["self","train","length","gate","seen"] JD:={}
abbrev Qa:mh:=Z5 (nM 74) 4
def Lu:Zy ["self","train","route","seen","path"] ["self","train","route","seen"] (Zj Qa):={}
abbrev JA:mh:=Z5 (nM 74) 5
def UD:vg ["self","points","lie","seen"] JA:={}
abbrev Lr:mh:=Z5 (nM 74) 6
def Oo:vg ["self","points"] Lr:={}
abbrev Qo:mh:=Z5 (nM 74) 7
def KU:vg ["self","points"] Qo:={}
abbrev Rm:mh:=Z5 (nM 74) 12
abbrev WK:mh:=Z5 (nM 74) 13
abbrev Znq:mh:=Z5 (nM 74) 14
abbrev Zk0:mh:=Z5 (nM 74) 15
abbrev Tt:mh:=Z5 (nM 74) 16
abbrev UF:mh:=Z5 (nM 74) 17
abbrev OA:mh:=nM 76
def MT:Zy ["_law_cell","_law_k","_law_left"] ["_law_cell","_law_k"] (Zj OA):={}
abbrev Rq:mh:=nM 77
abbrev Zqi:mh:=nM 78
abbrev YI:mh:=nM 79
abbrev Ki:mh:=nM 80
def Fj:Zy ["_law_kind","_law_cell","_law_k","_law_letters","_law_signs"] ["_law_kind","_law_cell","_law_k"] (Zj Ki):={}
abbrev Md:mh:=nM 81
def Z3:Zy ["_law_cell","_law_names","_law_one","_law_two","_law_three","_law_four","_law_way","_law_ends_here","_law_far","_law_joins","_law_parts","_law_turn_here","_law_aside","_law_rest"] ["_law_cell","_law_names"] (Zj Md):={}
abbrev LA:mh:=nM 82
def Yx:Zy ["_law_cells_here","_law_parts","_law_joins","_law_end","_law_k","_law_cell","_law_names","_law_j","_law_block_here"] ["_law_cells_here"] (Zj LA):={}
abbrev QV:mh:=nM 83
def BJ:Zy ["_law_parts","_law_joins","_law_rest","_law_cell","_law_j","_law_end","_law_name"] ["_law_parts","_law_joins","_law_rest","_law_cell"] (Zj QV):={}
abbrev MR:mh:=nM 84
def Yn:Zy ["_law_cells_here","_law_parts","_law_joins","_law_rest","_law_k","_law_cell","_law_kind","_law_ends_here","_law_name","_law_fresh","_law_near","_law_other"] ["_law_cells_here"] (Zj MR):={}
abbrev Pa:mh:=nM 85
def Yb:Zy ["_law_parts","_law_cell","_law_letters","_law_ends_here","_law_kind","_law_name","_law_end","_law_found","_law_k","_law_draw","_law_signs"] ["_law_parts","_law_cell"] (Zj Pa):={}
abbrev JJ:mh:=nM 86
def Xj:Zy ["_law_cells_here","_law_cell","_law_found","_law_parts","_law_joins","_law_at"] ["_law_cells_here","_law_cell"] (Zj JJ):={}
abbrev Zs1:mh:=nM 87
abbrev UW:mh:=nM 88
abbrev Qb:mh:=nM 89
def Xq:Zy ["_law_doing","e","_law_kinds","_law_words","_law_word"] ["_law_doing"] (Zj Qb):={}
abbrev LK:mh:=nM 90
def JT:Zy ["_law_keeper","_law_told"] ["_law_keeper"] (Zj LK):={}
abbrev No:mh:=nM 91
def Ym:Zy ["_law_yard","_law_cells_here","_law_tracks_here","_law_gates","_law_kind","_law_one","_law_points","_law_k","_law_came","_law_turn_here","_law_cell","_law_gate","_law_keeper","_law_name"] ["_law_yard","_law_cells_here"] (Zj No):={}
abbrev JX:mh:=nM 92
def zg:Zy ["_law_keeper","_law_tracks_here","_law_name","_law_cell","_law_seen","_law_step","_law_signal","_law_ways","_law_way"] ["_law_keeper","_law_tracks_here","_law_name","_law_cell","_law_seen"] (Zj JX):={}
abbrev IQ:mh:=nM 93
def Ys:Zy ["_law_keeper","_law_points","_law_cell","_law_seen","_law_held","_law_name","_law_due","_law_state_here","_law_lies","_law_lie","_law_one"] ["_law_keeper","_law_points","_law_cell","_law_seen"] (Zj IQ):={}
abbrev Kd:mh:=nM 94
def EG:Zy ["_law_keeper","_law_others","_law_cell","_law_way","_law_one"] ["_law_keeper","_law_others","_law_cell"] (Zj Kd):={}
abbrev MJ:mh:=nM 95
def DE:Zy ["_law_keeper","_law_points","_law_others","_law_cell","_law_seen","_law_way","_law_one","_law_stiff"] ["_law_keeper","_law_points","_law_others","_law_cell","_law_seen"] (Zj MJ):={}
abbrev vn:mh:=nM 96
def tP:Zy ["_law_script","_law_yard","_law_k","_law_begun_here","_law_keeper","_law_one","_law_points","_law_others","_law_held","_law_cell","_law_seen","_law_j"] ["_law_script"] (Zj vn):={}
set_option genInjectivity false in
set_option genSizeOf false in
structure Tx(K:Frag)(mg:Str->Option Value) where
 aS:Dn K "__init__" "Held.__init__" XQ ["self","part"]
 bv:Dn K "__init__" "Seen.__init__" ZV ["self","part"]
 bi:Dn K "__init__" "Stiff.__init__" Ziz ["self","part"]
 gk:DG K mg "is_name" YC ["thing"]
 ap:Dn K "__init__" "Part.__init__" Va ["self","name"]
 cx:Dn K "ends" "Part.ends" ZT ["self"]
 aJ:Dn K "lies" "Part.lies" WR ["self"]
 bY:Dn K "pairs" "Part.pairs" TL ["self","lie"]
 aL:xX K "leads" "Part.leads" Wa ["self","end","lie"] (.str "")
 aM:Dn K "bears" "Part.bears" SC ["self"]
 cy:Dn K "ends" "Stop.ends" Zs7 ["self"]
 ci:Dn K "pairs" "Stop.pairs" Sd ["self","lie"]
 cK:Dn K "ends" "Points.ends" WA ["self"]
 bI:Dn K "lies" "Points.lies" RM ["self"]
 cA:Dn K "pairs" "Points.pairs" Zmi ["self","lie"]
 cD:Dn K "bears" "Points.bears" Zky ["self"]
 cU:Dn K "ends" "Cross.ends" Zqb ["self"]
 cL:Dn K "pairs" "Cross.pairs" YK ["self","lie"]
 cM:Dn K "bears" "Cross.bears" Zm3 ["self"]
 gm:DG K mg "is_pair" Sg ["thing"]
 fz:DG K mg "is_known" Zuu ["end","ends"]
 dN:DG K mg "refuse_name" Zns ["name","known"]
 dm:DG K mg "parts_by_name" Lb ["parts"]
 dq:DG K mg "ends_to_parts" JZ ["part_of"]
 dO:DG K mg "refuse_join" Qs ["join","part_at","joined"]
 dP:DG K mg "joined_ends" Jt ["joins","part_at"]
 dQ:DG K mg "refuse_post" Znd ["end","part_at","ends_with_signals"]
 fA:DG K mg "posts_of" Oq ["signals","part_at"]
 bM:xX K "__init__" "Tracks.__init__" Y2 ["self","parts","joins","signals"] .non
 bQ:Dn K "names" "Tracks.names" SO ["self"]
 aQ:Dn K "named" "Tracks.named" Rt ["self","name"]
 aY:Dn K "beyond" "Tracks.beyond" Zj9 ["self","end"]
 aG:Dn K "signal_at" "Tracks.signal_at" YS ["self","end"]
 cj:Dn K "signals" "Tracks.signals" XN ["self"]
 bw:Dn K "end_of" "Tracks.end_of" Tz ["self","signal"]
 fE:DG K mg "gates_of" Zt2 ["tracks"]
 eV:DG K mg "points_of" Zsa ["tracks"]
 du:DG K mg "lies_at_first" Zke ["tracks"]
 dR:DG K mg "refuse_gate" Vc ["tracks","gate"]
 dw:DG K mg "refuse_length" Zj0 ["long"]
 ag:DG K mg "refuse_points" NL ["tracks","points"]
 aT:DG K mg "refuse_lie" Pw ["tracks","points","lie"]
 bN:Dn K "__init__" "Ground.__init__" SL ["self","lie_of","stiff_ones","path_of","told"]
 ek:DG K mg "steps_into" ON ["tracks","end"]
 em:DG K mg "end_behind" Vg ["step"]
 er:DG K mg "ends_there" Zpq ["tracks","step"]
 fF:DG K mg "parts_of" SR ["steps"]
 gU:DG K mg "holder" PB ["paths","part"]
 bJ:DG K mg "refuse_held" KD ["paths","steps"]
 ck:DG K mg "longer" CZ ["paths","train","steps"]
 fG:DG K mg "steps_on" Nk ["tracks","begun"]
 dS:DG K mg "routes_from" Ml ["tracks","signal"]
 fH:DG K mg "is_route" Nn ["tracks","thing"]
 gn:DG K mg "lies_of" VX ["route"]
 dB:DG K mg "rule_held" Xu ["part"]
 dg:DG K mg "rule_taken" Xl ["part"]
 dh:DG K mg "rule_stiff" Yy ["part"]
 dC:DG K mg "rule_lies" Xt ["part","lie"]
 fJ:DG K mg "rules_of" PD ["route"]
 gq:DG K mg "against" Np ["rules","ground"]
 df:DG K mg "against_points" Sq ["points","ground"]
 iA:DG K mg "laid" KH ["lies","route"]
 ao:DG K mg "refuse_against" Qm ["told"]
 bO:Dn K "__init__" "Keeper.__init__" ZZ ["self","tracks"]
 aB:Dn K "refuse_no_train" "Keeper.refuse_no_train" WW ["self","train"]
 aZ:Dn K "ground" "Keeper.ground" Zj5 ["self","seen"]
 bf:Dn K "come" "Keeper.come" JD ["self","train","length","gate","seen"]
 bn:Dn K "set_way" "Keeper.set_way" Qa ["self","train","route","seen"]
 aU:Dn K "turn" "Keeper.turn" JA ["self","points","lie","seen"]
 ar:Dn K "stiffen" "Keeper.stiffen" Lr ["self","points"]
 aw:Dn K "loosen" "Keeper.loosen" Qo ["self","points"]
 bg:Dn K "path" "Keeper.path" Rm ["self","train"]
 cE:Dn K "paths" "Keeper.paths" WK ["self"]
 aN:Dn K "lies" "Keeper.lies" Znq ["self"]
 aD:Dn K "stiff" "Keeper.stiff" Zk0 ["self"]
 cq:Dn K "length" "Keeper.length" Tt ["self","train"]
 aK:Dn K "trains" "Keeper.trains" UF ["self"]
 aj:DG K mg "_law_mixed" OA ["_law_cell","_law_k"]
 ax:DG K mg "_law_cell_at" Rq ["_law_script","_law_k"]
 eu:DG K mg "_law_cells" Zqi ["_law_script","_law_at","_law_end"]
 eW:DG K mg "_law_ends" YI ["_law_kind"]
 dD:DG K mg "_law_name_by" Ki ["_law_kind","_law_cell","_law_k"]
 ez:DG K mg "_law_block" Md ["_law_cell","_law_names"]
 eZ:DG K mg "_law_line" LA ["_law_cells_here"]
 dU:DG K mg "_law_closed" QV ["_law_parts","_law_joins","_law_rest","_law_cell"]
 eF:DG K mg "_law_drawn" MR ["_law_cells_here"]
 cZ:DG K mg "_law_signals_by" Pa ["_law_parts","_law_cell"]
 dE:DG K mg "_law_yard_by" JJ ["_law_cells_here","_law_cell"]
 ff:DG K mg "_law_part" Zs1 ["_law_kind","_law_name"]
 dW:DG K mg "_law_tracks" UW ["_law_yard"]
 af:DG K mg "_law_caught" Qb ["_law_doing"]
 eG:DG K mg "_law_state" LK ["_law_keeper"]
 di:DG K mg "_law_begun" No ["_law_yard","_law_cells_here"]
 ef:DG K mg "_law_led" JX ["_law_keeper","_law_tracks_here","_law_name","_law_cell","_law_seen"]
 dF:DG K mg "_law_turn" IQ ["_law_keeper","_law_points","_law_cell","_law_seen"]
 dG:DG K mg "_law_none" Kd ["_law_keeper","_law_others","_law_cell"]
 fg:DG K mg "_law_deed" MJ ["_law_keeper","_law_points","_law_others","_law_cell","_law_seen"]
 {cV:Addr}
 kh:mg "Part"=some (.ref cV)
 gz:pN K cV
 ic:nq K cV "name"
 jZ:Mk K cV ap.f
 gV:Y3 K cV "ends" cx.f
 gW:Y3 K cV "lies" aJ.f
 gA:Y3 K cV "pairs" bY.f
 gB:Y3 K cV "bears" aM.f
 gC:Y3 K cV "leads" aL.f
 {bR:Addr}
 jf:mg "Plain"=some (.ref bR)
 eI:pN K bR
 fh:nq K bR "name"
 iN:Mk K bR ap.f
 gD:Y3 K bR "ends" cx.f
 gE:Y3 K bR "lies" aJ.f
 fY:Y3 K bR "pairs" bY.f
 fZ:Y3 K bR "bears" aM.f
 gc:Y3 K bR "leads" aL.f
 {bx:Addr}
 ja:mg "Stop"=some (.ref bx)
 fK:pN K bx
 fL:nq K bx "name"
 jg:Mk K bx ap.f
 gX:Y3 K bx "ends" cy.f
 gY:Y3 K bx "lies" aJ.f
 gF:Y3 K bx "pairs" ci.f
 gG:Y3 K bx "bears" aM.f
 gH:Y3 K bx "leads" aL.f
 {bz:Addr}
 jb:mg "Gate"=some (.ref bz)
 fM:pN K bz
 fN:nq K bz "name"
 jh:Mk K bz ap.f
 gZ:Y3 K bz "ends" cy.f
 hU:Y3 K bz "lies" aJ.f
 gI:Y3 K bz "pairs" ci.f
 gJ:Y3 K bz "bears" aM.f
 gK:Y3 K bz "leads" aL.f
 {aE:Addr}
 iq:mg "Points"=some (.ref aE)
 cW:pN K aE
 eJ:nq K aE "name"
 iC:Mk K aE ap.f
 ge:Y3 K aE "ends" cK.f
 de:Y3 K aE "lies" bI.f
 fO:Y3 K aE "pairs" cA.f
 fP:Y3 K aE "bears" cD.f
 fQ:Y3 K aE "leads" aL.f
 {bS:Addr}
 ji:mg "Cross"=some (.ref bS)
 eK:pN K bS
 fi:nq K bS "name"
 iO:Mk K bS ap.f
 gL:Y3 K bS "ends" cU.f
 gM:Y3 K bS "lies" aJ.f
 gf:Y3 K bS "pairs" cL.f
 gh:Y3 K bS "bears" cM.f
 gi:Y3 K bS "leads" aL.f
 {aO:Addr}
 iP:mg "Tracks"=some (.ref aO)
 am:pN K aO
 bA:nq K aO "part_of"
 cF:nq K aO "joined"
 bF:nq K aO "post_of"
 bP:nq K aO "signal_on"
 iD:Mk K aO bM.f
 dH:Y3 K aO "names" bQ.f
 bT:Y3 K aO "named" aQ.f
 cR:Y3 K aO "beyond" aY.f
 br:Y3 K aO "signal_at" aG.f
 eR:Y3 K aO "signals" cj.f
 dz:Y3 K aO "end_of" bw.f
 {cN:Addr}
 iQ:mg "Ground"=some (.ref cN)
 dI:pN K cN
 dJ:nq K cN "lie_of"
 cY:nq K cN "stiff_ones"
 dA:nq K cN "path_of"
 eL:nq K cN "told"
 iE:Mk K cN bN.f
 {aH:Addr}
 iR:mg "Keeper"=some (.ref aH)
 ae:pN K aH
 ay:nq K aH "tracks"
 bo:nq K aH "lie_of"
 aV:nq K aH "stiff_ones"
 cG:nq K aH "length_of"
 aF:nq K aH "path_of"
 iF:Mk K aH bO.f
 cp:Y3 K aH "refuse_no_train" aB.f
 cS:Y3 K aH "ground" aZ.f
 gj:Y3 K aH "come" bf.f
 eS:Y3 K aH "set_way" bn.f
 dX:Y3 K aH "turn" aU.f
 cJ:Y3 K aH "stiffen" ar.f
 cT:Y3 K aH "loosen" aw.f
 cO:Y3 K aH "path" bg.f
 fR:Y3 K aH "paths" cE.f
 bK:Y3 K aH "lies" aN.f
 aW:Y3 K aH "stiff" aD.f
 ft:Y3 K aH "length" cq.f
 bH:Y3 K aH "trains" aK.f
 {au:Addr}
 ig:mg "YardError"=some (.ref au)
 {aq:Addr}
 iG:mg "BadName"=some (.ref aq)
 {cH:Addr}
 iS:mg "BadEnd"=some (.ref cH)
 {bU:Addr}
 iH:mg "TooMany"=some (.ref bU)
 {az:Addr}
 iI:mg "NoTrain"=some (.ref az)
 {aI:Addr}
 iT:mg "BadWay"=some (.ref aI)
 {cI:Addr}
 iU:mg "NoTurn"=some (.ref cI)
 {aX:Addr}
 ir:mg "Held"=some (.ref aX)
 {bq:Addr}
 jc:mg "Seen"=some (.ref bq)
 {aR:Addr}
 iJ:mg "Stiff"=some (.ref aR)
 bh:mg "len"=none
 dM:mg "range"=none
 ak:mg "isinstance"=none
 eU:mg "list"=none
 ei:mg "dict"=none
 iu:mg "tuple"=none
 fk:mg "str"=none
 cz:mg "enumerate"=none
 jF:mg "max"=none
 jG:mg "min"=none
 jH:mg "sum"=none
 cP:mg "sorted"=none
 jI:mg "all"=none
 jj:mg "bool"=none
 iK:mg "int"=none
 fS:mg "repr"=none
 gN:mg "ValueError"=none
 jk:mg "reversed"=none
 jJ:mg "set"=none
 ki:kitOne K (.type "tuple") (.type "tuple")=some true
 ke:kitOne K (.type "str") (.type "str")=some true
 lQ:kitOne K (.type "NoneType") (.type "str")=some false
 kl:kitOne K (.type "int") (.type "int")=some true
 kn:kitOne K (.type "int") (.type "bool")=some false
 lR:kitOne K (.type "bool") (.type "int")=some true
 lS:kitOne K (.type "bool") (.type "bool")=some true
 lT:kitOne K (.type "NoneType") (.type "int")=some false
 lU:kitOne K (.type "str") (.type "int")=some false
 lV:kitOne K (.type "int") (.type "str")=some false
 jK:kB K cV bx false
 jp:kB K bR bx false
 jL:kB K bx bx true
 jM:kB K bz bx true
 iV:kB K aE bx false
 jq:kB K bS bx false
 jN:kB K cV bz false
 jt:kB K bR bz false
 jO:kB K bx bz false
 jP:kB K bz bz true
 iW:kB K aE bz false
 ju:kB K bS bz false
 jQ:kB K cV aE false
 jv:kB K bR aE false
 jR:kB K bx aE false
 jS:kB K bz aE false
 iX:kB K aE aE true
 jw:kB K bS aE false
 kq:kB K aq aq true
 kr:kB K aq cH false
 kt:kB K aq bU false
 ku:kB K aq az false
 ky:kB K aq aI false
 kz:kB K aq cI false
 kE:kB K aq aX false
 kG:kB K aq bq false
 kH:kB K aq aR false
 jd:kB K az aq false
 iY:kB K az cH false
 jT:kB K az bU false
 je:kB K az az true
 iw:kB K az aI false
 kg:kB K az cI false
 jz:kB K az aX false
 jU:kB K az bq false
 kI:kB K az aR false
 kJ:kB K aI aq false
 kK:kB K aI cH false
 kL:kB K aI bU false
 kM:kB K aI az false
 kN:kB K aI aI true
 kO:kB K aI cI false
 kP:kB K aI aX false
 kQ:kB K aI bq false
 kR:kB K aI aR false
 kS:kB K bq aq false
 kT:kB K bq cH false
 kU:kB K bq bU false
 kW:kB K bq az false
 kX:kB K bq aI false
 kY:kB K bq cI false
 kZ:kB K bq aX false
 lh:kB K bq bq true
 li:kB K bq aR false
 lq:kB K aX aq false
 lu:kB K aX cH false
 ly:kB K aX bU false
 lz:kB K aX az false
 lB:kB K aX aI false
 lC:kB K aX cI false
 lD:kB K aX aX true
 lE:kB K aX bq false
 lF:kB K aX aR false
 lG:kB K aR aq false
 lH:kB K aR cH false
 lI:kB K aR bU false
 lJ:kB K aR az false
 lK:kB K aR aI false
 lL:kB K aR cI false
 lM:kB K aR aX false
 lN:kB K aR bq false
 lO:kB K aR aR true
 c0:PySem.W.kitCls K (.ref aq) (.ref au)=some true
 c1:PySem.W.kitCls K (.ref az) (.ref au)=some true
 c2:PySem.W.kitCls K (.ref aI) (.ref au)=some true
 c3:PySem.W.kitCls K (.ref bq) (.ref au)=some true
 c4:PySem.W.kitCls K (.ref aX) (.ref au)=some true
 c5:PySem.W.kitCls K (.ref aR) (.ref au)=some true
 v0:kitOne K (.ref aq) (.type "ValueError")=some true
 v1:kitOne K (.ref az) (.type "ValueError")=some true
 v2:kitOne K (.ref aI) (.type "ValueError")=some true
 v3:kitOne K (.ref bq) (.type "ValueError")=some true
 v4:kitOne K (.ref aX) (.type "ValueError")=some true
 v5:kitOne K (.ref aR) (.type "ValueError")=some true
 lP:kitOne K (.ref au) (.type "BaseException")=some true
 cQ:OE K mg "YardError" au
 gx:OE K mg "BadName" aq
 jV:OE K mg "BadEnd" cH
 jC:OE K mg "TooMany" bU
 jD:OE K mg "NoTrain" az
 hZ:OE K mg "BadWay" aI
 jW:OE K mg "NoTurn" cI
 ej:XI K aX au aS.f "part"
 jx:XG K aX
 fT:XI K bq au bv.f "part"
 jy:XG K bq
 eM:XI K aR au bi.f "part"
 iZ:XG K aR
 gy:∃tk,mg "LETTERS"=some (.str "abcdefghijklmnopqrstuvwxyz" tk)
 ix:∃tk,mg "FIGURES"=some (.str "0123456789" tk)
 iy:XG K aq
 jX:XG K cH
 jE:XG K bU
 iz:XG K az
 iL:XG K aI
 jY:XG K cI
 fU:∃tk,mg "LONGEST_NAME"=some (.int 6 tk)
 gO:∃tk,mg "MOST_PARTS"=some (.int 40 tk)
 fV:∃tk,mg "MOST_SIGNALS"=some (.int 40 tk)
 fw:∃tk,mg "LONGEST_TRAIN"=some (.int 4 tk)
 gP:∃tk,mg "MOST_STEPS"=some (.int 12 tk)
 {dL:Addr}
 ib:mg "NO_END"=some (.ref dL)
 iM:∀H:Hp,SqT K H dL ([.str "",.str ""]:List V)
 tG:PySem.W.specialIn K (.builtin "object.__class__") "__get__"=some (some<|.builtin "getset_descriptor.__get__")
 tK:PySem.W.takesIn K (.builtin "object.__class__")=some true
 ii:cB K cV
 ij:PySem.W.mroIn K cV (.type "object")=some true
 gQ:cB K bR
 gR:PySem.W.mroIn K bR (.type "object")=some true
 ik:cB K bx
 il:PySem.W.mroIn K bx (.type "object")=some true
 io:cB K bz
 ip:PySem.W.mroIn K bz (.type "object")=some true
 fW:cB K aE
 fX:PySem.W.mroIn K aE (.type "object")=some true
 gS:cB K bS
 gT:PySem.W.mroIn K bS (.type "object")=some true
 lW:(Value.ref aX ==Value.ref au)=false
 {bV:Addr}
 eN:uj K dB.fd bV
 {bt:Addr}
 dY:uj K dg.fd bt
 {ba:Addr}
 dZ:uj K dh.fd ba
 {bW:Addr}
 eO:uj K dC.fd bW
 {bu:Addr}
 ee:uj K di.fd bu
 {cw:Addr}
 fm:uj K ef.fd cw
 {bX:Addr}
 eP:uj K dF.fd bX
 {bd:Addr}
 eQ:uj K dG.fd bd
section
variable {P:mn} {w:mj} {K:mf} {mg:lY->me ma} {mM:mi} (T:Tx K mg)
seal PySem.wpAny
structure qx(T:Tx K mg)(H:Hp):Prop where
 rule_held:H T.bV=some (.tbl<|sQ (ue<|pj Xu)<|~~~"rule_held")
 rule_taken:H T.bt=some (.tbl<|sQ (ue<|pj Xl)<|~~~"rule_taken")
 rule_stiff:H T.ba=some (.tbl<|sQ (ue<|pj Yy)<|~~~"rule_stiff")
 rule_lies:H T.bW=some (.tbl<|sQ (ue<|pj Xt)<|~~~"rule_lies")
 _law_begun:H T.bu=some (.tbl<|Xi [(559,36,~~~"_law_begun")])
 _law_led:H T.cw=some (.tbl<|Xi [(572,34,~~~"_law_led")])
 _law_turn:H T.bX=some (.tbl<|Xi [(590,19,~~~"_law_turn")])
 _law_none:H T.bd=some (.tbl<|Xi [(600,27,~~~"_law_none"),(602,27,~~~"_law_none"),(603,23,~~~"_law_none")])
def qx.mono{T:Tx K mg}{H z:Hp}(e:mK H z)(h:qx T H):qx T z:=#[e _ _ h.rule_held,e _ _ h.rule_taken,e _ _ h.rule_stiff,e _ _ h.rule_lies,e _ _ h._law_begun,e _ _ h._law_led,e _ _ h._law_turn,e _ _ h._law_none]
abbrev Tx.tabs(T:Tx K mg):lX (lZ×Array ma):=[(T.bV,(sQ (ue<|pj Xu)<|~~~"rule_held")),(T.bt,(sQ (ue<|pj Xl)<|~~~"rule_taken")),(T.ba,(sQ (ue<|pj Yy)<|~~~"rule_stiff")),(T.bW,(sQ (ue<|pj Xt)<|~~~"rule_lies")),(T.bu,(Xi [(559,36,~~~"_law_begun")])),(T.cw,(Xi [(572,34,~~~"_law_led")])),(T.bX,(Xi [(590,19,~~~"_law_turn")])),(T.bd,(Xi [(600,27,~~~"_law_none"),(602,27,~~~"_law_none"),(603,23,~~~"_law_none")]))]
def qx.of{T:Tx K mg}{H:Hp}(h:∀p∈T.tabs,H p.1=some (.tbl p.2)):qx T H:=#[h (T.bV,(sQ (ue<|pj Xu)<|~~~"rule_held")) (by simp),h (T.bt,(sQ (ue<|pj Xl)<|~~~"rule_taken")) (by simp),h (T.ba,(sQ (ue<|pj Yy)<|~~~"rule_stiff")) (by simp),h (T.bW,(sQ (ue<|pj Xt)<|~~~"rule_lies")) (by simp),h (T.bu,(Xi [(559,36,~~~"_law_begun")])) (by simp),h (T.cw,(Xi [(572,34,~~~"_law_led")])) (by simp),h (T.bX,(Xi [(590,19,~~~"_law_turn")])) (by simp),h (T.bd,(Xi [(600,27,~~~"_law_none"),(602,27,~~~"_law_none"),(603,23,~~~"_law_none")]))<|by simp]
open YM
inductive Ev:Sp
 | mk (c k):vs=[.int c,.int k]->Q (.int<|tV c k) H->Ev  vs H Q E
inductive Hd(K:mf):Sp
 | mk (a) (ns:lX Int) (k:Nat):vs=[.ref a,.int k]->SqL K H a (ns.map V.int)->Q (.int<|zV ns k) H->Hd K vs H Q E
def ZQ:T.aj.O P w mg mM 1 Ev:=by
 refine T.aj.F.okW MT ?_;rfl'
 ·obtain⟨c,k,rfl,q⟩:=h;intro X D;refine mW (nG 2 MT<|Zn Yh (Zn xv (Zn Wl (pv 0)<|Zn xv Zf<|pv 1) Zf) Zf) ?_;refine#[.inl #[by lk,by lk],.inl #[.inr #[by lk,by lk],(by change(0:Int)<2147483647;decide),?_]];refine mX (Zk<|Zn Yh (Zn xv (pv 2)<|Zn Wl (Zn Wl (pv 2)<|Zn xv Zf<|pv 1) Zf) Zf) ?_;refine#[.inl #[by lk,by lk],.inl<|.inl #[.inl ?_,(by change(0:Int)<2147483629;decide),q]];have z:=qd ((c+7919 * k) * 48271) (show(2147483647:Int)≠0 by lk);have y:=qr ((c+7919 * k) * 48271) (show(0:Int)<2147483647 by lk)
  constructor<;>lia
def Wx(h:1<=k:=by lk):T.aj.O P w mg mM k Ev:=(ZQ T).mono h
def US:T.ax.O P w mg mM 2 (Hd K):=by
 refine T.ax.F.okA ?_;rfl'
 ·obtain⟨a,x,k,rfl,u,q⟩:=h;intro X D;refine mW (Zt (Yd xf (pv 1) (pI T.bh<|pv 0)<|Yo _) Zo Zl) ?_;refine(.inl #[.inl u,Yl (λy=>?_) λy=>?_])
  ·have y:=pL y;rw[mV]at y;have z:k<x.length:=by lia
   have e:x[k]? =some x[k]:=by simp[z]
   refine mX (Zk<|Xa (Wx T) hr rfl T.aj.m T.aj.F.kp T.aj.b .nil Z0<|Zb (nQ (pv 0)<|pv 1)<|Zb (pv 1) Za)<|.inl #[u,Zq (by rw[nU,e];rfl),x[k],k,rfl,?_];unfold zV at q;rw[e]at q;show q
  ·have y:¬((k:Int)<((x.map V.int).length:Int)):=λz=>y<|og z
   rw[mV]at y;have e:x[k]? =none:=uZ (by lia);unfold zV at q;rw[e]at q;show mX (Zk Zf) q
def GI(h:2<=k:=by lk):T.ax.O P w mg mM k (Hd K):=(US T).mono h
inductive NT:Sp
 | mk (k):vs=[.str k]->(∀p H',mK H H'->H p=none->H' p=some (.lst<|(Yq k).map V.str)->Q (.ref p) H')->NT  vs H Q E
def Ov:T.eW.O P w mg mM 1 NT:=by
 refine T.eW.F.okA ?_;rfl'
 ·obtain⟨k,rfl,q⟩:=h;intro X D;refine mW (Zt (Wu hr (pv 0) Zg) Zo Zl)<|.inl #[rfl,Yl (λz=>?_) λz=>?_]
  ·have z:k ="points":=by simpa using z
   subst z;show mX (Zk<|Zm<|Zb Zg<|Zb Zg<|Zb Zg Za) #[mY,λp y x u r=>q p y x u r]
  have o:¬k ="points":=by simpa using z
  refine mW (Zt (Wu hr (pv 0) Zg) Zo Zl)<|.inl #[rfl,Yl (λz=>?_) λz=>?_]
  ·have z:k ="cross":=by simpa using z
   subst z;show mX (Zk<|Zm<|Zb Zg<|Zb Zg<|Zb Zg<|Zb Zg Za) #[mY,λp y x u r=>q p y x u r]
  have n:¬k ="cross":=by simpa using z
  refine mW (Zt (Wu hr (pv 0) Zg) Zo Zl)<|.inl #[rfl,Yl (λz=>?_) λz=>?_]
  ·have z:k ="plain":=by simpa using z
   subst z;show mX (Zk<|Zm<|Zb Zg<|Zb Zg Za) #[mY,λp y x u r=>q p y x u r]
  have l:¬k ="plain":=by simpa using z
  show mX (Zk<|Zm<|Zb Zg Za) #[mY,λp y x u r=>q p y x u (by unfold Yq;rw[ng o,ng n,ng l];show r)]
def Al(y:l.length=n)(x:0<=i)(u:i<n):oP l i=some (l.getD i.toNat 0):=by
 have e:i=((i.toNat:Nat):Int):=by lia
 have z:i.toNat<l.length:=by lia
 rw[e];refine Zq ?_;rw[ua,vG,oR z]
 rfl
def tU(c:Int):Int:=c%2028+2028 * (c / 2028%2)
def NB(c:Int):tU c%3=c%3:=by unfold tU;lia
def Tf(c:Int):tU c / 2028%3=c / 2028%2:=by unfold tU;lia
def Uh(c:Int):tU c / 3%26=c / 3%26:=by unfold tU;lia
def Ud(c:Int):tU c / 78%26=c / 78%26:=by unfold tU;lia
inductive Qe:Sp
 | mk (kind:lY) (c) (k:Nat):vs=[.str kind,.int c,.int k]->0<kind.length->kind.length<=100->0<=c->k<100->Q (.str<|Yr kind (tU c) k) H->Qe  vs H Q E
def LS:T.dD.O P w mg mM 1 Qe:=by
 refine T.dD.F.okW Fj ?_;rfl'
 ·obtain⟨kind,c,k,rfl,u,o,e,r,q⟩:=h;intro X D;refine mW (nG 3 Fj Zg) ?_;have d:=Db k r;refine mW (Zt (Wu hr (Zn Yh (pv 1) Zf) Zf) Zo Zl) #[(by change(0:Int)<3;decide),.inl #[rfl,Yl (λz=>?_) λz=>?_]]
  ·have z:c%3=0:=by simpa using z
   unfold Yr at q;rw[nj ((NB c).trans z)]at q;refine mX (Zk<|Zn Wl (nQ (pv 0) Zf)<|Yw Dk (by rfl) T.fk wx<|Zb (pv 2) Za)<|.inr<|.inr #[kind,0,kind.cps.toList.getD 0 0,rfl,rfl,sz (by lia),?_,(k:Int),rfl,GR r,.inr<|.inl<|wj rfl rfl #[sz ?_,q]]
   ·have:(0:Int)<kind.cps.toList.length:=by rw[qK];show Int.ofNat_lt.mpr u
    show Al (n:=kind.cps.toList.length) rfl (by lk) this
   ·change 1+(tJ k).length<=1000;lia
  have z:¬c%3=0:=by simpa using z
  have l:=qd (c / 3) (show(26:Int)≠0 by lk);have j:=qr (c / 3) (show(0:Int)<26 by lk);have i:=qd (c / 78) (show(26:Int)≠0 by lk);have g:=qr (c / 78) (show(0:Int)<26 by lk);have a:=qd (c / 2028) (show(2:Int)≠0 by lk);have Y:=qr (c / 2028) (show(0:Int)<2 by lk);obtain⟨y,x⟩:∃y:Nat,c / 2028%2=(y:Int):=#[(c / 2028%2).toNat,by lia]
  unfold Yr at q;rw[NB,ng z,Tf,x,vG,Uh,Ud]at q;refine mW (nG 4 Fj<|Zn Wl (nQ (pv 3)<|Zn Yh (Zn Ye (pv 1) Zf) Zf)<|nQ (pv 3)<|Zn Yh (Zn Ye (pv 1) Zf) Zf) #[#[by lk,by lk],(by change(0:Int)<26;decide),.inr<|.inr #[_,_,tN<|c / 3%26,rfl,rfl,sz (by rw[Dq];decide),(by rw[BV];show Al (n:=26) rfl l j),?_]];refine#[#[by lk,by lk],(by change(0:Int)<26;decide),.inr<|.inr #[_,_,tN<|c / 78%26,rfl,rfl,sz (by rw[Dq];decide),(by rw[BV];show Al (n:=26) rfl i g),.inr<|.inl #[_,_,rfl,rfl,sz (by change 1+1<=1000;decide),?_]]];have U:(sr "0" y).length<=2:=by
   have:y<3:=by lia
   have hd:∀m,m<3->(sr "0" m).length<=2:=by left
   show hd y this
  have p:(#[(List.toArray [tN (c / 3%26)])]++#[(List.toArray [tN (c / 78%26)])]:lY).length=2:=by rw[qc];rfl
  refine mX (Zk<|Zn Wl (Zn Wl (pv 4)<|Zn LH Zg<|Zn Yh (Zn Ye (pv 1) Zf) Zf)<|Yw Dk (by rfl) T.fk wx<|Zb (pv 2) Za) #[#[by lk,by lk],(by change(0:Int)<2;decide),"0",y,rfl,by rw[<-x],by change 1 * y<=1000;lia,by lia,.inr<|.inl<|wj rfl rfl #[sz (by rw[p];lia),(k:Int),rfl,GR r,.inr<|.inl<|wj rfl rfl #[sz ?_,q]]];change _+(tJ k).length<=1000;rw[qc,p];lia
def Zs(H:Hp)(t:lZ)(q:Zh):Prop:=H t=some (.tup [.str q.1,.str q.2])
def Wv(H:Hp)(t:lZ)(j:Zh×Zh):Prop:=∃a b,H t=some (.tup [.ref a,.ref b])/\Zs H a j.1/\Zs H b j.2
def Zw(H:Hp)(l:lZ)(ps:lX Zh):Prop:=∃z:lX lZ,H l=some (.lst<|z.map V.ref)/\Paired (Zs H) z ps
def Yp(H:Hp)(l:lZ)(y:lX (Zh×Zh)):Prop:=∃z:lX lZ,H l=some (.lst<|z.map V.ref)/\Paired (Wv H) z y
def Zs.mono(e:mK H z)(h:Zs H t q):Zs z t q:=e.at h
def Wv.mono(e:mK H z)(h:Wv H t j):Wv z t j:=let⟨a,b,y,x,u⟩:=h;#[a,b,e.at y,x.mono e,u.mono e]
def Zw.mono(e:mK H z)(h:Zw H l ps):Zw z l ps:=let⟨y,x,u⟩:=h;#[y,e.at x,nX u λ_ _ r=>r.mono e]
def Yp.mono(e:mK H z)(h:Yp H l y):Yp z l y:=let⟨x,u,s⟩:=h;#[x,e.at u,nX s λ_ _ r=>r.mono e]
inductive IP:Sp
 | mk (c nl n1 n2 n3 n4):vs=[.int c,.ref nl]->H nl=some (.lst [.str n1,.str n2,.str n3,.str n4])->(∀(t:lZ)(H':Hp)(pl jl ie oe:lZ)(ps:lX Zh)(js:lX (Zh×Zh)) (e1 e2:Zh),mK H H'->H' t=some (.tup [.ref pl,.ref jl,.ref ie,.ref oe])->Zw H' pl ps->Yp H' jl js->Zs H' ie e1->Zs H' oe e2->qD n1 n2 n3 n4 ps js e1 e2->Q (.ref t) H')->IP  vs H Q E
def By :∃w,oP [u,v] (n%2)=some w/\((n%2=0/\w=u)\/(n%2=1/\w=v)):=by
 have z:=qd n (show(2:Int)≠0 by lk);have y:=qr n (show(0:Int)<2 by lk);generalize n%2=m at z y;have:m=0\/m=1:=by lia
 rcases this with rfl|rfl
 ·show#[u,rfl,.inl #[rfl,rfl]]
 ·show#[v,rfl,.inr #[rfl,rfl]]
def UI{l D:lZ}{xs:lX lY}{x:lY}{r:Hp}{Q:VK}{z:St}(Y:r l=some (.lst<|xs.map V.str))(N:xs.length<=100)(h:r D=none)(q:∀u,mK r u->u D=some (.lst<|(xs.filter λe=>decide<|e≠x).map V.str)->Q (.ref D) u){fr:St->St}(U:fr z=[none,some<|.str x]){g:TT}(j:g=wY (qZ (sV K) (rJ 0)<|rJ 1)) :
  sw (uT K l) fr (qW 0) g (rJ 0) Q z r D:=by
 refine Yz (xs:=xs.map V.str) (λi p u=>p=((xs.take i).filter λe=>decide<|e≠x).map V.str/\u D=some (.lst p)/\mK r u) #[rfl,Zc,pC h] ?_ ?_ ?_
 ·rintro i p u _ ⟨_,_,n⟩;show mZ<|n.at Y
 ·rintro k v p u d ⟨rfl,c,n⟩;rw[nU]at d;obtain⟨y,a,rfl⟩:=oo.mp d;unfold qB;rw[U,j];refine#[pA rfl,.inl #[rfl,Yl (λs=>?_) λs=>?_]]
  ·have s:y≠x:=by simpa using s
   refine#[c,?_,?_,Zc,λb o e=>?_]
   ·rw[mV];have:=wW (λe:lY=>decide<|e≠x)<|xs.take k;rw[oF]at this;show Zp (by lia)
   ·rw[oH,a,uM,nJ,show(some y).toList=[y]from rfl,rB,nj<|og s]
    rfl
   ·rw[Zd (Ze e h)];show n.at e
  ·have s:¬y≠x:=by simpa using s
   refine#[?_,c,n];rw[oH,a,uM,show(some y).toList=[y]from rfl,rB,ng (by simpa using s),yd,pO]
 ·rintro p s ⟨rfl,y,o⟩;rw[mV,pD]at y;show q s o y
def Zna:T.ez.O P w mg mM 1 IP:=by
 refine T.ez.F.okW Z3 ?_;rfl'
 ·obtain⟨c,x,n1,n2,n3,n4,rfl,hnl,q⟩:=h;intro X D;refine mW (QR (pv 1)<|Yf1 rfl<|Zu (oE 2 Z3)<|Zu (oE 3 Z3)<|Zu (oE 4 Z3)<|Zu (oE 5 Z3) Y8) #[mZ hnl,rfl,rfl,?_];refine mW (nG 6 Z3<|Zn Yh (pv 0) Zf) #[(by change(0:Int)<8;decide),?_];refine mW (Zt (Yd xf (pv 6) Zf<|Yo _) Zo Zl)<|Yl (λ_=>?_) λ_=>?_
  ·refine mW (nG 7 Z3<|nQ (Zm<|Zb (Zm<|Zb Zg<|Zb Zg Za)<|Zb (Zm<|Zb Zg<|Zb Zg Za) Za)<|Zn Yh (Zn Ye (pv 0) Zf) Zf) #[mY,λla H1 I _ e1=>#[mY,λlb H2 i _ e2=>#[mY,λll H3 j _ e3=>#[#[by lk,by lk],(by change(0:Int)<2;decide),?_]]]];obtain⟨l7,a,b,C8,h7,P4⟩:∃l7 a b,oP [V.ref la,.ref lb] (c / 8%2)=some (.ref l7)/\H3 l7=some (.lst [.str a,.str b])/\(a,b)∈[(("a":lY),("b":lY)),("b","a")]:=by
    obtain⟨w,G,h|h⟩:=By (n:=c / 8) (u:=V.ref la) (v:=V.ref lb)
    ·show#[la,"a","b",by rw[G,h.2],j.at<|i.at e1,by simp]
    ·show#[lb,"b","a",by rw[G,h.2],j.at e2,by simp]
   refine .inl #[mZ e3,C8,?_];have C4:=I.trans<|i.trans j;refine mX (Zk<|Zi<|Zb (Zm<|Zb (Zi<|Zb Zg<|Zb (pv 2) Za) Za)<|Zb (Zm Za)<|Zb (Zi<|Zb (pv 2)<|Zb (nQ (pv 7) Zf) Za)<|Zb (Zi<|Zb (pv 2)<|Zb (nQ (pv 7) Zf) Za) Za) #[mY,λx H4 l _ e=>#[mY,λpl H5 y _ e5=>#[mY,λjl H6 o _ e6=>(.inl #[mZ<|o.at<|y.at<|l.at h7,rfl,mY,λie H7 p _ e7=>(.inl #[mZ<|p.at<|o.at<|y.at<|l.at h7,rfl,mY,λoe H8 z _ e8=>#[mY,λt H9 g _ e9=>?_]])])]]];show q t H9 pl jl ie oe _ _ _ _ (C4.trans<|l.trans<|y.trans<|o.trans<|p.trans<|z.trans g) e9 #[[x],g.at<|z.at<|p.at<|o.at e5,.cons (g.at<|z.at<|p.at<|o.at<|y.at e) .nil] #[[],g.at<|z.at<|p.at e6,.nil] (g.at<|z.at e7) (g.at e8)<|.plain a b P4
  refine mW (Zt (Yd xf (pv 6) Zf<|Yo _) Zo Zl)<|Yl (λ_=>?_) λ_=>?_
  ·refine mW (nG 8 Z3<|nQ (Zm<|Zb (Zm<|Zb Zg<|Zb Zg Za)<|Zb (Zm<|Zb Zg<|Zb Zg Za) Za)<|Zn Yh (Zn Ye (pv 0) Zf) Zf) #[mY,λla H1 I _ e1=>#[mY,λlb H2 i _ e2=>#[mY,λll H3 j _ e3=>#[#[by lk,by lk],(by change(0:Int)<2;decide),?_]]]];obtain⟨l7,a,b,C8,h7,P4⟩:∃l7 a b,oP [V.ref la,.ref lb] (c / 8%2)=some (.ref l7)/\H3 l7=some (.lst [.str a,.str b])/\(a,b)∈[(("left":lY),("right":lY)),("right","left")]:=by
    obtain⟨w,G,h|h⟩:=By (n:=c / 8) (u:=V.ref la) (v:=V.ref lb)
    ·show#[la,"left","right",by rw[G,h.2],j.at<|i.at e1,by simp]
    ·show#[lb,"right","left",by rw[G,h.2],j.at e2,by simp]
   refine .inl #[mZ e3,C8,?_];have C4:=I.trans<|i.trans j;refine mW (nG 9 Z3<|Zm<|Zb (Zi<|Zb (Zi<|Zb (pv 2)<|Zb Zg Za)<|Zb (Zi<|Zb (pv 3)<|Zb Zg Za) Za)<|Zb (Zi<|Zb (Zi<|Zb (pv 2)<|Zb Zg Za)<|Zb (Zi<|Zb (pv 4)<|Zb Zg Za) Za) Za) #[mY,λa1 H4 l _ d=>#[mY,λa2 H5 y _ Y=>#[mY,λj1 H6 o _ U=>#[mY,λa3 H7 p _ N=>#[mY,λa4 H8 z _ M=>#[mY,λj2 H9 g _ L=>#[mY,λjA L0 x _ J=>?_]]]]]]];have J1:Wv L0 j1 ((n1,"left"),(n2,"a")):=#[a1,a2,x.at<|g.at<|z.at<|p.at U,x.at<|g.at<|z.at<|p.at<|o.at<|y.at d,x.at<|g.at<|z.at<|p.at<|o.at Y]
   have J2:Wv L0 j2 ((n1,"right"),(n3,"a")):=#[a3,a4,x.at L,x.at<|g.at<|z.at N,x.at<|g.at M]
   have s0A:=C4.trans<|l.trans<|y.trans<|o.trans<|p.trans<|z.trans<|g.trans x;have h7:=(l.trans<|y.trans<|o.trans<|p.trans<|z.trans<|g.trans x).at h7;clear I i j l y o p z g x d Y U N M L e1 e2 e3 C4;refine mW (nG 9 Z3<|Zn Wl (pv 9)<|Zm<|Zb (Zi<|Zb (Zi<|Zb (pv 3)<|Zb Zg Za)<|Zb (Zi<|Zb (pv 5)<|Zb (nQ (pv 8) Zf) Za) Za)<|Zb (Zi<|Zb (Zi<|Zb (pv 5)<|Zb (nQ (pv 8) Zf) Za)<|Zb (Zi<|Zb (pv 4)<|Zb Zg Za) Za) Za) #[mY,λb1 U2 B6 _ d=>(.inl #[mZ<|B6.at h7,rfl,mY,λb2 M8 A9 _ Y=>#[mY,λj3 H13 x9 _ U=>(.inl #[mZ<|x9.at<|A9.at<|B6.at h7,rfl,mY,λb3 H14 y9 _ N=>#[mY,λb4 H15 D6 _ M=>#[mY,λj4 H16 B7 _ L=>#[mY,λjB H17 e _ f8=>.inr<|.inr #[(B6.trans<|A9.trans<|x9.trans<|y9.trans<|D6.trans<|B7.trans e).at J,f8,mY,λjl H18 U3 _ f9=>?_]]]]])]])];have sAB:=B6.trans<|A9.trans<|x9.trans<|y9.trans<|D6.trans<|B7.trans<|e.trans U3;have J3:Wv H18 j3 ((n2,"b"),(n4,a)):=#[b1,b2,(y9.trans<|D6.trans<|B7.trans<|e.trans U3).at U,(A9.trans<|x9.trans<|y9.trans<|D6.trans<|B7.trans<|e.trans U3).at d,(x9.trans<|y9.trans<|D6.trans<|B7.trans<|e.trans U3).at Y]
   have J4:Wv H18 j4 ((n4,b),(n3,"b")):=#[b3,b4,(e.trans U3).at L,(D6.trans<|B7.trans<|e.trans U3).at N,(B7.trans<|e.trans U3).at M]
   have y4:Yp H18 jl [((n1,"left"),(n2,"a")),((n1,"right"),(n3,"a")),((n2,"b"),(n4,a)),((n4,b),(n3,"b"))]:=#[[j1,j2,j3,j4],f9,.cons (J1.mono sAB)<|.cons (J2.mono sAB)<|.cons J3<|.cons J4 .nil]
   have s0B:=s0A.trans sAB;clear J1 J2 J3 J4 B6 A9 x9 y9 D6 B7 e U3 sAB s0A d Y U N M L J f8 f9 h7;refine mW (nG 10 Z3<|Zm<|Zb (Zi<|Zb Zg<|Zb (pv 2) Za)<|Zb (Zi<|Zb Zg<|Zb (pv 3) Za)<|Zb (Zi<|Zb Zg<|Zb (pv 4) Za)<|Zb (Zi<|Zb Zg<|Zb (pv 5) Za) Za) #[mY,λc1 G1 I _ d=>#[mY,λc2 G2 i _ Y=>#[mY,λc3 G3 j _ U=>#[mY,λc4 G4 l _ N=>#[mY,λpl G5 y _ M=>?_]]]]];have m9:Zw G5 pl [("points",n1),("plain",n2),("plain",n3),("points",n4)]:=#[[c1,c2,c3,c4],M,.cons (y.at<|l.at<|j.at<|i.at d)<|.cons (y.at<|l.at<|j.at Y)<|.cons (y.at<|l.at U)<|.cons (y.at N) .nil]
   have sG:=I.trans<|i.trans<|j.trans<|l.trans y;refine mX (Zk<|Zi<|Zb (pv 10)<|Zb (pv 9)<|Zb (Zi<|Zb (pv 2)<|Zb Zg Za)<|Zb (Zi<|Zb (pv 5)<|Zb Zg Za) Za) #[mY,λie G6 o _ L=>#[mY,λoe G7 p _ J=>#[mY,λt G8 z _ f8=>?_]]];have C:=o.trans<|p.trans z;show q t G8 pl jl ie oe _ _ _ _ (s0B.trans<|sG.trans C) f8 (m9.mono C) (y4.mono<|sG.trans C) ((p.trans z).at L) (z.at J)<|.loop a b P4
  refine mW (Zt (Yd xf (pv 6) Zf<|Yo _) Zo Zl)<|Yl (λ_=>?_) λ_=>?_
  ·refine mW (nG 7 Z3<|Zm<|Zb Zg<|Zb Zg<|Zb Zg Za) #[mY,λle H1 I _ e1=>?_];refine mW (nG 11 Z3<|Zn Yh (Zn Ye (pv 0) Zf) Zf) #[#[by lk,by lk],(by change(0:Int)<3;decide),?_];obtain⟨x,r0,r1,C8,P9,hpm⟩:∃x r0 r1:lY,oP [V.str "stem",.str "left",.str "right"] (2-c / 8%3)=some (.str x)/\(([("stem":lY),"left","right"].filter λe=>decide<|e≠x)=[r0,r1])/\[x,r0,r1].Perm ["stem","left","right"]:=by
    have h0:=qd (c / 8) (show(3:Int)≠0 by lk);have h1:=qr (c / 8) (show(0:Int)<3 by lk);generalize c / 8%3=m at h0 h1;have:m=0\/m=1\/m=2:=by lia
    rcases this with rfl|rfl|rfl
    ·show#["right","stem","left",rfl,by left,by left]
    ·show#["left","stem","right",rfl,by left,by left]
    ·show#["stem","left","right",rfl,by left,by left]
   refine mW (nG 12 Z3<|nQ (pv 7)<|Zn Hc Zf<|pv 11)<|.inl #[mZ e1,C8,?_];refine mW (nG 9 Z3<|Zm<|Zb (Zi<|Zb (Zi<|Zb (pv 2)<|Zb (pv 12) Za)<|Zb (Zi<|Zb (pv 3)<|Zb Zg Za) Za)<|Zb (Zi<|Zb (Zi<|Zb (pv 3)<|Zb Zg Za)<|Zb (Zi<|Zb (pv 4)<|Zb Zg Za) Za) Za) #[mY,λa1 H2 i _ d=>#[mY,λa2 H3 j _ Y=>#[mY,λj1 H4 l _ U=>#[mY,λa3 H5 y _ N=>#[mY,λa4 H6 o _ M=>#[mY,λj2 H7 p _ L=>#[mY,λjl H8 z _ J=>?_]]]]]]];have y4:Yp H8 jl [((n1,x),(n2,"b")),((n2,"a"),(n3,"a"))]:=#[[j1,j2],J,.cons #[a1,a2,(y.trans<|o.trans<|p.trans z).at U,(j.trans<|l.trans<|y.trans<|o.trans<|p.trans z).at d,(l.trans<|y.trans<|o.trans<|p.trans z).at Y]<|.cons #[a3,a4,z.at L,(o.trans<|p.trans z).at N,(p.trans z).at M] .nil]
   have s28:=i.trans<|j.trans<|l.trans<|y.trans<|o.trans<|p.trans z;have N9:=I.trans s28;have e1:=s28.at e1;clear I i j l y o p z d Y U N M L J s28;refine mW (xx 13 ["_law_end","_law_aside"] Z3 (pr 1 [12] rfl) (Yi<|pv 7) (oJ 0) (sS<|Yd (r:=sV K) (ur hr) (pv 0) (pv 1)<|Yo _) (pv 0)) #[mZ e1,λe hlr=>?_];refine UI (xs:=["stem","left","right"]) (x:=x) e1 (by lk) hlr (λH9 g e9=>?qq) ?aa ?bb
   case aa=>rfl
   case bb=>rfl
   rw[P9]at e9;obtain⟨B,O5,hkm⟩:∃B:lY,oP [V.str "stop",.str "gate"] (c / 24%2)=some (.str B)/\B∈[("stop":lY),"gate"]:=by
    obtain⟨w,G,h|h⟩:=By (n:=c / 24) (u:=V.str "stop") (v:=V.str "gate")
    ·show#["stop",by rw[G,h.2],by simp]
    ·show#["gate",by rw[G,h.2],by simp]
   refine mW (nG 10 Z3<|Zm<|Zb (Zi<|Zb Zg<|Zb (pv 2) Za)<|Zb (Zi<|Zb Zg<|Zb (pv 3) Za)<|Zb (Zi<|Zb (nQ (Zm<|Zb Zg<|Zb Zg Za)<|Zn Yh (Zn Ye (pv 0) Zf) Zf)<|Zb (pv 4) Za) Za) #[mY,λc1 G1 I _ d=>#[mY,λc2 G2 i _ Y=>#[mY,λlk G3 j _ U=>#[#[by lk,by lk],(by change(0:Int)<2;decide),.inl #[mZ U,O5,mY,λc3 G4 l _ N=>#[mY,λpl G5 y _ M=>?_]]]]]];have m9:Zw G5 pl [("points",n1),("plain",n2),(B,n3)]:=#[[c1,c2,c3],M,.cons (y.at<|l.at<|j.at<|i.at d)<|.cons (y.at<|l.at<|j.at Y)<|.cons (y.at N) .nil]
   have sG:=I.trans<|i.trans<|j.trans<|l.trans y;obtain⟨a,b,ha,hb,P4⟩:∃a b:lY,oP [V.str r0,.str r1] (c / 48%2)=some (.str a)/\oP [V.str r0,.str r1] (1-c / 48%2)=some (.str b)/\[x,a,b].Perm ["stem","left","right"]:=by
    have h0:=qd (c / 48) (show(2:Int)≠0 by lk);have h1:=qr (c / 48) (show(0:Int)<2 by lk);generalize c / 48%2=m at h0 h1;have:m=0\/m=1:=by lia
    rcases this with rfl|rfl
    ·show#[r0,r1,rfl,rfl,hpm]
    ·show#[r1,r0,rfl,rfl,((yf r0 r1 []).cons x).trans hpm]
   refine mX (Zk<|Zi<|Zb (pv 10)<|Zb (pv 9)<|Zb (Zi<|Zb (pv 2)<|Zb (nQ (pv 13)<|Zn Yh (Zn Ye (pv 0) Zf) Zf) Za)<|Zb (Zi<|Zb (pv 2)<|Zb (nQ (pv 13)<|Zn Hc Zf<|Zn Yh (Zn Ye (pv 0) Zf) Zf) Za) Za) #[#[by lk,by lk],(by change(0:Int)<2;decide),.inl #[mZ<|sG.at e9,ha,mY,λie G6 o _ L=>?_]];refine#[#[by lk,by lk],(by change(0:Int)<2;decide),.inl #[mZ<|o.at<|sG.at e9,hb,mY,λoe G7 p _ J=>#[mY,λt G8 z _ f8=>?_]]];have C:=o.trans<|p.trans z;show q t G8 pl jl ie oe _ _ _ _ (N9.trans<|g.trans<|sG.trans C) f8 (m9.mono C) (y4.mono<|g.trans<|sG.trans C) ((p.trans z).at L) (z.at J)<|.siding x a b B P4 hkm
  refine mW (nG 9 Z3<|Zm<|Zb (Zi<|Zb (Zi<|Zb (pv 2)<|Zb Zg Za)<|Zb (Zi<|Zb (pv 3)<|Zb Zg Za) Za)<|Zb (Zi<|Zb (Zi<|Zb (pv 4)<|Zb Zg Za)<|Zb (Zi<|Zb (pv 2)<|Zb Zg Za) Za) Za) #[mY,λa1 H2 i _ d=>#[mY,λa2 H3 j _ Y=>#[mY,λj1 H4 l _ U=>#[mY,λa3 H5 y _ N=>#[mY,λa4 H6 o _ M=>#[mY,λj2 H7 p _ L=>#[mY,λjl H8 z _ J=>?_]]]]]]];have y4:Yp H8 jl [((n1,"c"),(n2,"a")),((n3,"a"),(n1,"d"))]:=#[[j1,j2],J,.cons #[a1,a2,(y.trans<|o.trans<|p.trans z).at U,(j.trans<|l.trans<|y.trans<|o.trans<|p.trans z).at d,(l.trans<|y.trans<|o.trans<|p.trans z).at Y]<|.cons #[a3,a4,z.at L,(o.trans<|p.trans z).at N,(p.trans z).at M] .nil]
  have N9:=i.trans<|j.trans<|l.trans<|y.trans<|o.trans<|p.trans z;clear i j l y o p z d Y U N M L J;obtain⟨B,O5,hkm⟩:∃B:lY,oP [V.str "gate",.str "stop"] (c / 8%2)=some (.str B)/\B∈[("gate":lY),"stop"]:=by
   obtain⟨w,G,h|h⟩:=By (n:=c / 8) (u:=V.str "gate") (v:=V.str "stop")
   ·show#["gate",by rw[G,h.2],by simp]
   ·show#["stop",by rw[G,h.2],by simp]
  refine mW (nG 10 Z3<|Zm<|Zb (Zi<|Zb Zg<|Zb (pv 2) Za)<|Zb (Zi<|Zb Zg<|Zb (pv 3) Za)<|Zb (Zi<|Zb (nQ (Zm<|Zb Zg<|Zb Zg Za)<|Zn Yh (Zn Ye (pv 0) Zf) Zf)<|Zb (pv 4) Za) Za) #[mY,λc1 G1 I _ d=>#[mY,λc2 G2 i _ Y=>#[mY,λlk G3 j _ U=>#[#[by lk,by lk],(by change(0:Int)<2;decide),.inl #[mZ U,O5,mY,λc3 G4 l _ N=>#[mY,λpl G5 y _ M=>?_]]]]]];have m9:Zw G5 pl [("cross",n1),("gate",n2),(B,n3)]:=#[[c1,c2,c3],M,.cons (y.at<|l.at<|j.at<|i.at d)<|.cons (y.at<|l.at<|j.at Y)<|.cons (y.at N) .nil]
  have sG:=I.trans<|i.trans<|j.trans<|l.trans y;refine mX (Zk<|Zi<|Zb (pv 10)<|Zb (pv 9)<|Zb (Zi<|Zb (pv 2)<|Zb Zg Za)<|Zb (Zi<|Zb (pv 2)<|Zb Zg Za) Za) #[mY,λie G6 o _ L=>#[mY,λoe G7 p _ J=>#[mY,λt G8 z _ f8=>?_]]];have C:=o.trans<|p.trans z;show q t G8 pl jl ie oe _ _ _ _ (N9.trans<|sG.trans C) f8 (m9.mono C) (y4.mono<|sG.trans C) ((p.trans z).at L) (z.at J)<|.cross B hkm
end
end K65
end
section
namespace K65
open PySem L2 NM YM
section
variable {P:mn} {w:mj} {K:mf} {mg:lY->me ma} {mM:mi} (T:Tx K mg)
seal PySem.wpAny
def yU(xs:lX V)(k:Nat):rX xs (some (k:Int)) none=xs.drop k:=by
 unfold rX;rw[HT.sIx_nat,HT.sIx_none]
 by_cases h:k<=xs.length
 ·rw[Nat.min_eq_left h,uC (by rw[yC];show nK _)]
 ·rw[Nat.min_eq_right (by lia),Eg,List.take_nil,List.drop_of_length_le<|by lia]
def Bx(xs:lX V)(k:Nat):rX xs none (some (k:Int))=xs.take k:=by
 unfold rX;rw[HT.sIx_nat,HT.sIx_none,List.drop_zero,Nat.sub_zero]
 by_cases h:k<=xs.length
 ·rw[Nat.min_eq_left h]
 ·rw[Nat.min_eq_right (by lia),pD,uC<|by lia]
def Zw.app(z:Paired (Zs H) ts ps)(y:Paired (Zs H) us qs)(e:H l=some (.lst<|ts.map V.ref++us.map V.ref)):Zw H l (ps++qs):=#[ts++us,by rw[nJ];show e,pQ z y]
def Yp.app(z:Paired (Wv H) ts ps)(y:Paired (Wv H) us qs)(e:H l=some (.lst<|ts.map V.ref++us.map V.ref)):Yp H l (ps++qs):=#[ts++us,by rw[nJ];show e,pQ z y]
inductive OZ(K:mf):Sp
 | mk (cl) (cs:lX Int):vs=[.ref cl]->SqL K H cl (cs.map V.int)->(∀c∈cs,0<=c)->(∀(t:lZ)(H':Hp)(pl jl:lZ)(ps:lX Zh)(js:lX (Zh×Zh)),mK H H'->H' t=some (.tup [.ref pl,.ref jl])->Zw H' pl ps->Yp H' jl js->H pl=none->H jl=none->Net ps js []->ps.length<=38->(∀p∈ps,p=((("gate":lY),("g":lY)):Zh)\/p=((("gate":lY),("h":lY)):Zh)\/ww p.2 36)->Q (.ref t) H')->OZ K vs H Q E
inductive JS(H H5:Hp)(cl:Addr)(i:Nat):St->Hp->Prop
 | mk (pl jl e o4 o5 o6 o7 o8 ps js Q3):mK H5 H'->Zw H' pl ps->Yp H' jl js->Zs H' e Q3->vq i ps js Q3->H pl=none->H jl=none->JS H H5 cl i [some (.ref cl),some<|.ref pl,some<|.ref jl,some<|.ref e,o4,o5,o6,o7,o8] H'
def Sv:T.eZ.O P w mg mM 2 (OZ K):=by
 refine T.eZ.F.okW Yx ?_;rfl'
 ·obtain⟨cl,cs,rfl,w9,N0,q⟩:=h;intro X D;refine mW (nG 1 Yx<|Zm<|Zb (Zi<|Zb Zg<|Zb Zg Za) Za) #[mY,λt1 x s1 _ e1=>#[mY,λG p s2 n2 e2=>?_]];refine mW (nG 2 Yx<|Zm Za) #[mY,λC x s3 n3 e3=>?_];refine mW (nG 3 Yx<|Zi<|Zb Zg<|Zb Zg Za) #[mY,λe0 H4 s4 n4 e4=>?_];have T5:=s1.trans<|s2.trans<|s3.trans s4;have hp0:Zw H4 G [("gate","g")]:=#[[t1],s4.at<|s3.at e2,.cons (s4.at<|s3.at<|s2.at e1) .nil]
  have hj0:Yp H4 C []:=#[[],s4.at e3,.nil]
  have f0:H G=none:=s1.free n2;have f1:H C=none:=s1.free<|s2.free n3;clear s1 s2 s3 s4 n2 n3 n4 e1 e2 e3;refine mW (Xk pM rfl (yu rfl T.cz<|Zb (Wm (r:=tT K) uA (pv 0) ut<|tQ Zf) Za) (tD rfl<|Zu (oE 4 Yx)<|Zu (oE 5 Yx) Y8) Zo)<|.inr<|.inl #[T5.seq w9,λx H5 s5 p e5=>#[mZ e5,?_]];rw[show(some (9:Int))=some ((9:Nat):Int)from rfl,Bx,<-wc]at e5;have T6:=T5.trans s5;refine yD (xs:=(cs.take 9).map V.int) (JS H H5 cl)
   (.mk G C e0 none none none none none _ _ _ (qy _) (hp0.mono s5) (hj0.mono s5) (s5.at e4) vq.start f0 f1) ?_ ?_ ?_
  ·rintro i z H' _ ⟨_,_,_,_,_,_,_,_,_,_,_,x,_⟩;show mZ<|x.at e5
  ·rintro i v z H6 hi ⟨pl,jl,e,o4,o5,o6,o7,o8,ps,js,Q3,s6,m9,y4,V7,u,fp,fj⟩ tp H7 Y n7 e7;rw[nU]at hi;obtain⟨c,hc,rfl⟩:=oo.mp hi;have hi9:i<9:=by
    have:=(pz.mp hc).1;rw[oF]at this;lia
   have hc0:0<=c:=N0 c<|Aj<|pi hc;refine#[nw e7,rfl,rfl,?_];have F2:=s6.trans Y;have m9:=m9.mono Y;have y4:=y4.mono Y;have V7:=V7.mono Y;obtain⟨nm,C5⟩:∃nm:Nat->lY,nm=λj=>Yr ((["p","q","r","t"]:lX lY).getD j "p") (tU<|c / 96+5 * (j:Int)) (4 * i+j):=#[_,rfl]
   refine mW (nG 6 Yx<|Zm Za) #[mY,λD x s75 hD e75=>?_];let I1:IF:=λj z H'=>(∃o7,z=[some (.ref cl),some<|.ref pl,some<|.ref jl,some<|.ref e,some<|.int (i:Int),some<|.int c,some<|.ref D,o7,o8])/\H' D=some (.lst<|((List.range j).map nm).map V.str)/\mK H7 H'
   refine mW (Xk pM rfl (Ow rfl T.dM<|Zb Zf Za) (oE 7 Yx) Zo)<|qf rfl #[by lk,by lk,yw (lo:=0) (n:=4) I1 #[#[_,rfl],e75,s75] ?_ ?_]
   ·rintro j z H8 hj ⟨⟨o7,rfl⟩,p,l⟩;obtain⟨kd,I⟩:∃kd,kd=(["p","q","r","t"]:lX lY).getD j "p":=#[_,rfl]
    have a:j=0\/j=1\/j=2\/j=3:=by lia
    obtain⟨x,C8,B⟩:∃x,oP (Str.cps "pqrt").toList ((0:Int)+(j:Int))=some x/\(#[(List.toArray [x])]:lY)=kd:=by
     rw[I];rcases a with rfl|rfl|rfl|rfl<;>show#[_,rfl,rfl]
    have hkl:kd.length=1:=by
     rw[<-B]
     rfl
    refine mX (Z1<|rD (pv 6)<|Zx (LS T) hr<|Zb (nQ Zg<|pv 7)<|Zb (Zn Wl (Zn Ye (pv 5) Zf)<|Zn xv Zf<|pv 7)<|Zb (Zn Wl (Zn xv Zf<|pv 4)<|pv 7) Za) #[.inl #[rfl,_,mZ p],.inr<|.inr #[_,_,x,rfl,rfl,sz (by left),C8,#[by lk,by lk],.inl #[by lk,by lk],.inl #[.inl #[by lk,by lk],.inl #[kd,c / 96+5 * (j:Int),4 * i+j,?_,by lia,by lia,?_,by lia,p,?_,#[_,rfl],?_,λb o y=>?_]]]]
    ·change[V.str #[(List.toArray [x])],V.int<|c / 96+5 * (0+(j:Int)),V.int<|4 * (i:Int)+(0+(j:Int))]=_;rw[B,show(0:Int)+(j:Int)=j by lia,show 4 * (i:Int)+(j:Int)=((4 * i+j:Nat):Int) by lia]
    ·have:=Int.ediv_nonneg hc0 (show(0:Int)<=96 by lk);lia
    ·rw[mV,mV,Bj];show Zp (by lia)
    ·rw[Zc,CS,nJ,nJ,C5,I]
     rfl
    ·rw[Zd (Ze y hD)];show l.at y
   ·rintro z H8 ⟨⟨o7,rfl⟩,p,l⟩;have m9:=m9.mono l;have y4:=y4.mono l;have V7:=V7.mono l;refine mW (nG 8 Yx<|Zx (Zna T) hr<|Zb (pv 5)<|Zb (pv 6) Za) #[c,D,nm 0,nm 1,nm 2,nm 3,rfl,p,λt H9 bp bj ie oe qs ks a b g e9 hbp hbj hie hoe B=>?_];subst C5;have N7:=u.more (by lia) (by left) (by left) (by left) (by left) B;obtain⟨ts,ht,u0⟩:=m9.mono g;obtain⟨us,hu,v6⟩:=hbp;obtain⟨U,hj1,V8⟩:=y4.mono g;obtain⟨js2,hj2,o⟩:=hbj;have lp:=u.pl;have lj:=u.jl;have lb:=B.len;have c1:=nW u0;have c2:=nW v6;have c3:=nW V8;have c4:=nW o;refine mW (nG 1 Yx<|Zn Wl (pv 1)<|nQ (pv 8) Zf)<|.inr<|.inl #[nw e9,rfl,.inr<|.inr #[ht,hu,?_,λpl' L0 d n10 jd=>?_]]
    ·rw[mV,mV];show sz (by lia)
    refine mW (nG 2 Yx<|Zn Wl (Zn Wl (pv 2)<|nQ (pv 8) Zf)<|Zm<|Zb (Zi<|Zb (pv 3)<|Zb (nQ (pv 8) Zf) Za) Za)<|.inr<|.inl #[nw<|d.at e9,rfl,.inr<|.inr #[d.at hj1,d.at hj2,?_,λjm U2 L a iY=>(.inr<|.inl #[nw<|L.at<|d.at e9,rfl,mY,λtj M8 N n12 jT=>#[mY,λl2 H13 M n13 je=>.inr<|.inr #[(N.trans M).at iY,je,?_,λjl' H14 J n14 iw=>?_]]])]]
    ·rw[mV,mV];show sz (by lia)
    ·rw[oj,mV,mV];show sz (by simp;lia)
    have I:=L.trans<|N.trans<|M.trans J;have x:=d.trans I;refine mX (nG 3 Yx<|nQ (pv 8) Zf)<|.inr<|.inl #[nw<|x.at e9,rfl,.mk pl' jl' oe _ _ _ _ _ _ _ _ (F2.trans<|l.trans<|g.trans x) ?_ ?_ (hoe.mono x) N7 ?_ ?_]
    ·show Zw.app (ts:=ts) (us:=us) (nX u0 λ_ _ r=>r.mono x) (nX v6 λ_ _ r=>r.mono x)<|I.at jd
    ·have a:Paired (Wv H14) (U++js2) (js++ks):=pQ (nX V8 λ_ _ r=>r.mono x)<|nX o λ_ _ r=>r.mono x;refine Yp.app (ts:=U++js2) (us:=[tj]) a (.cons #[e,ie,(M.trans J).at jT,(V7.mono g).mono x,hie.mono x] .nil) ?_;rw[nJ];show iw
    ·show T6.free<|F2.free<|l.free<|g.free n10
    ·show T6.free<|F2.free<|l.free<|g.free<|(d.trans<|L.trans<|N.trans M).free n14
  ·rintro z H6 ⟨pl,jl,e,o4,o5,o6,o7,o8,ps,js,Q3,s6,m9,y4,V7,u,fp,fj⟩;rw[mV,oF]at u;have hm:min 9 cs.length<=9:=Nat.min_le_left ..;have I:=u.done (by lia);obtain⟨ts,ht,u0⟩:=m9;obtain⟨U,hj1,V8⟩:=y4;have lp:=u.pl;have lj:=u.jl;have c1:=nW u0;have c3:=nW V8;refine mX (Zk<|Zi<|Zb (Zn Wl (pv 1)<|Zm<|Zb (Zi<|Zb Zg<|Zb Zg Za) Za)<|Zb (Zn Wl (pv 2)<|Zm<|Zb (Zi<|Zb (pv 3)<|Zb (Zi<|Zb Zg<|Zb Zg Za) Za) Za) Za) #[mY,λt1 H7 Y _ e7=>#[mY,λp H8 l _ x=>.inr<|.inr #[l.at<|Y.at ht,x,?_,λpl' H9 g B e9=>#[mY,λt2 L0 d _ jd=>#[mY,λt3 U2 L _ iY=>#[mY,λl2 M8 N _ jT=>.inr<|.inr #[(Y.trans<|l.trans<|g.trans<|d.trans<|L.trans N).at hj1,jT,?_,λjl' H13 M n13 je=>#[mY,λt H14 J _ iw=>?_]]]]]]]]
   ·rw[mV];show sz (by simp;lia)
   ·rw[mV];show sz (by simp;lia)
   have j:=Y.trans<|l.trans<|g.trans<|d.trans<|L.trans N;have o:=j.trans<|M.trans J;have a:=d.trans<|L.trans<|N.trans<|M.trans J;refine q t H14 pl' jl' _ _ (T6.trans<|s6.trans o) iw ?_ ?_ (T6.free<|s6.free<|Y.free<|l.free B) (T6.free<|s6.free<|j.free n13) I ?_ ?_
   ·show Zw.app (ts:=ts) (us:=[t1]) (nX u0 λ_ _ r=>r.mono o) (.cons ((l.trans<|g.trans a).at e7) .nil)<|a.at e9
   ·show Yp.app (ts:=U) (us:=[t3]) (nX V8 λ_ _ r=>r.mono o) (.cons #[e,t2,(N.trans<|M.trans J).at iY,V7.mono o,(L.trans<|N.trans<|M.trans J).at jd] .nil)<|J.at je
   ·rw[oj];simp;lia
   ·intro p hp;rcases oO.mp hp with y|y
    ·rcases u.nm p y with x|⟨kd,c,k,h1,h2,h3⟩
     ·show .inl x
     ·show .inr<|.inr #[kd,c,k,h1,by lia,h3]
    ·simp at y;subst y;show .inr<|.inl rfl
inductive MD(K:mf):Sp
 | mk (a) (ns:lX Int) (i j:Nat):vs=[.ref a,.int i,.int j]->SqL K H a (ns.map V.int)->ns.length<=63->i<=1000->j<=1000->(∀(p:lZ)(H':Hp)(cs:lX Int),mK H H'->H p=none->H' p=some (.lst<|cs.map V.int)->(∀c∈cs,0<=c/\c<2147483629)->cs.length<=63->Q (.ref p) H')->MD K vs H Q E
def ZK:T.eu.O P w mg mM 2 (MD K):=by
 refine T.eu.F.okA ?_;rfl'
 ·obtain⟨a,x,i,j,rfl,Y,z,o,e,q⟩:=h;intro X D;have y:(if((x.map V.int).length:Int)<(j:Int)then((x.map V.int).length:Int)else(j:Int))=((min j x.length:Nat):Int):=by
   rw[mV];split<;>lia
  refine mX (Zk<|pT ["_law_k","_law_script"] (pr 1 [0] rfl) (CQ rfl T.dM<|Zb (pv 1)<|Zb (Z6 (Zwq rfl) (by rfl) T.jG PyProof.Rows.boot_min<|Zb (pv 2)<|Zb (pI T.bh<|pv 0) Za) Za) (oJ 0) Wi (Xa (Wx T) hr rfl T.aj.m T.aj.F.kp T.aj.b .nil Z0<|Zb (rc (K:=K) rfl (pv 1)<|pv 0)<|Zb (pv 0) Za))<|.inl #[.inl Y,_,_,rfl,_,_,rfl,?_,λD l=>?_]
  ·rw[y];lia
  rw[y];obtain⟨m,M⟩:∃m:Nat,(((min j x.length:Nat):Int)-(i:Int)).toNat=m:=#[_,rfl]
  rw[M];refine Qu (lo:=(i:Int)) (n:=m) (λk r z=>(∃u:lX Int,r=u.map V.int/\u.length=k/\∀c∈u,0<=c/\c<2147483629)/\z D=some (.lst r)/\mK H z) #[#[[],rfl,rfl,by simp],Zc,pC l] ?_ ?_
  ·rintro k r U L ⟨⟨u,rfl,N,g⟩,d,p⟩;unfold qB;have a:i+k<x.length:=by lia
   refine#[pA rfl,.inl #[p.seq Y,(show oP _ _=some (.int<|x.getD (i+k) 0)from ?_),_,_,rfl,d,?_,#[u++[tV (x.getD (i+k) 0) ((i:Int)+(k:Int))],?_,?_,?_],Zc,λb o e=>?_]]
   ·rw[show(i:Int)+(k:Int)=((i+k:Nat):Int) by lia];refine Zq ?_;rw[nU,oR a,ua,oR a]
    rfl
   ·rw[mV];show Zp (by lia)
   ·rw[nJ];rfl
   ·rw[oj];simp;show N
   ·intro c o;rcases oO.mp o with z|z
    ·show g c z
    ·simp at z;rw[z];show#[RT _ _,SN _ _]
   ·rw[Zd (Ze e l)];show p.at e
  ·rintro r U ⟨⟨u,rfl,N,g⟩,d,p⟩;show q D U u p l d g (by lia)
def Ww(h:Paired (Zs H) ts ps)(y:H c=some (.lst xs)):Paired (Zs<|mT H c o) ts ps :=
 nX h λt q r=>by
  unfold Zs at r ⊢;rw[Zd λz=>by rw[z,y]at r;cases r];show r
def Wv.off(h:Wv H t j)(r:H c=some (.lst xs)):Wv (mT H c o) t j:=by
 obtain⟨a,b,s,y,x⟩:=h;unfold Zs at y x;have u:∀{t:lZ}{q:lX V},H t=some (.tup q)->t≠c:=λh z=>by rw[z,r]at h;cases h
 show#[a,b,by rw[Zd (u s)];show s,by unfold Zs;rw[Zd (u y)];show y,by unfold Zs;rw[Zd (u x)];show x]
def wQ(h:Paired (Wv H) ts z)(y:H c=some (.lst xs)):Paired (Wv<|mT H c o) ts z:=nX h λ_ _ r=>r.off y
inductive Qg:Sp
 | mk (pl jl rl c) (ps:lX Zh) (js:lX (Zh×Zh)) (Zr:lX Zh):vs=[.ref pl,.ref jl,.ref rl,.int c]->Zw H pl ps->Yp H jl js->Zw H rl Zr->pl≠jl->rl≠pl->rl≠jl->ps.length<=100->js.length<=200->Zr.length<=90->(∀(H':Hp)(D8:lX Zh)(J7:lX (Zh×Zh)),(∀b o,b≠pl->b≠jl->H b=some o->H' b=some o)->Zw H' pl (ps++D8)->Yp H' jl (js++J7)->xy Zr Zr.length D8 J7->Q .non H')->Qg  vs H Q E
def WI:T.dU.O P w mg mM 2 Qg:=by
 refine T.dU.F.okW BJ ?_;rfl'
 ·obtain⟨p,I,rl,c,ps,js,Zr,rfl,m9,y4,⟨rs,O6,O0⟩,n1,n2,n3,x,u,r,q⟩:=h;intro X D;have lrs:=nW O0;let I2:IF:=λi z H'=>(∃o4 o5 o6,z=[some (.ref p),some<|.ref I,some<|.ref rl,some<|.int c,o4,o5,o6])/\(∀b o,b≠p->b≠I->H b=some o->H' b=some o)/\∃d U,Zw H' p (ps++d)/\Yp H' I (js++U)/\xy Zr i d U
  refine mX (Xk pM rfl (yu rfl T.cz<|Zb (pv 2) Za) (tD rfl<|Zu (oE 4 BJ)<|Zu (oE 5 BJ) Y8) Zo) #[mZ O6,yD (xs:=rs.map V.ref) I2
   #[#[none,none,none,rfl],λ_ _ _ _ y=>y,[],[],by rw[pO];show m9,by rw[pO];show y4,[],rfl,by simp,rfl,rfl] ?_ ?_ ?_]
  ·rintro i z H' _ ⟨_,M,_⟩;show mZ<|M _ _ n2 n3 O6
  ·rintro i v z H2 hi ⟨⟨o4,o5,o6,rfl⟩,M,d,U,⟨n,ht,u0⟩,⟨us,hu,v6⟩,G⟩ tp H3 s3 n3' e3;rw[nU]at hi;obtain⟨te,S1,rfl⟩:=oo.mp hi;obtain⟨x,hy,u⟩:=pE O0 S1;have D5:i<rs.length:=(pz.mp S1).1;obtain⟨ks,hkl,hks,hnp,hnj⟩:=id G;have c1:=nW u0;have c2:=nW v6;rw[oj,hnp,mV,Bj]at c1;rw[oj,hnj,mV,Bj]at c2;have C:Zs H2 te x:=by
    unfold Zs at u ⊢;refine M _ _ (λy=>?_) (λy=>?_) u
    ·obtain⟨_,N,_⟩:=m9;rw[y,N]at u;cases u
    ·obtain⟨_,N,_⟩:=y4;rw[y,N]at u;cases u
   refine#[nw e3,rfl,rfl,?_];have fl:=Db i (by lia);refine mW (nG 6 BJ<|Zn Wl Zg<|Yw Dk (by rfl) T.fk wx<|Zb (pv 4) Za) #[(i:Int),rfl,GR (by lia),.inr<|.inl<|wj rfl rfl #[sz (by change 1+(tJ i).length<=1000;lia),?_]];obtain⟨L,O5,hkm⟩:∃L:lY,oP [V.str "gate",.str "stop",.str "gate"] (tV c (i:Int)%3)=some (.str L)/\(L ="gate"\/L ="stop"):=by
    have h0:=qd (tV c (i:Int)) (show(3:Int)≠0 by lk);have N:=qr (tV c (i:Int)) (show(0:Int)<3 by lk);generalize tV c (i:Int)%3=m at h0 N;have:m=0\/m=1\/m=2:=by lia
    rcases this with rfl|rfl|rfl
    ·show#["gate",rfl,.inl rfl]
    ·show#["stop",rfl,.inr rfl]
    ·show#["gate",rfl,.inl rfl]
   refine mW (Z1<|rD (pv 0)<|Zi<|Zb (nQ (Zm<|Zb Zg<|Zb Zg<|Zb Zg Za)<|Zn Yh (Xa (Wx T) hr rfl T.aj.m T.aj.F.kp T.aj.b .nil Z0<|Zb (pv 3)<|Zb (pv 4) Za) Zf)<|Zb (pv 6) Za) #[.inl #[rfl,_,mZ<|s3.at ht],mY,λlk H4 s4 n4 e4=>#[c,(i:Int),rfl,(by change(0:Int)<3;decide),.inl #[mZ e4,O5,mY,λg a s5 n5 e5=>#[s5.at<|s4.at<|s3.at ht,?_,?_]]]]
   ·rw[mV];show Zp (by lia)
   have J:=s3.trans<|s4.trans s5;have l:=J.at ht;have B:Paired (Zs a) n (ps++d):=nX u0 λ_ _ r=>r.mono J
   have hus5:Paired (Wv a) us (js++U):=nX v6 λ_ _ r=>r.mono J
   have p6:Paired (Zs<|mT a p<|.lst<|n.map V.ref++[.ref g]) (n++[g]) ((ps++d)++[(L,W2 i)]):=Ww (pQ B<|.cons e5 .nil) l;have j6:=wQ (o:=.lst<|n.map V.ref++[.ref g]) hus5 l;have j:mT a p (.lst<|n.map V.ref++[.ref g]) I=some (.lst<|us.map V.ref):=(Zd<|oW n1).trans (J.at hu);have k6:∀b o,b≠p->b≠I->H b=some o->mT a p (.lst<|n.map V.ref++[.ref g]) b=some o:=λb o b1 b2 y=>(Zd b1).trans (J.at<|M b o b1 b2 y)
   have y6:Zs (mT a p<|.lst<|n.map V.ref++[.ref g]) te x:=by
    have y:=C.mono J;unfold Zs at y ⊢;show(Zd λw=>by rw[w,l]at y;cases y).trans y
   have e6:mT a p (.lst<|n.map V.ref++[.ref g]) p=some (.lst<|(n++[g]).map V.ref):=by rw[Zc,nJ];rfl
   generalize(mT a p<|.lst<|n.map V.ref++[.ref g])=H6 at p6 j6 j k6 y6 e6;refine mX (Z1<|rD (pv 1)<|Zi<|Zb (pv 5)<|Zb (Zi<|Zb (pv 6)<|Zb Zg Za) Za) #[.inl #[rfl,_,mZ j],mY,λt7 H7 Y n7 e7=>#[mY,λt8 H8 e n8 e8=>#[e.at<|Y.at j,?_,#[_,_,_,rfl],λb o b1 b2 y=>?_,d++[(L,W2 i)],U++[(x,(W2 i,("a":lY)))],#[n++[g],?_,?_],#[us++[t8],?_,?_],G.more hkm hy]]]
   ·rw[mV];show Zp (by lia)
   ·show(Zd b2).trans (e.at<|Y.at<|k6 b o b1 b2 y)
   ·show(Zd n1).trans (e.at<|Y.at e6)
   ·rw[<-pp];show Ww (nX p6 λ_ _ r=>r.mono<|Y.trans e)<|e.at<|Y.at j
   ·rw[Zc,nJ];rfl
   ·rw[<-pp];show wQ (pQ (nX j6 λ_ _ r=>r.mono<|Y.trans e)<|.cons #[te,t7,e8,y6.mono<|Y.trans e,e.at e7] .nil)<|e.at<|Y.at j
  ·rintro z H2 ⟨⟨o4,o5,o6,rfl⟩,M,d,U,N,x,G⟩;rw[mV,lrs]at G;show q H2 d U M N x G
def pR(q:Zh):Tr:=.tup [.str q.1,.str q.2]
def LJ{H:Hp}{ts:lX lZ}{ps:lX Zh}(h:Paired (Zs H) ts ps):Paired (Im K H 1) (ps.map pR) (ts.map V.ref):=by
 induction h with
 | nil=>show .nil
 | cons r _ z=>show .cons (vt (nw r)<|.cons (.str _)<|.cons (.str _) .nil) z
def Zw.im{H:Hp}{l:lZ}{ps:lX Zh}(h:Zw H l ps):Im K H 2 (.lst<|ps.map pR) (.ref l):=let⟨_,z,y⟩:=h;vW (mZ z) (LJ y)
def PV{l D:lZ}{xs:lX lY}{x:lY}{p:Hp}{Q:VK}{z:St}(U:p l=some (.lst<|xs.map V.str))(I:xs.length<=100)(d:p D=none)(q:∀u,mK p u->Zw u D (xs.map λe=>(x,e))->Q (.ref D) u){fr:St->St}(N:fr z=[none,some<|.str x]){c:TE}(M:c=Jr (uv (rJ 1)<|uv (rJ 0) wM)) :
  sw (uT K l) fr (qW 0) Bv c Q z p D:=by
 refine Yz (xs:=xs.map V.str) (λi n u=>(∃s:lX lZ,n=s.map V.ref/\Paired (Zs u) s ((xs.take i).map λe=>(x,e)))/\u D=some (.lst n)/\mK p u) #[#[[],rfl,.nil],Zc,pC d] ?_ ?_ ?_
 ·rintro i n u _ ⟨_,_,g⟩;show mZ<|g.at U
 ·rintro k v n u a ⟨⟨s,rfl,j⟩,Y,g⟩;rw[nU]at a;obtain⟨y,L,rfl⟩:=oo.mp a;unfold qB;rw[N,M];have H:s.length<=100:=by
   have:=nW j;rw[mV,oF]at this;lia
  refine#[pA rfl,mY,λt y h r J=>#[h.at Y,by rw[mV];show Zp (by lia),#[s++[t],by rw[nJ];rfl,?_],Zc,λb o e=>?_]]
  ·rw[oH,L,nJ];show Ww (pQ (nX j λ_ _ r=>r.mono h)<|.cons J .nil)<|h.at Y
  ·rw[Zd (Ze e d)];show h.at<|g.at e
 ·rintro n y ⟨⟨s,rfl,j⟩,r,o⟩;rw[mV,pD]at j;show q y o #[s,r,j]
def Zs.offL{H:Hp}{c t:lZ}{o:HO}{xs:lX V}{q:Zh}(h:Zs H t q)(y:H c=some (.lst xs)):Zs (mT H c o) t q:=by
 unfold Zs at h ⊢;show(Zd λz=>by rw[z,y]at h;cases h).trans h
def Zw.offL{H:Hp}{c l:lZ}{o:HO}{xs:lX V}{ps:lX Zh}(h:Zw H l ps)(z:H c=some (.lst xs))(y:l≠c):Zw (mT H c o) l ps:=let⟨x,u,s⟩:=h;#[x,(Zd y).trans u,Ww s z]
def Zw.erased{H:Hp}{l:lZ}{ts:lX lZ}{ps:lX Zh}(z:H l=some (.lst<|ts.map V.ref))(y:Paired (Zs H) ts ps)(k:Nat):Zw (mT H l<|.lst<|(ts.map V.ref).eraseIdx k) l (ps.eraseIdx k):=#[ts.eraseIdx k,by rw[Zc,KR],Ww (NC y k) z]
def Pm{k n:Nat}(h:k<n):seqIndex? (k:Int) n=some k:=by
 unfold seqIndex?;have z:¬(k:Int)<0:=by lia
 simp only[z,pW];rw[nj (by simp;lia)];simp
def Wy{a:Int}{n:Nat}(h:0<n):∃k:Nat,a%(n:Int)=(k:Int)/\k<n:=by
 have z:=qd a (show(n:Int)≠0 by lia);have y:=qr a (show(0:Int)<n by lia);show#[(a%(n:Int)).toNat,by lia,by lia]
def Zrz{z y:Type}{R:z->y->Prop}{l₁:lX z}{l₂:lX y}(h:Paired R l₁ l₂)(n:Nat):Paired R (l₁.drop n) (l₂.drop n):=by
 induction n generalizing l₁ l₂ with
 | zero=>show h
 | succ n x =>
  cases h with
  | nil=>show .nil
  | cons _ t=>show x t
def LL{l D:lZ}{ts:lX lZ}{qs:lX Zh}{keep:Zh->Bool}{w:me V}{u:Hp}{Q:VK}{z:St}(L:u l=some (.lst<|ts.map V.ref))(c:Paired (Zs u) ts qs)(H:qs.length<=100)(a:u D=none)(q:∀y,mK u y->Zw y D (qs.filter keep)->Q (.ref D) y){fr:St->St}(J:fr z=[none,w]){Y:TT}(h:∀(t:lZ)(x:Zh)(y:Hp)(R:Bool->Hp->Prop),mK u y->Zs y t x->x∈qs->R (keep x) y->Y [some (.ref t),w] y R) :
  sw (uT K l) fr (qW 0) Y (rJ 0) Q z u D:=by
 have g:=nW c;refine Yz (xs:=ts.map V.ref) (λi j y=>(∃s:lX lZ,j=s.map V.ref/\Paired (Zs u) s ((qs.take i).filter keep))/\y D=some (.lst j)/\mK u y) #[#[[],rfl,.nil],Zc,pC a] ?_ ?_ ?_
 ·rintro i j y _ ⟨_,_,p⟩;show mZ<|p.at L
 ·rintro k v j y U ⟨⟨s,rfl,n⟩,N,p⟩;rw[nU]at U;obtain⟨t,I,rfl⟩:=oo.mp U;obtain⟨x,r,M⟩:=pE c I;unfold qB;rw[J];have G:s.length<=100:=by
   rw[nW n];have:=wW keep<|qs.take k;rw[oF]at this;lia
  refine#[pA rfl,h t x y _ p (M.mono p) (pi r)<|Yl (λd=>?_) λd=>?_]
  ·refine#[N,by rw[mV];show Zp (by lia),#[s++[t],by rw[nJ];rfl,?_],Zc,λb o e=>?_]
   ·rw[oH,r,uM];refine pQ n ?_;rw[show(some x).toList=[x]from rfl,rB,nj d];show .cons M .nil
   ·rw[Zd (Ze e a)];show p.at e
  ·refine#[#[s,rfl,?_],N,p];rw[oH,r,uM,show(some x).toList=[x]from rfl,rB,ng d,yd,pO];show n
 ·rintro j e ⟨⟨s,rfl,n⟩,d,o⟩;rw[mV,g,pD]at n;show q e o #[s,d,nX n λ_ _ r=>r.mono o]
inductive LZ(K:mf):Sp
 | mk (cl) (cs:lX Int):vs=[.ref cl]->SqL K H cl (cs.map V.int)->(∀c∈cs,0<=c)->cs.length<=63->(∀(t:lZ)(H':Hp)(pl jl:lZ)(ps:lX Zh)(js:lX (Zh×Zh)) (n:Nat),mK H H'->H' t=some (.tup [.ref pl,.ref jl])->Zw H' pl ps->Yp H' jl js->H pl=none->H jl=none->Net ps js []->ps.length<=39->(∀p∈ps,EZ p.2 63\/∃j,j<90/\p.2=W2 j)->Q (.ref t) H')->LZ K vs H Q E
inductive PX(H:Hp)(cl pl jl:Addr)(i:Nat):St->Hp->Prop
 | mk (rl o4 o5 o6 o7 o8 o9 Q4 K6 ps js Zr):mK H H'->Zw H' pl ps->Yp H' jl js->Zw H' rl Zr->Xs i (2 * i) ps js Zr->H rl=none->rl≠pl->rl≠jl->PX H cl pl jl i [some (.ref cl),some<|.ref pl,some<|.ref jl,some<|.ref rl,o4,o5,o6,o7,o8,o9,Q4,K6] H'
inductive Og(H:Hp)(pl jl rl lf:Addr)(i:Nat)(pn:List Zh)(H':Hp):Prop
 | mk (rest' fresh' js'):mK H H'->Zw H' pl pn->Yp H' jl js'->Zw H' rl rest'->Zw H' lf fresh'->Xs (i+1) (2 * i+1) pn js' (rest'++fresh')->Og H pl jl rl lf i pn H'
def Zng:T.eF.O P w mg mM 3 (LZ K):=by
 refine T.eF.F.okW Yn ?_;rfl'
 ·obtain⟨cl,cs,rfl,w9,N0,x,q⟩:=h;intro X D;refine mW (nG 1 Yn<|Zm Za) #[mY,λe x s1 n1 e1=>?_];refine mW (nG 2 Yn<|Zm Za) #[mY,λg x s2 n2 e2=>?_];refine mW (nG 3 Yn<|Zm Za) #[mY,λrl0 H3 s3 n3 e3=>?_];have C4:=s1.trans<|s2.trans s3;have fp:H e=none:=n1;have fj:H g=none:=s1.free n2;have fr0:H rl0=none:=s1.free<|s2.free n3;have npj:e≠g:=Ze e1 n2;have nrp:rl0≠e:=oW<|Ze (s2.at e1) n3;have nrj:rl0≠g:=oW<|Ze e2 n3;have hp0:Zw H3 e []:=#[[],s3.at<|s2.at e1,.nil]
  have hj0:Yp H3 g []:=#[[],s3.at e2,.nil]
  have hr0:Zw H3 rl0 []:=#[[],e3,.nil]
  clear s1 s2 s3 n1 n2 n3 e1 e2 e3;refine mW (Xk pM rfl (yu rfl T.cz<|Zb (pv 0) Za) (tD rfl<|Zu (oE 4 Yn)<|Zu (oE 5 Yn) Y8) Zo) #[C4.seq w9,yD (xs:=cs.map V.int) (PX H cl e g)
   (.mk rl0 none none none none none none none none _ _ _ C4 hp0 hj0 hr0 Xs.start fr0 nrp nrj) ?_ ?_ ?_]
  ·rintro i z H' _ ⟨_,_,_,_,_,_,_,_,_,_,_,_,sm,_⟩;show sm.seq w9
  ·rintro i v z H4 hi ⟨rl,o4,o5,o6,o7,o8,o9,Q4,K6,ps,js,Zr,s4,m9,y4,O6,l,frl,V9,d⟩ tp H5 s5 n5 e5;rw[nU]at hi;obtain⟨c,hc,rfl⟩:=oo.mp hi;have hi63:i<63:=by
    have:=(pz.mp hc).1;lia
   have hc0:0<=c:=N0 c<|pi hc;refine#[nw e5,rfl,rfl,?_];obtain⟨U,O5,hkm⟩:∃U:lY,oP [V.str "plain",.str "plain",.str "plain",.str "points",.str "points",.str "cross",.str "gate",.str "stop"] (c%8)=some (.str U)/\U∈W7:=by
    have h0:=qd c (show(8:Int)≠0 by lk);have h1:=qr c (show(0:Int)<8 by lk);generalize c%8=m at h0 h1;have:m=0\/m=1\/m=2\/m=3\/m=4\/m=5\/m=6\/m=7:=by lia
    rcases this with rfl|rfl|rfl|rfl|rfl|rfl|rfl|rfl<;>show#[_,rfl,by simp[W7]]
   obtain⟨u,p,g3,J,I,G⟩:=Cu U hkm;refine mW (nG 6 Yn<|nQ (Zm<|Zb Zg<|Zb Zg<|Zb Zg<|Zb Zg<|Zb Zg<|Zb Zg<|Zb Zg<|Zb Zg Za)<|Zn Yh (pv 5) Zf) #[mY,λlk H6 s6 n6 e6=>#[(by change(0:Int)<8;decide),.inl #[mZ e6,O5,?_]]];refine mW (nG 7 Yn<|Zx (Ov T) hr<|Zb (pv 6) Za) #[U,rfl,λle u s7 n7 e7=>?_];have s47:=s5.trans<|s6.trans s7;have F2:=s4.trans s47;have nl1:e≠le:=let⟨_,y,_⟩:=m9;Ze ((s5.trans s6).at y) n7;have nl2:g≠le:=let⟨_,y,_⟩:=y4;Ze ((s5.trans s6).at y) n7;have m9:=m9.mono s47;have y4:=y4.mono s47;have O6:=O6.mono s47;obtain⟨ts,ht,u0⟩:=m9;obtain⟨rs,J8,O0⟩:=O6;have c1:=nW u0;have c2:=nW O0;refine mW (Zt (Yd xw (Zn Wl (Zn Wl (pI T.bh<|pv 1)<|pI T.bh<|pv 3)<|pI T.bh<|pv 7) Zf<|Yo _) Zo Zl)<|.inl #[.inl<|mZ ht,.inl #[.inl<|mZ J8,.inl<|.inl #[.inl<|mZ e7,.inl<|Yl (λhgt=>?_) λhgt=>?_]]]
   ·show mX WJ<|.mk rl _ _ _ _ _ _ _ _ ps js Zr F2 #[ts,ht,u0] y4 #[rs,J8,O0] (l.mono (by lia)<|by lia) frl V9 d
   have hgt:ps.length+Zr.length+(Yq U).length<=38:=by
    have y:¬(((ts.map V.ref).length:Int)+((rs.map V.ref).length:Int)+(((Yq U).map V.str).length:Int)>38):=λy=>hgt<|og y
    rw[mV,mV,mV]at y;lia
   obtain⟨n,hn⟩:∃n,n=Yr U (tU<|c / 8) i:=#[_,rfl]
   refine mW (nG 8 Yn<|Zx (LS T) hr<|Zb (pv 6)<|Zb (Zn Ye (pv 5) Zf)<|Zb (pv 4) Za) #[#[by lk,by lk],U,c / 8,i,rfl,g3,by lia,Int.ediv_nonneg hc0 (by lk),by lia,?_];rw[<-hn];refine mW (Z1<|rD (pv 1)<|Zi<|Zb (pv 6)<|Zb (pv 8) Za) #[.inl #[rfl,_,mZ ht],mY,λt8 H8 s8 n8 e8=>#[s8.at ht,?_,?_]]
   ·rw[mV];show Zp (by lia)
   have ok8:=l.add (c:=tU<|c / 8) (by lia) hkm hgt;rw[<-hn]at ok8;obtain⟨us,hu,v6⟩:=y4.mono s8;have p9:Zw (mT H8 e<|.lst<|ts.map V.ref++[.ref t8]) e (ps++[(U,n)]):=#[ts++[t8],by rw[Zc,nJ];rfl,Ww (pQ (nX u0 λ_ _ r=>r.mono s8)<|.cons e8 .nil)<|s8.at ht]
   have j9:Yp (mT H8 e<|.lst<|ts.map V.ref++[.ref t8]) g js:=#[us,(Zd<|oW npj).trans hu,wQ v6<|s8.at ht]
   have r9:Zw (mT H8 e<|.lst<|ts.map V.ref++[.ref t8]) rl Zr:=#[rs,(Zd V9).trans (s8.at J8),Ww (nX O0 λ_ _ r=>r.mono s8)<|s8.at ht]
   have e9:mT H8 e (.lst<|ts.map V.ref++[.ref t8]) le=_:=(Zd<|oW nl1).trans (s8.at e7);have s09:mK H (mT H8 e<|.lst<|ts.map V.ref++[.ref t8]):=λb o y=>(Zd<|Ze y fp).trans (s8.at<|F2.at y)
   generalize(mT H8 e<|.lst<|ts.map V.ref++[.ref t8])=H9 at p9 j9 r9 e9 s09;have N7:=l;clear u0 O0 ht J8 hu v6 s8 s47 F2 y4 l n8 e8;refine mW (xx 9 ["_law_end","_law_name"] Yn (pr 1 [8] rfl) (Yi<|pv 7) (oJ 0) Wi (Zi<|Zb (pv 1)<|Zb (pv 0) Za)) #[mZ e9,λlf V1=>?_];refine PV (xs:=Yq U) (x:=n) e9 (by lia) V1 (λu w5 f10=>?qq) ?aa ?bb
   case aa=>rfl
   case bb=>rfl
   have p10:=p9.mono w5;have j10:=j9.mono w5;have r10:=r9.mono w5;have s010:=s09.trans w5;have flf:H lf=none:=s09.free V1;have nfp:lf≠e:=let⟨_,y,_⟩:=p9;oW (Ze y V1);have nfj:lf≠g:=let⟨_,y,_⟩:=j9;oW (Ze y V1);have nfr:lf≠rl:=let⟨_,y,_⟩:=r9;oW (Ze y V1);clear p9 j9 r9 s09 e9 w5;let I3:IC:=λz H'=>z=[some (.ref cl),some<|.ref e,some<|.ref g,some<|.ref rl,some<|.int i,some<|.int c,some<|.str U,some<|.ref le,some<|.str n,some<|.ref lf,Q4,K6]/\Og H e g rl lf i (ps++[(U,n)]) H'
   refine qz I3 ?_ ?_
   ·refine qo (Zt (tZ hr (pv 3)<|Zm Za) Zo Zl) #[mY,λl0 U2 B6 u p=>.inr<|.inl #[2,.lst<|Zr.map pR,.lst [],by lk,.inr #[_,_,rfl,rfl],Zw.im<|r10.mono B6,vW (mZ p) .nil,Yl (λw6=>?_) λw6=>?_]]
    ·have w6:0<Zr.length:=by
      cases Zr with
      | nil=>simp at w6
      | cons=>simp
     obtain⟨U6,p,hrs1⟩:=r10.mono B6;obtain⟨u,hf1,J⟩:=f10.mono B6;obtain⟨us1,hu1,hus1⟩:=j10.mono B6;have cr:=nW hrs1;have cf:=nW J;have cu:=nW hus1;rw[mV]at cf;have hjl1:=N7.jl;obtain⟨I,hk1,G⟩:=Wy (a:=c / 24) (n:=(U6.map V.ref).length) (by rw[mV];lia);obtain⟨k2,S9,C⟩:=Wy (a:=c / 100) (n:=(u.map V.ref).length) (by rw[mV];lia);obtain⟨ta,hta⟩:∃ta,U6[I]? =some ta:=#[_,oR (by rw[mV]at G;show G)]
     obtain⟨tb,htb⟩:∃tb,u[k2]? =some tb:=#[_,oR (by rw[mV]at C;show C)]
     obtain⟨qa,hqa,hqat⟩:=pE hrs1 hta;obtain⟨qb,hqb,hqbt⟩:=pE J htb;refine mX (Z1<|rD (pv 2)<|Zi<|Zb (zK xR Br EW LQ (pv 3)<|Zb (Zn Yh (Zn Ye (pv 5) Zf)<|pI T.bh<|pv 3) Za)<|Zb (zK xR Br EW LQ (pv 9)<|Zb (Zn Yh (Zn Ye (pv 5) Zf)<|pI T.bh<|pv 9) Za) Za) #[.inl #[rfl,_,mZ hu1],.inl #[rfl,_,mZ p],#[by lk,by lk],.inl #[.inl<|mZ p,by lia,rl,_,_,I,.ref ta,rfl,rfl,p,by lia,by rw[mV]at G;lia,by rw[hk1];show Pm G,by rw[nU,hta];rfl,?_]];have r12:=Zw.erased p hrs1 I;have f12:=Zw.offL (o:=.lst<|(U6.map V.ref).eraseIdx I) #[u,hf1,J] p nfr;have p12:=(p10.mono B6).offL (o:=.lst<|(U6.map V.ref).eraseIdx I) p (oW V9);have hu12:mT U2 rl (.lst<|(U6.map V.ref).eraseIdx I) g=_:=(Zd<|oW d).trans hu1;have hus12:=wQ (o:=.lst<|(U6.map V.ref).eraseIdx I) hus1 p;have C6:mT U2 rl (.lst<|(U6.map V.ref).eraseIdx I) lf=_:=(Zd nfr).trans hf1;have hfs12:=Ww (o:=.lst<|(U6.map V.ref).eraseIdx I) J p;have a12:=hqat.offL (o:=.lst<|(U6.map V.ref).eraseIdx I) p;have b12:=hqbt.offL (o:=.lst<|(U6.map V.ref).eraseIdx I) p;have A9:mK H (mT U2 rl<|.lst<|(U6.map V.ref).eraseIdx I):=λb o y=>(Zd<|Ze y frl).trans (B6.at<|s010.at y)
     generalize(mT U2 rl<|.lst<|(U6.map V.ref).eraseIdx I)=M8 at r12 f12 p12 hu12 hus12 C6 hfs12 a12 b12 A9;refine#[.inl #[rfl,_,mZ C6],#[by lk,by lk],.inl #[.inl<|mZ C6,by lia,lf,_,_,k2,.ref tb,rfl,rfl,C6,by lia,by rw[mV]at C;lia,by rw[S9];show Pm C,by rw[nU,htb];rfl,?_]];have f13:=Zw.erased C6 hfs12 k2;have r13:=r12.offL (o:=.lst<|(u.map V.ref).eraseIdx k2) C6<|oW nfr;have p13:=p12.offL (o:=.lst<|(u.map V.ref).eraseIdx k2) C6<|oW nfp;have hu13:mT M8 lf (.lst<|(u.map V.ref).eraseIdx k2) g=_:=(Zd<|oW nfj).trans hu12;have hus13:=wQ (o:=.lst<|(u.map V.ref).eraseIdx k2) hus12 C6;have a13:=a12.offL (o:=.lst<|(u.map V.ref).eraseIdx k2) C6;have b13:=b12.offL (o:=.lst<|(u.map V.ref).eraseIdx k2) C6;have x9:mK H (mT M8 lf<|.lst<|(u.map V.ref).eraseIdx k2):=λb o y=>(Zd<|Ze y flf).trans (A9.at y)
     generalize(mT M8 lf<|.lst<|(u.map V.ref).eraseIdx k2)=H13 at f13 r13 p13 hu13 hus13 a13 b13 x9;refine#[mY,λtj H14 Y n14 iw=>#[Y.at hu13,?_,?_]]
     ·rw[mV];show Zp (by lia)
     have B:=Y.at hu13;have hqn:qb.1=n:=by
      rw[nU]at hqb;obtain⟨x,_,rfl⟩:=oo.mp hqb
      rfl
     have hqo:qa.1≠qb.1:=by
      rw[hqn,hn];have h1:=AW<|N7.net.perm.subset<|rF _<|pi hqa;show λy=>N7.new (by lia) hkm<|y ▸ h1
     refine#[rfl,.mk (Zr.eraseIdx I) _ (js++[(qa,qb)]) (λb o y=>(Zd<|Ze y fj).trans (Y.at<|x9.at y)) ((p13.mono Y).offL B npj) #[us1++[tj],?_,?_] ((r13.mono Y).offL B d) ((f13.mono Y).offL B nfj)<|ok8.join (Yaq hqa hqb) hqo]
     ·rw[Zc,nJ];rfl
     ·show wQ (pQ (nX hus13 λ_ _ r=>r.mono Y)<|.cons #[ta,tb,iw,a13.mono Y,b13.mono Y] .nil) B
    ·show#[rfl,.mk Zr _ js (s010.trans B6) (p10.mono B6) (j10.mono B6) (r10.mono B6) (f10.mono B6)<|ok8.mono (nK _)<|by lia]
   rintro z M8 ⟨rfl,⟨rest2,fresh2,js2,s012,p12,j12,⟨u,hr12,hrs2⟩,⟨u,C6,hfs2⟩,Q5⟩⟩;have sm12:=Q5.sum;have cr:=nW hrs2;have cf:=nW hfs2;rw[oj,oj]at sm12;refine mW (nG 3 Yn<|Zn Wl (pv 3)<|pv 9)<|.inr<|.inr #[hr12,C6,?_,λrm H13 x9 n13 je=>?_]
   ·rw[mV,mV];show sz (by lia)
   have r13:Zw H13 rm (rest2++fresh2):=Zw.app (nX hrs2 λ_ _ r=>r.mono x9) (nX hfs2 λ_ _ r=>r.mono x9) je;have p13:=p12.mono x9;have j13:=j12.mono x9;have s013:=s012.trans x9;have frm:H rm=none:=s012.free n13;have nmp:rm≠e:=let⟨_,y,_⟩:=p12;oW (Ze y n13);have nmj:rm≠g:=let⟨_,y,_⟩:=j12;oW (Ze y n13);clear hr12 C6 hrs2 hfs2 p12 j12 s012 x9 p10 j10 r10 f10 s010 je;obtain⟨op,hop⟩:∃op,op=rest2++fresh2:=#[_,rfl]
   rw[<-hop]at r13 Q5;have hopl:op.length<=39:=by rw[hop,oj];lia
   clear hop sm12 cr cf;obtain⟨rs,hrm,O0⟩:=r13;have crs:=nW O0;refine mW (xx 10 ["_law_end","_law_rest"] Yn (pr 1 [3] rfl) (Yi<|Wm (r:=tT K) uA (pv 3) (tQ Zf) ut) (oJ 0) (sS<|Yd (r:=sV K) (ur hr) (rc (K:=K) rfl (pv 0) Zf) (rc (K:=K) rfl (rc (K:=K) rfl (pv 1) Zf) Zf)<|Yo _) (pv 0))<|.inr<|.inl #[mZ hrm,λu H14 Y n14 iw=>#[mZ iw,λD hD=>?_]];rw[show(some (1:Int))=some ((1:Nat):Int)from rfl,yU,<-EL]at iw;have S2:Paired (Zs H14) rs op:=nX O0 λ_ _ r=>r.mono Y
   have N:=Y.at hrm;obtain⟨q0,hq0⟩:∃q0,q0=op.getD 0 ("",""):=#[_,rfl]
   refine LL (keep:=λx=>decide<|x.1≠q0.1) (w:=some<|.ref rm) iw (Zrz S2 1) (by rw[yC];lia) hD (λH15 D6 f15=>?q2) ?a2 ?b2
   case a2=>rfl
   case b2 =>
    intro t x H' R sm hx hm hR;cases S2 with
    | nil=>simp at hm
    | cons r0 _ =>
     subst hq0;refine(.inr<|.inl #[nw hx,rfl,.inl #[mZ<|sm.at N,(show oP _ ((0:Nat):Int)=_ from Zq rfl),.inr<|.inl #[nw<|sm.at r0,rfl,.inl #[rfl,?_]]]]);change R _ H';simpa using hR
   obtain⟨T7,hnear⟩:∃T7,T7=(op.drop 1).filter λx=>decide (x.1≠q0.1):=#[_,rfl]
   rw[<-hnear]at f15;have p15:=(p13.mono Y).mono D6;have j15:=(j13.mono Y).mono D6;have M:=D6.at N;have L:Paired (Zs H15) rs op:=nX S2 λ_ _ r=>r.mono D6
   have s015:=s013.trans<|Y.trans D6;clear p13 j13 s013 Y D6 N S2 hrm O0 iw;refine mX (Zt (sJ<|yO (tZ hr (pv 10)<|Zm Za)<|AZ<|Wu hr (Zn Yh (Zn Ye (pv 5) Zf) Zf) Zf) Zo Zl) #[mY,λl0 H16 j u p=>.inr<|.inl #[2,.lst<|T7.map pR,.lst [],by lk,.inr #[_,_,rfl,rfl],Zw.im<|f15.mono j,vW (mZ p) .nil,Yl (λw6=>?_) λw6=>?_]]
   ·refine#[#[by lk,by lk],(by change(0:Int)<3;decide),.inl #[rfl,Yl (λ_=>?_) λ_=>?_]]
    ·obtain⟨ns,hnl,A7⟩:=f15.mono j;have cn:=nW A7;have hnl0:0<T7.length:=by
      cases T7 with
      | nil=>simp at w6
      | cons=>simp
     obtain⟨k3,hk3,hk3l⟩:=Wy (a:=c / 1500) (n:=(ns.map V.ref).length) (by rw[mV];lia);obtain⟨to,hto⟩:∃to,ns[k3]? =some to:=#[_,oR (by rw[mV]at hk3l;show hk3l)]
     obtain⟨q3,hq3,hq3t⟩:=pE A7 hto;have hq3m:q3∈T7:=pi hq3;refine mW (nG 11 Yn<|nQ (pv 10)<|Zn Yh (Zn Ye (pv 5) Zf)<|pI T.bh<|pv 10) #[#[by lk,by lk],.inl #[.inl<|mZ hnl,by lia,.inl #[mZ hnl,(show oP _ _=some (.ref to)from by rw[hk3];show Zq<|by rw[nU,hto];rfl),?_]]];obtain⟨us,hu,v6⟩:=j15.mono j;have cu:=nW v6;have hju:=Q5.jl;have I:=j.at M;have hrs16:Paired (Zs H16) rs op:=nX L λ_ _ r=>r.mono j
     rw[hnear]at hq3m;obtain⟨hqd,hqk⟩:=wO.mp hq3m;have hqk:q3.1≠q0.1:=pL hqk;obtain⟨t0,T8,tl,rfl,rfl,r0,hrt⟩:∃t0 T8 tl,rs=t0 ::T8/\op=q0 ::tl/\Zs H16 t0 q0/\Paired (Zs H16) T8 tl:=by
      cases hrs16 with
      | nil=>simp at hqd
      | cons r0 rt=>show#[_,_,_,rfl,by rw[hq0];rfl,by rw[hq0];show r0,rt]
     have hqd:q3∈tl:=hqd;refine mW (Z1<|rD (pv 2)<|Zi<|Zb (pv 11)<|Zb (nQ (pv 3) Zf) Za) #[.inl #[rfl,_,mZ hu],.inl #[mZ I,(show oP _ ((0:Nat):Int)=_ from Zq rfl),mY,λtj H17 B n17 jU=>#[B.at hu,?_,?_]]]
     ·rw[mV];show Zp (by lia)
     have p:=B.at hu;have j18:Yp (mT H17 g<|.lst<|us.map V.ref++[.ref tj]) g (js2++[(q3,q0)]):=#[us++[tj],by rw[Zc,nJ];rfl,wQ (pQ (nX v6 λ_ _ r=>r.mono B)<|.cons #[to,t0,jU,hq3t.mono B,r0.mono B] .nil) p]
     have p18:=((p15.mono j).mono B).offL (o:=.lst<|us.map V.ref++[.ref tj]) p npj;have G:mT H17 g (.lst<|us.map V.ref++[.ref tj]) rm=_:=(Zd nmj).trans (B.at I);have C:=Ww (o:=.lst<|us.map V.ref++[.ref tj]) (nX hrt λ_ _ r=>r.mono B) p;have q18:=(hq3t.mono B).offL (o:=.lst<|us.map V.ref++[.ref tj]) p;have U3:mK H (mT H17 g<|.lst<|us.map V.ref++[.ref tj]):=λb o y=>(Zd<|Ze y fj).trans (B.at<|j.at<|s015.at y)
     generalize(mT H17 g<|.lst<|us.map V.ref++[.ref tj])=H18 at j18 p18 G C q18 U3;refine mX (nG 3 Yn<|pT ["_law_end","_law_other"] (pr 1 [11] rfl) (Yi<|Wm (r:=tT K) uA (pv 3) (tQ Zf) ut) (oJ 0) (sS<|Yd (r:=sV K) (ur hr) (pv 0) (pv 1)<|Yo _) (pv 0))<|.inr<|.inl #[mZ G,λl2 H19 J n19 e19=>#[mZ e19,λD2 A6=>?_]];rw[show(some (1:Int))=some ((1:Nat):Int)from rfl,yU,<-EL]at e19;have q19:=q18.mono J;refine LL (ts:=T8) (qs:=tl) (keep:=λx=>decide<|x≠q3) (w:=some<|.ref to) e19 (nX C λ_ _ r=>r.mono J) (by simp at hopl;lia) A6 (λH20 s20 f20=>?q4) ?a4 ?b4
     case a4=>rfl
     case b4 =>
      intro t x H' R sm hx hm hR;refine(.inr<|.inl #[1,pR x,pR q3,by lk,.inl #[_,_,rfl,rfl],vt (nw hx)<|.cons (.str _)<|.cons (.str _) .nil,vt (nw<|q19.mono sm)<|.cons (.str _)<|.cons (.str _) .nil,?_]);have:(!decide (pR x=pR q3))=decide (x≠q3):=by
       rw[su];simp[pR,Prod.ext_iff]
      rw[nj rfl,this];show hR
     have u:=J.trans s20;show .mk D2 _ _ _ _ _ _ _ _ _ _ _ (U3.trans u) (p18.mono u) (j18.mono u) f20 ((Q5.join (Zxk Q5.net.ond hqd) hqk).mono (by lia) (by lia)) ((U3.trans J).free A6) (let⟨_,y,_⟩:=p18;oW (Ze (J.at y) A6)) (let⟨_,y,_⟩:=j18;oW (Ze (J.at y) A6))
    ·show .mk rm _ _ _ _ _ _ _ _ _ _ _ (s015.trans j) (p15.mono j) (j15.mono j) #[rs,j.at M,nX L λ_ _ r=>r.mono j] (Q5.mono (by lia)<|by lia) frm nmp nmj
   ·show .mk rm _ _ _ _ _ _ _ _ _ _ _ (s015.trans j) (p15.mono j) (j15.mono j) #[rs,j.at M,nX L λ_ _ r=>r.mono j] (Q5.mono (by lia)<|by lia) frm nmp nmj
  ·rintro z H4 ⟨rl,o4,o5,o6,o7,o8,o9,Q4,K6,ps,js,Zr,s4,m9,y4,O6,l,frl,V9,d⟩;rw[mV]at l;have N:=l.sum;have M:=l.jl;refine mW (Z1<|Zx (WI T) hr<|Zb (pv 1)<|Zb (pv 2)<|Zb (pv 3)<|Zb (Z6 (Uv rfl) (by rfl) T.jH PyProof.Rows.boot_sum<|Zb (pv 0) Za) Za) #[cl,cs,rfl,s4.seq w9,e,g,rl,zF cs,ps,js,Zr,rfl,m9,y4,O6,npj,V9,d,by lia,by lia,by lia,λH5 L p J r n x=>?_];have u:=l.done (by lia) x;have hnl:L.length=Zr.length:=by obtain⟨I,hk1,S9,hk3,Y⟩:=x;rw[hk3,mV,Bj]
   refine mX (Zk<|Zi<|Zb (pv 1)<|Zb (pv 2) Za) #[mY,λt H6 s6 n6 e6=>q t H6 e g _ _ 0 (λb o y=>s6.at<|J b o (Ze y fp) (Ze y fj)<|s4.at y) e6 (r.mono s6) (n.mono s6) fp fj u ?_ ?_]
   ·rw[oj];lia
   ·intro p G;rcases oO.mp G with y|y
    ·obtain⟨U,h1,c,k,C,j⟩:=l.nm p y;show .inl #[U,h1,c,k,by lia,j]
    ·obtain⟨I,hk1,S9,hk3,Y⟩:=x;rw[hk3]at y;obtain⟨j,C,rfl⟩:=nH.mp y;show .inr #[j,by have:=yk.mp C;lia,rfl]
def ro(n k:Nat):lY:=("s":lY)++Str.ofString (toString (n:Int))++(#[(List.toArray [qQ.getD (k / 26) 0])]:lY)++(#[(List.toArray [qQ.getD (k%26) 0])]:lY)
def IE:∀i<26,qQ.getD i 0=97+i:=by lk
def ED(n k:Nat):(ro n k).cps.toList=(("s":lY)++Str.ofString (toString (n:Int))).cps.toList++[qQ.getD (k / 26) 0]++[qQ.getD (k%26) 0]:=by
 unfold ro;rw[yH,yH]
def Zyy(q:k<600)(u:z<600)(h:ro n k=ro p z):k=z:=by
 have:=oY (λs:lY=>s.cps.toList) h;simp only[ED]at this;obtain⟨r,y⟩:=List.append_inj' this rfl;obtain⟨_,x⟩:=List.append_inj' r rfl;rw[AU]at y x;rw[IE _ (by lia),IE _<|by lia]at y x;lia
def zx(H:Hp)(t:lZ)(q:lY×lY×lY):Prop:=H t=some (.tup [.str q.1,.str q.2.1,.str q.2.2])
def vc(H:Hp)(l:lZ)(y:lX (lY×lY×lY)):Prop:=∃z:lX lZ,H l=some (.lst<|z.map V.ref)/\Paired (zx H) z y
def X2(ps:lX Zh):lX Zh:=ps.flatMap λp=>if p.1∈[("plain":lY),"gate","stop"]then(Yq p.1).map (λx=>(p.2,x))else[]
def Sm(ps:lX Zh)(p:Zh):X2 (ps++[p])=X2 ps++(if p.1∈[("plain":lY),"gate","stop"]then(Yq p.1).map (λx=>(p.2,x))else[]):=by
 unfold X2;rw[zi];simp
structure rZ(es:List Zh)(i:Nat)(sg:List (Str×Str×Str)):Prop where
 at_:(sg.map λq=>((q.2.1,q.2.2):Zh)).Sublist (es.take i)
 name:∀q∈sg,q.1=q.2.1\/∃n k,n<99/\k<i/\q.1=ro n k
 nd:(sg.map fst).Nodup
 len:sg.length<=40
def rZ.skip(h:rZ y i x):rZ y (i+1) x:=by
 refine#[h.at_.trans ?_,λq u=>?_,h.nd,h.len]
 ·rw[oH];show IV _ _
 ·rcases h.name q u with z|⟨n,k,a,b,c⟩
  ·show .inl z
  ·show .inr #[n,k,a,by lia,c]
def rZ.add(h:rZ u i x)(s:u[i]? =some e)(r:nm=e.1\/∃n,n<99/\nm=ro n i)(p:nm∉x.map fst)(j:x.length<40):rZ u (i+1) (x++[(nm,e.1,e.2)]):=by
 refine#[?_,λq o=>?_,?_,by rw[oj];simp;lia]
 ·rw[oH,s,nJ];show List.Sublist.append h.at_<|List.Sublist.refl _
 ·rcases oO.mp o with z|z
  ·show h.skip.name q z
  ·rw[pK]at z;subst z;rcases r with y|⟨n,a,b⟩
   ·show .inl y
   ·show .inr #[n,i,a,by lia,b]
 ·rw[nJ,qu];refine#[h.nd,by simp,λa l b y z=>?_];simp at y;show p (by rw[<-y,<-z];show l)
def rZ.fresh(h:rZ y i s)(x:i<600)(r:∀n k e,e∈y->n<99->k<600->e.1≠ro n k)(p:n<99):ro n i∉s.map fst:=λo=>by
 obtain⟨q,u,e⟩:=nH.mp o;rcases h.name q u with z|⟨l,k,a,b,c⟩
 ·have:((q.2.1,q.2.2):Zh)∈y:=Aj<|h.at_.subset<|nH.mpr #[q,u,rfl];show r n i _ this p x<|z.symm.trans e
 ·have:=Zyy x (by lia)<|e.symm.trans c;lia
def vc.mono(e:mK H z)(h:vc H l y):vc z l y:=let⟨x,u,s⟩:=h;#[x,e.at u,nX s λ_ _ r=>e.at r]
inductive JM(K:mf):Sp
 | mk (pl c) (ps:lX Zh):vs=[.ref pl,.int c]->Zw H pl ps->ps.length<=45->(∀n k e,e∈X2 ps->n<99->k<600->e.1≠ro n k)->(∀(l:lZ)(H':Hp)(sg:lX (lY×lY×lY)),mK H H'->H l=none->vc H' l sg->rZ (X2 ps) (X2 ps).length sg->Q (.ref l) H')->JM K vs H Q E
def Di(k:lY):(Yq k).length<=4:=by
 unfold Yq;split
 ·decide
 ·split
  ·decide
  ·split<;>decide
theorem DV:∀ps:lX Zh,(X2 ps).length<=4 * ps.length
 | []=>by simp[X2]
 | p ::ps=>by
  have:=DV ps;have z:=Di p.1;rw[show X2 (p ::ps)=(if p.1∈[("plain":lY),"gate","stop"]then(Yq p.1).map (λx=>((p.2,x):Zh))else[])++X2 ps from rfl,oj,pJ];split
  ·rw[mV];lia
  ·simp;lia
def Jx:∀n<99,(Str.ofString<|toString ((n:Nat):Int)).length<=2:=by left
def Uz:∀n<99,(((n:Nat):Int).natAbs).log2<1920:=by left
def Ug:T.cZ.O P w mg mM 2 (JM K):=by
 refine T.cZ.F.okW Yb ?_;rfl'
 ·obtain⟨pl,c,g,rfl,⟨ts,u0,O7⟩,x,w6,q⟩:=h;intro X D;have M6:ts.length=g.length:=nW O7;refine mW (nG 2 Yb Zg) ?_;refine mW (nG 3 Yb<|Zm Za) #[mY,λl0 x s1 u e1=>?_];let I4:IF:=λi z d=>∃le,(∃o4 C B,z=[some (.ref pl),some<|.int c,some<|.str "abcdefghijklmnopqrstuvwxyz",some<|.ref le,o4,C,B,none,none,none,none])/\mK H d/\Zw d le (X2<|g.take i)
  refine mW (Xk pM rfl (Yi<|pv 0) (tD rfl<|Zu (oE 4 Yb)<|Zu (oE 5 Yb) Y8) Zo) #[mZ<|s1.at u0,Wp (xs:=ts.map V.ref) I4 #[l0,#[none,none,none,rfl],s1,[],e1,.nil] ?_ ?_ ?_]
  ·rintro i z d _ ⟨_,_,sm,_⟩;show mZ<|sm.at u0
  ·rintro i v z H2 hi ⟨le,⟨o4,C,B,rfl⟩,J,a,N2,Y⟩;rw[nU]at hi;obtain⟨t,e,rfl⟩:=oo.mp hi;obtain⟨p,hp,rp⟩:=pE O7 e;have D5:i<ts.length:=(pz.mp e).1;have U:=DV<|g.take i;rw[oF]at U;have O8:a.length=(X2<|g.take i).length:=nW Y;have u:X2 (g.take<|i+1)=X2 (g.take i)++(if p.1∈[("plain":lY),"gate","stop"]then(Yq p.1).map (λx=>((p.2,x):Zh))else[]):=by
    rw[oH,hp];show Sm _ _
   refine#[nw<|J.at rp,rfl,rfl,?_];refine mX (Zt (wJ hr (pv 4)<|Zm<|Zb Zg<|Zb Zg<|Zb Zg Za) Zo Zl) #[mY,λlk H3 I n3 e3=>.inl #[.inl<|mZ e3,rfl,rfl,?_]];rw[ng oK,show tL (.str p.1) [.str "plain",.str "gate",.str "stop"]=decide (p.1∈[("plain":lY),"gate","stop"])from X1 p.1 ["plain","gate","stop"]];refine Yl (λo=>?_) λo=>#[le,#[_,_,_,rfl],J.trans I,?_]
   ·have o:=pL o;rw[nj o]at u;refine mX (nG 3 Yb<|Zn Wl (pv 3)<|pT ["_law_end","_law_name"] (pr 1 [5] rfl) (Yi<|Zx (Ov T) hr<|Zb (pv 4) Za) (oJ 0) Wi (Zi<|Zb (pv 1)<|Zb (pv 0) Za)) #[p.1,rfl,λx H4 G n M=>#[mZ M,λD hD=>?_]];have N3:=Di p.1;refine PV (xs:=Yq p.1) (x:=p.2) M (by lia) hD (λH5 s5 f5=>?qq) ?aa ?bb
    case aa=>rfl
    case bb=>rfl
    case qq =>
     obtain⟨vs,hv,L⟩:=f5;have Q6:vs.length=(Yq p.1).length:=by rw[nW L,mV]
     have x:=I.trans<|G.trans s5;refine .inr<|.inr #[x.at N2,hv,by rw[mV,mV];show sz (by lia),λln H6 n n6 e6=>#[ln,#[_,_,_,rfl],J.trans<|x.trans n,?_]];rw[u];show#[a++vs,by rw[e6,nJ],pQ (nX Y λ_ _ r=>(x.trans n).at r)<|nX L λ_ _ r=>n.at r]
   ·have o:¬p.1∈[("plain":lY),"gate","stop"]:=λy=>o<|og y
    rw[u,ng o,pO];show Zw.mono I #[a,N2,Y]
  rintro z H2 ⟨le,⟨o4,C,B,rfl⟩,J,hE⟩;rw[mV,M6,pD]at hE;obtain⟨a,N2,Y⟩:=hE;have U:=DV g;have O8:a.length=(X2 g).length:=nW Y;obtain⟨es,B8⟩:∃es,es=X2 g:=#[_,rfl]
  rw[<-B8]at Y O8 w6 q U;refine mW (nG 7 Yb<|Zm Za) #[mY,λlf H3 I n3 e3=>?_];let I5:IF:=λi z d=>(∃C B o8 o9 Q4,z=[some (.ref pl),some<|.int c,some<|.str "abcdefghijklmnopqrstuvwxyz",some<|.ref le,o4,C,B,some<|.ref lf,o8,o9,Q4])/\mK H2 d/\∃j,vc d lf j/\rZ es i j
  refine mW (Xk pM rfl (yu rfl T.cz<|Zb (pv 3) Za) (tD rfl<|Zu (oE 8 Yb)<|Zu (oE 6 Yb) Y8) Zo) #[mZ<|I.at N2,yD (xs:=a.map V.ref) I5 #[#[_,_,none,none,none,rfl],I,[],#[[],e3,.nil],#[Dg _,(λ_ y=>nomatch y),uw,rR _]] ?_ ?_ ?_]
  ·rintro i z d _ ⟨_,sm,_⟩;show mZ<|sm.at N2
  ·rintro i x' z H4 hi ⟨⟨o5',o6',o8,o9,Q4,rfl⟩,G,j,N,ok⟩ p H5 s5 n5 e5;rw[nU]at hi;obtain⟨te,S1,rfl⟩:=oo.mp hi;obtain⟨e,he,re⟩:=pE Y S1;have D5:i<a.length:=(pz.mp S1).1;have M:i<600:=by lia
   refine#[nw e5,rfl,rfl,?_];have re5:Zs H5 te e:=s5.at<|G.at re;obtain⟨gs,V1,L⟩:=N.mono s5;have hgl:gs.length=j.length:=nW L;have B3:=G.trans s5;refine mW (nG 9 Yb<|Xa (Wx T) hr rfl T.aj.m T.aj.F.kp T.aj.b .nil Z0<|Zb (pv 1)<|Zb (pv 8) Za) #[c,_,rfl,?_];generalize tV c ((i:Nat):Int)=dr;have skip:∃j,vc H5 lf j/\rZ es (i+1) j:=#[j,#[gs,V1,L],ok.skip]
   refine mX (Zt (sJ<|yO (Yd xw (Zn Yh (pv 9) Zf) (Zn Yh (pv 1) Zf)<|Yo _)<|AZ<|Yd xf (pI T.bh<|pv 7) Zf<|Yo _) Zo Zl) #[(by change(0:Int)<8;decide),(by change(0:Int)<7;decide),Yl (λ_=>(.inl #[.inl<|mZ V1,Yl (λhl=>?_) λ_=>#[#[_,_,_,_,_,rfl],B3,skip]])) λ_=>#[#[_,_,_,_,_,rfl],B3,skip]];have hl:j.length<40:=by
    have:=pL hl;rw[mV]at this;lia
   have m0:=qd (dr / 8) (show(99:Int)≠0 by lk);have m1:=qr (dr / 8) (show(0:Int)<99 by lk);obtain⟨n,hn⟩:∃n:Nat,dr / 8%99=(n:Int):=#[(dr / 8%99).toNat,by lia]
   have u:n<99:=by lia
   have P9:=Jx n u;have g8:(("s":lY)++Str.ofString (toString (n:Int))).length<=3:=by rw[qc];change 1+_<=3;lia
   have a1:oP qQ ((i:Int) / 26)=some (qQ.getD (i / 26) 0):=by
    have:=Al (n:=26) (l:=qQ) (i:=(i:Int) / 26) rfl (by lia) (by lia);rw[show((i:Int) / 26).toNat=i / 26 by lia]at this;show this
   have a2:oP qQ ((i:Int)%26)=some (qQ.getD (i%26) 0):=by
    have:=Al (n:=26) (l:=qQ) (i:=(i:Int)%26) rfl (by lia) (by lia);rw[show((i:Int)%26).toNat=i%26 by lia]at this;show this
   refine mW (nG 10 Yb<|Zn Wl (nQ (pv 2)<|Zn Ye (pv 8) Zf)<|nQ (pv 2)<|Zn Yh (pv 8) Zf) #[#[by lk,by lk],.inr<|.inr #[_,_,qQ.getD (i / 26) 0,rfl,rfl,sz (by rw[Dq];decide),by rw[BV];show a1,(by change(0:Int)<26;decide),.inr<|.inr #[_,_,qQ.getD (i%26) 0,rfl,rfl,sz (by rw[Dq];decide),by rw[BV];show a2,.inr<|.inl<|wj rfl rfl #[sz (by change 1+1<=1000;lia),?_]]]];refine mX (Z1<|rD (pv 7)<|Zi<|Zb (Zn Wl (Zn Wl Zg<|Yw Dk (by rfl) T.fk wx<|Zb (Zn Yh (Zn Ye (pv 9) Zf) Zf) Za)<|pv 10)<|Zb (nQ (pv 6) Zf)<|Zb (nQ (pv 6) Zf) Za) #[.inl #[rfl,_,mZ V1],#[by lk,by lk],(by change(0:Int)<99;decide),(n:Int),?_,Uz n u,.inr<|.inl<|wj rfl rfl #[sz (by change 1+_<=1000;lia),.inr<|.inl<|wj rfl rfl #[sz (by change _+2<=1000;lia),.inr<|.inl #[nw re5,rfl,.inr<|.inl #[nw re5,rfl,mY,λt H7 s7 x e7=>#[s7.at V1,by rw[mV];show Zp (by lia),#[_,_,_,_,_,rfl],λb o y=>?_,j++[(ro n i,e.1,e.2)],#[gs++[t],?_,?_],ok.add he (.inr #[n,u,rfl]) (ok.fresh M w6 u) hl]]]]]]
   ·change[V.int (dr / 8%99)]=[V.int (n:Int)];rw[hn]
   ·rw[Zd (Ze y n3)];show s7.at<|B3.at y
   ·rw[Zc,nJ];rfl
   ·have off:∀{b:lZ}{o:lX V},H7 b=some (.tup o)->(mT H7 lf<|.lst<|gs.map V.ref++[V.ref t]) b=some (.tup o):=λ{b o} y=>by
     rw[Zd λx=>by rw[x,s7.at V1]at y;cases y];show y
    show pQ (nX L λ_ _ r=>off<|s7.at r)<|.cons (off e7) .nil
  ·rintro z H4 ⟨⟨o5',o6',o8,o9,Q4,rfl⟩,G,j,N,ok⟩;refine mX (Zk<|pv 7)<|q lf H4 j (J.trans G) (J.free n3) N ?_;rw[mV,O8]at ok;show ok
def vP(s:lY):Nat:=s.cps.toList.getLastD 0
def Kl{x y:lY}(h:0<y.length):vP (x++y)=vP y:=by
 unfold vP;rw[yH];have:y.cps.toList≠[]:=λz=>by
  have:y.cps.toList.length=0:=by rw[z];rfl
  rw[qK]at this;show absurd h (by change ¬0<y.cps.size;lia)
 obtain⟨u,b,e⟩:=List.eq_nil_or_concat y.cps.toList|>.resolve_left this
 rw[e];simp
def NG:∀k<100,vP (tJ k)<58:=by left
def Lp{kd:lY}{c:Int}{k:Nat}(h:k<100):vP (Yr kd c k)<58:=by
 have z:=NG k h;have y:=BX k h;unfold Yr;split<;>rw[Kl y]<;>show z
def Om{j:Nat}(h:j<100):vP (W2 j)<58:=by
 unfold W2;rw[Kl (BX j h)];show NG j h
def SU{n k:Nat}:97<=vP (ro n k):=by
 unfold vP;rw[ED];have:=IE (k%26) (by lia);simp only[List.getLastD_concat];lia
def Lo{n k:Nat}:2<=(ro n k).cps.toList.length:=by
 rw[ED,oj,oj];simp
def Ycf{s:lY}{n k:Nat}(h:s ="g"\/s ="h"\/vP s<58):s≠ro n k:=λz=>by
 rcases h with rfl|rfl|h
 ·have:=@Lo n k;rw[<-z]at this;show absurd this (by lk)
 ·have:=@Lo n k;rw[<-z]at this;show absurd this (by lk)
 ·have:=@SU n k;rw[<-z]at this;lia
def YR{ps:lX Zh}{e:Zh}(h:e∈X2 ps):∃p∈ps,e.1=p.2:=by
 unfold X2 at h;obtain⟨p,y,z⟩:=vI.mp h;refine#[p,y,?_];split at z
 ·obtain⟨x,_,rfl⟩:=nH.mp z;rfl
 ·cases z
def uz(s:lY):Prop:=s ="g"\/s ="h"\/ww s 63\/∃j,j<90/\s=W2 j
def uz.sig{s:lY}{n k:Nat}(h:uz s):s≠ro n k:=by
 refine Ycf ?_;rcases h with h|h|⟨y,c,j,_,z,rfl⟩|⟨j,z,rfl⟩
 ·show .inl h
 ·show .inr<|.inl h
 ·show .inr (.inr<|Lp<|by lia)
 ·show .inr (.inr<|Om<|by lia)
def Dz(p:Zh):Prop:=p=((("gate":lY),("g":lY)):Zh)\/p=((("gate":lY),("h":lY)):Zh)\/ww p.2 63\/∃j,j<90/\p.2=W2 j
def Dz.nm{p:Zh}(h:Dz p):uz p.2:=by
 rcases h with rfl|rfl|h|h
 ·show .inl rfl
 ·show .inr<|.inl rfl
 ·show .inr<|.inr<|.inl h
 ·show .inr<|.inr<|.inr h
structure zD(ps:List Zh)(js:List (Zh×Zh))(sg:List (Str×Str×Str)):Prop where
 net:Net ps js []
 len:ps.length<=39
 name:∀p∈ps,Dz p
 sigs:∃N4,N4.Perm ps/\rZ (X2 N4) (X2 N4).length sg
def Net.perm'(h:Net ps s [])(z:r.Perm ps)(u:y.Perm s):Net r y []:=by
 obtain⟨a,b,c,d⟩:=h;rw[pO]at a;refine#[?_,(z.map _).nodup_iff.mpr b,λj x=>c j<|u.mem_iff.mp x,λp x=>d p<|z.mem_iff.mp x];rw[pO];show((u.flatMap_right _).trans a).trans (z.flatMap_right _).symm
def Yhm(h:ww s n)(l:n<=m):ww s m:=let⟨z,c,k,a,b,e⟩:=h;#[z,c,k,a,by lia,e]
def Sw(h:EZ s n):ww s n:=by
 obtain⟨z,y,c,k,a,e⟩:=h;refine#[z,c,k,?_,a,e];have:∀z∈W7,96<z.cps.toList.getD 0 0/\z.cps.toList.getD 0 0<123:=by left
 show this z y
def RX{z y:Type}{R:z->y->Prop}{x:lX z}{u:lX y}(h:Paired R x u):Paired R x.reverse u.reverse:=by
 induction h with
 | nil=>show .nil
 | cons r _ s=>rw[Ci,Ci];show pQ s<|.cons r .nil
theorem OS{z y:Type}{R:z->y->Prop}:∀(n:Nat){x:lX z}{u:lX y},Paired R x u->Paired R (x.drop n) (u.drop n)
 | 0,_,_,h=>h
 | _+1,_,_,.nil=>.nil
 | n+1,_,_,.cons _ t=>OS n t
theorem DQ{z y:Type}{R:z->y->Prop}:∀(n:Nat){x:lX z}{u:lX y},Paired R x u->Paired R (x.take n) (u.take n)
 | 0,_,_,_=>.nil
 | _+1,_,_,.nil=>.nil
 | n+1,_,_,.cons r t=>.cons r<|DQ n t
inductive QI(K:mf):Sp
 | mk (cl c) (cs:lX Int):vs=[.ref cl,.int c]->SqL K H cl (cs.map V.int)->(∀c∈cs,0<=c)->cs.length<=63->(∀(t pl jl sl:lZ)(H':Hp)(ps:lX Zh)(js:lX (Zh×Zh)) (sg:lX (lY×lY×lY)),mK H H'->H' t=some (.tup [.ref pl,.ref jl,.ref sl])->Zw H' pl ps->Yp H' jl js->vc H' sl sg->zD ps js sg->Q (.ref t) H')->QI K vs H Q E
def ZW:T.dE.O P w mg mM 4 (QI K):=by
 refine T.dE.F.okW Xj ?_;rfl'
 ·obtain⟨cl,c,cs,rfl,hS,hc0,w9,q⟩:=h;intro X D;refine mW (nG 2 Xj<|Zx (Sv T) hr<|Zb (pv 0) Za) #[cl,cs,rfl,hS,hc0,λt H1 o j x i G C M L n1 n2 net len nm=>?_];let I6:IC:=λz J=>∃t o j x i,z=[some (.ref cl),some<|.int c,some<|.ref t,none,none,none]/\mK H J/\J t=some (.tup [.ref o,.ref j])/\Zw J o x/\Yp J j i/\Net x i []/\x.length<=39/\∀p∈x,Dz p
  refine qz I6 ?_ ?_
  ·refine qo (Zt (Wu hr (Zn Yh (pv 1) Zf) Zf) Zo Zl) #[(by change(0:Int)<3;decide),.inl #[rfl,Yl (λ_=>?_) λ_=>#[t,o,j,x,i,rfl,G,C,M,L,net,by lia,λp I=>?_]]]
   ·refine mX (nG 2 Xj<|Zx (Zng T) hr<|Zb (pv 0) Za) #[cl,cs,rfl,G.seq hS,hc0,w9,λt H2 o j x i _ N e2 M L _ _ net len nm=>#[t,o,j,x,i,rfl,G.trans N,e2,M,L,net,len,λp I=>?_]];rcases nm p I with y|y
    ·show .inr<|.inr<|.inl<|Sw y
    ·show .inr<|.inr<|.inr y
   ·rcases nm p I with y|y|y
    ·show .inl y
    ·show .inr<|.inl y
    ·show .inr (.inr<|.inl<|Yhm y<|by lk)
  clear C M L n1 n2 net len nm G;rintro z H1 ⟨t,o,j,x,i,rfl,G,C,M,L,net,len,nm⟩;refine mW (QR (pv 2)<|tD rfl<|Zu (oE 3 Xj)<|Zu (oE 4 Xj) Y8) #[nw C,rfl,rfl,?_];obtain⟨g,hu,v6⟩:=id M;have O8:g.length=x.length:=nW v6;obtain⟨B,hmx,hm1⟩:∃B:Int,(if((g.map V.ref).length:Int)>1 then((g.map V.ref).length:Int)else 1)=B/\0<B:=by
   refine(qf rfl ?_);split<;>lia
  have a0:=qd (c / 3) (show B≠0 by lia);obtain⟨u,C8⟩:∃k:Nat,c / 3%B=(k:Int):=#[(c / 3%B).toNat,by lia]
  refine mW (nG 5 Xj<|Zn Yh (Zn Ye (pv 1) Zf)<|Z6 (YD rfl) (by rfl) T.jF PyProof.Rows.boot_max<|Zb Zf<|Zb (pI T.bh<|pv 3) Za) #[#[by lk,by lk],.inl #[.inl<|mZ hu,_,_,rfl,?_,?_]]
  ·change(0:Int)<(if((g.map V.ref).length:Int)>1 then((g.map V.ref).length:Int)else 1);rw[hmx];show hm1
  change WSs _ _ _ [some (.ref cl),some<|.int c,some<|.ref t,some<|.ref o,some<|.ref j,some<|.int<|c / 3%(if((g.map V.ref).length:Int)>1 then((g.map V.ref).length:Int)else 1)] H1;rw[hmx,C8];let I7:IC:=λz J=>∃d a,z=[some (.ref cl),some<|.int c,some<|.ref t,some<|.ref o,some<|.ref d,some<|.int (u:Int)]/\mK H1 J/\Yp J d a/\a.Perm i
  refine qz I7 ?_ ?_
  ·obtain⟨n,e,y⟩:=id L;refine qo (Zt (Wu hr (Zn Yh (Zn Ye (pv 1) Zf) Zf) Zf) Zo Zl) #[#[by lk,by lk],(by change(0:Int)<2;decide),.inl #[rfl,Yl (λ_=>?_) λ_=>#[j,i,rfl,qy _,L,qm _]]];refine mX (nG 4 Xj<|Yf2 (ops:=λl r=>[l,r]) (pv 4) (tQ<|DX Cz Zf) λ_ _=>by with_unfolding_all rfl) #[j,_,rfl,rfl,mZ e,λl H2 N n2 e2=>#[l,i.reverse,rfl,N,#[n.reverse,by rw[e2,List.map_reverse],?_],Bz _]];show RX<|nX y λ_ _ r=>r.mono N
  rintro z H2 ⟨d,a,rfl,N,hJ',hjp⟩;refine mX (Zk<|Zi<|Zb (Zn Wl (Wm (r:=tT K) uA (pv 3) (tQ<|pv 5) ut)<|Wm (r:=tT K) uA (pv 3) ut<|tQ<|pv 5)<|Zb (pv 4)<|Zb (Zx (Ug T) hr<|Zb (pv 3)<|Zb (Zn Ye (pv 1) Zf) Za) Za)<|.inr<|.inl #[mZ<|N.at hu,λl e s3 n3 y=>(.inr<|.inl #[mZ<|s3.at<|N.at hu,λlb H4 s4 n4 n=>.inr<|.inr #[s4.at y,n,?_,λlc H5 s5 n5 e5=>?_]])]
  ·rw[yU,Bx,yC,oF,mV];show sz (by lia)
  have B3:=s3.trans<|s4.trans s5;have D6:=N.trans B3;refine#[#[by lk,by lk],o,_,x,rfl,M.mono D6,by lia,λn k e he _ _=>?_,λsl y sg s6 l hG ok=>#[mY,λt' H7 s7 n7 e7=>?_]]
  ·obtain⟨p,I,C⟩:=YR he;rw[C];show uz.sig (nm p I).nm
  rw[yU,Bx,<-EL,<-wc,<-nJ]at e5;have Y:=s6.trans s7;have U:(x.drop u++x.take u).Perm x:=by
   have:=wD (l₁:=x.drop u) (l₂:=x.take u);rwa[xG]at this
  refine q t' lc d sl H7 (x.drop u++x.take u) a sg (G.trans<|D6.trans Y) e7 #[g.drop u++g.take u,Y.at e5,?_] (hJ'.mono<|B3.trans Y) (hG.mono s7) #[Net.perm' net U hjp,?_,λp I=>nm p<|U.mem_iff.mp I,#[x,U.symm,ok]]
  ·have:=nX v6 λ_ _ r=>Zs.mono (D6.trans Y) r
   show pQ (OS _ this)<|DQ _ this
  ·rw[U.length_eq];show len
def sF(c:Nat):Bool:=decide (97<=c) && decide (c<=122)
def pV(c:Nat):Bool:=sF c || (decide (48<=c) && decide (c<=57))
def Xf(s:lY):Prop:=1<=s.length/\s.length<=6/\sF (s.cps.toList.headD 0)=true/\s.cps.toList.all pV=true
def CI:∀k<100,(tJ k).cps.toList.all pV=true:=by left
def IB:∀i<26,sF (qQ.getD i 0)=true:=by lk
def XD(h:sF c=true):pV c=true:=by unfold pV;rw[h];rfl
def we{x y:lY}(z:x.cps.toList.all pV=true)(u:y.cps.toList.all pV=true):(x++y).cps.toList.all pV=true:=by
 rw[yH,List.all_append,z,u];rfl
def wL{x y:lY}(h:0<x.length):(x++y).cps.toList.headD 0=x.cps.toList.headD 0:=by
 rw[yH];cases e:x.cps.toList with
 | nil =>
  have:x.cps.size=0:=by rw[<-qK,e];rfl
  show absurd h (by change ¬0<x.cps.size;lia)
 | cons a l=>rfl
def AO(h:sF c=true):(#[(List.toArray [c])]:lY).cps.toList.all pV=true:=by
 change([c]:lX Nat).all pV=true;simp[XD h]
def Ydi{j:Nat}(h:j<100):Xf (W2 j):=by
 have z:=Db j h;have y:=BX j h;unfold W2;refine#[?_,?_,?_,we (by left)<|CI j h]
 ·rw[qc];lia
 ·rw[qc,show("e":lY).length=1 by left];lia
 ·rw[wL (by left)];decide +kernel
def Ydg{n k:Nat}(y:n<99)(q:k<600):Xf (ro n k):=by
 have p:=Jx n y;have x:=IB (k / 26) (by lia);have u:=IB (k%26) (by lia);have z:("s":lY).length=1:=by left
 have s:0<(("s":lY)++Str.ofString (toString (n:Int))).length:=by rw[qc,z];lia
 have r:(Str.ofString<|toString (n:Int)).cps.toList.all pV=true:=CI n (by lia);unfold ro;refine#[?_,?_,?_,we (we (we (by left) r)<|AO x)<|AO u]
 ·rw[qc,qc];lia
 ·rw[qc,qc,qc,z];change 1+_+1+1<=6;lia
 ·rw[wL (by rw[qc];lia),wL s,wL<|by rw[z];decide];decide +kernel
def XY:Xf "g":=#[by left,by left,by left,by left]
def Yjf:Xf "h":=#[by left,by left,by left,by left]
def GM(z:0<=i)(y:i<26):sF (tN i)=true:=IB i.toNat (by lia)
def SM:∀m<3,(sr "0" m).cps.toList.all pV=true:=by left
def Zxa{kd:lY}{c:Int}{k:Nat}(r:96<kd.cps.toList.getD 0 0/\kd.cps.toList.getD 0 0<123)(z:k<100):Xf (Yr kd c k):=by
 have q:=yg (kind:=kd) (c:=c) z;refine#[by lia,Zxv z,?_,?_]
 ·unfold Yr;split
  ·rw[wL (by change 0<1;decide)];change sF (kd.cps.toList.getD 0 0)=true;unfold sF;simp only[qk,vo];lia
  ·have y:=qd (c / 3) (show(26:Int)≠0 by lk);have x:=qr (c / 3) (show(0:Int)<26 by lk);rw[wL (by rw[qc,qc];change 0<1+1+_;lia),wL (by rw[qc];change 0<1+1;decide),wL<|by change 0<1;decide];show GM y x
 ·unfold Yr;split
  ·refine we (AO ?_)<|CI k z;unfold sF;simp only[qk,vo];lia
  ·have y:=qd (c / 3) (show(26:Int)≠0 by lk);have x:=qr (c / 3) (show(0:Int)<26 by lk);have u:=qd (c / 78) (show(26:Int)≠0 by lk);have s:=qr (c / 78) (show(0:Int)<26 by lk);have p:=qd (c / 2028) (show(3:Int)≠0 by lk);have o:=qr (c / 2028) (show(0:Int)<3 by lk);show we (we (we (AO<|GM y x)<|AO<|GM u s)<|SM _<|by lia)<|CI k z
def uz.ok(h:uz s):Xf s:=by
 rcases h with rfl|rfl|⟨x,c,j,z,y,rfl⟩|⟨j,y,rfl⟩
 ·show XY
 ·show Yjf
 ·show Zxa z (by lia)
 ·show Ydi (by lia)
def El(h:e∈X2 ps):∃p∈ps,e.1=p.2/\p.1∈[("plain":lY),"gate","stop"]/\e.2∈Yq p.1:=by
 unfold X2 at h;obtain⟨p,u,y⟩:=vI.mp h
 by_cases z:p.1∈[("plain":lY),"gate","stop"]
 ·rw[nj z]at y;obtain⟨x,s,rfl⟩:=nH.mp y;show#[p,u,rfl,z,s]
 ·rw[ng z]at y;cases y
def RH(k:lY):(Yq k).Nodup:=by
 unfold Yq;split
 ·decide
 ·split
  ·decide
  ·split<;>decide
theorem OP:∀{ps:lX Zh},(ps.map snd).Nodup->(X2 ps).Nodup
 | [],_=>uw
 | p ::ps,h=>by
  rw[oq,pZ]at h;have u:=OP h.2;change((if p.1∈[("plain":lY),"gate","stop"]then(Yq p.1).map (λx=>((p.2,x):Zh))else[])++X2 ps).Nodup;refine qu.mpr #[?_,u,λa y b s e=>?_]
  ·split
   ·show Ff _ (λa b h z=>h (Et z).2)<|RH p.1
   ·show uw
  ·subst e;obtain⟨z,r,q,_⟩:=El s;split at y
   ·obtain⟨x,_,rfl⟩:=nH.mp y;show h.1<|nH.mpr #[z,r,q.symm]
   ·cases y
structure zo(ps:List Zh)(sg:List (Str×Str×Str)):Prop where
 name:∀q∈sg,Xf q.1
 nd:(sg.map fst).Nodup
 one:(sg.map snd).Nodup
 at_:∀q∈sg,∃p∈ps,p.2=q.2.1/\p.1∈[("plain":Str),"gate","stop"]/\q.2.2∈Yq p.1
 len:sg.length<=40
def rZ.sigs(h:rZ (X2 ps) (X2 ps).length u)(s:(ps.map snd).Nodup)(nm:∀p∈ps,uz p.2)(r:ps.length<=45):zo ps u:=by
 have sub:=h.at_;rw[pD]at sub;have o:=DV ps;have mem:∀q∈u,((q.2.1,q.2.2):Zh)∈X2 ps:=λq y=>sub.subset<|nH.mpr #[q,y,rfl]
 refine#[λq y=>?_,h.nd,List.Nodup.sublist sub<|OP s,λq y=>?_,h.len]
 ·rcases h.name q y with z|⟨n,k,a,b,c⟩
  ·obtain⟨p,x,e,_⟩:=El<|mem q y;rw[z,show q.2.1=p.2 from e];show uz.ok<|nm p x
  ·rw[c];show Ydg a (by lia)
 ·obtain⟨p,x,e,k,m⟩:=El<|mem q y;show#[p,x,e.symm,k,m]
def zo.perm(h:zo z y)(x:z.Perm ps):zo ps y :=
 #[h.name,h.nd,h.one,λq u=>let⟨p,a,b⟩:=h.at_ q u;#[p,x.mem_iff.mp a,b],h.len]
def zD.sigsV(h:zD ps u y):zo ps y:=by
 obtain⟨x,z,ok⟩:=h.sigs;show(ok.sigs ((z.map _).nodup_iff.mpr h.net.nd) (λp x=>(h.name p<|z.mem_iff.mp x).nm) (by rw[z.length_eq];have:=h.len;lia)).perm z
inductive wI(K:mf):Sp
 | mk (x C dx nm):vs=[.ref x,.str nm]->H x=some (.ins C dx [])->pN K C->nq K C "name"->Q .non (mT H x<|.ins C dx [("name",.str nm)])->wI K vs H Q E
def X0:T.ap.O P w mg mM 1 (wI K):=by
 refine T.ap.F.okA ?_;rfl'
 ·obtain⟨x,C,u,nm,rfl,z,c,y,q⟩:=h;intro X D;show mX (Wq (pv 0) (pv 1) rfl) #[z,c,y,by simp,q]
def qv(H:Hp)(C x:lZ)(nm:lY):Prop:=∃z,H x=some (.ins C z [("name",.str nm)])
def ze(C:lZ):lX V->Hp->VK->Prop:=λy H Q=>∃nm:lY,y=[.str nm]/\∀x z,mK H z->H x=none->qv z C x nm->Q (.ref x) z
def AI(c:pN K C)(n:nq K C "name"):∀vs H Q,ze C vs H Q->∀x z,H x=none->H z=none->z≠x->wI K (.ref x ::(vs++[])) (mT (mT H z<|.own x) x<|.ins C z []) (λv u=>v=.non/\Q (.ref x) u) E0:=by
 rintro vs H Q ⟨nm,rfl,q⟩ x z y s r;refine#[x,C,z,nm,rfl,Zc,c,n,rfl,q x _ (λb o e=>?_) y #[z,Zc]];rw[Zd (Ze e y),Zd<|Ze e y,Zd<|Ze e s];show e
abbrev Kr(T:Tx K mg):lX V->Hp->VK->Prop:=ze T.bR
def XT:∀vs H Q,Kr T vs H Q->∀x z,H x=none->H z=none->z≠x->wI K (.ref x ::(vs++[])) (mT (mT H z<|.own x) x<|.ins T.bR z []) (λv y=>v=.non/\Q (.ref x) y) E0:=AI T.eI T.fh
abbrev QU(T:Tx K mg):lX V->Hp->VK->Prop:=ze T.bx
def VJ:∀vs H Q,QU T vs H Q->∀x z,H x=none->H z=none->z≠x->wI K (.ref x ::(vs++[])) (mT (mT H z<|.own x) x<|.ins T.bx z []) (λv y=>v=.non/\Q (.ref x) y) E0:=AI T.fK T.fL
abbrev IR(T:Tx K mg):lX V->Hp->VK->Prop:=ze T.bz
def VB:∀vs H Q,IR T vs H Q->∀x z,H x=none->H z=none->z≠x->wI K (.ref x ::(vs++[])) (mT (mT H z<|.own x) x<|.ins T.bz z []) (λv y=>v=.non/\Q (.ref x) y) E0:=AI T.fM T.fN
abbrev PZ(T:Tx K mg):lX V->Hp->VK->Prop:=ze T.aE
def Vt:∀vs H Q,PZ T vs H Q->∀x z,H x=none->H z=none->z≠x->wI K (.ref x ::(vs++[])) (mT (mT H z<|.own x) x<|.ins T.aE z []) (λv y=>v=.non/\Q (.ref x) y) E0:=AI T.cW T.eJ
abbrev Na(T:Tx K mg):lX V->Hp->VK->Prop:=ze T.bS
def Yam:∀vs H Q,Na T vs H Q->∀x z,H x=none->H z=none->z≠x->wI K (.ref x ::(vs++[])) (mT (mT H z<|.own x) x<|.ins T.bS z []) (λv y=>v=.non/\Q (.ref x) y) E0:=AI T.eK T.fi
def X8(k:lY)(C:lZ):Prop:=(k ="points"/\C=T.aE)\/(k ="cross"/\C=T.bS)\/(k ="gate"/\C=T.bz)\/(k ="stop"/\C=T.bx)\/(k ="plain"/\(C=T.cV\/C=T.bR))
inductive Ll:Sp
 | mk (k nm:lY):vs=[.str k,.str nm]->k∈W7->nm.length<=6->(∀(x C:lZ)(H':Hp),mK H H'->H x=none->X8 T k C->qv H' C x nm->Q (.ref x) H')->Ll vs H Q E
def Zqw:T.ff.O P w mg mM 3 (Ll T):=by
 refine T.ff.F.okA ?_;rfl'
 ·obtain⟨k,nm,rfl,l,I,q⟩:=h;intro X D;let M:IC:=λz r=>z=[some (.str k),some<|.str nm]/\r=H/\k≠ "points"
  refine qz M ?_ ?_
  ·refine qo (Zt (Wu hr (pv 0) Zg) Zo Zl)<|.inl #[rfl,Yl (λu=>?_) λu=>#[rfl,rfl,λy=>u<|by rw[y];simp]];have u:k ="points":=V.str.inj<|pL u;show mX (Zk<|wy (PZ T) T.iC (X0 T) hr.m rfl T.iq T.ap.b .nil Z0 (Vt T)<|Zb (pv 1) Za) #[nm,rfl,λx r p n o=>q x _ r p n (.inl #[u,rfl]) o]
  rintro z G ⟨rfl,j,i⟩;rw[j];let L:IC:=λz r=>z=[some (.str k),some<|.str nm]/\r=H/\k≠ "cross"
  refine qz L ?_ ?_
  ·refine qo (Zt (Wu hr (pv 0) Zg) Zo Zl)<|.inl #[rfl,Yl (λu=>?_) λu=>#[rfl,rfl,λy=>u<|by rw[y];simp]];have u:k ="cross":=V.str.inj<|pL u;show mX (Zk<|wy (Na T) T.iO (X0 T) hr.m rfl T.ji T.ap.b .nil Z0 (Yam T)<|Zb (pv 1) Za) #[nm,rfl,λx r p n o=>q x _ r p n (.inr<|.inl #[u,rfl]) o]
  rintro z C ⟨rfl,g,e⟩;rw[g];let d:IC:=λz r=>z=[some (.str k),some<|.str nm]/\r=H/\k≠ "gate"
  refine qz d ?_ ?_
  ·refine qo (Zt (Wu hr (pv 0) Zg) Zo Zl)<|.inl #[rfl,Yl (λu=>?_) λu=>#[rfl,rfl,λy=>u<|by rw[y];simp]];have u:k ="gate":=V.str.inj<|pL u;show mX (Zk<|wy (IR T) T.jh (X0 T) hr.m rfl T.jb T.ap.b .nil Z0 (VB T)<|Zb (pv 1) Za) #[nm,rfl,λx r p n o=>q x _ r p n (.inr<|.inr<|.inl #[u,rfl]) o]
  rintro z B ⟨rfl,c,a⟩;rw[c];let Y:IC:=λz r=>z=[some (.str k),some<|.str nm]/\r=H/\k≠ "stop"
  refine qz Y ?_ ?_
  ·refine qo (Zt (Wu hr (pv 0) Zg) Zo Zl)<|.inl #[rfl,Yl (λu=>?_) λu=>#[rfl,rfl,λy=>u<|by rw[y];simp]];have u:k ="stop":=V.str.inj<|pL u;show mX (Zk<|wy (QU T) T.jg (X0 T) hr.m rfl T.ja T.ap.b .nil Z0 (VJ T)<|Zb (pv 1) Za) #[nm,rfl,λx r p n o=>q x _ r p n (.inr<|.inr<|.inr<|.inl #[u,rfl]) o]
  rintro z H4 ⟨rfl,U,N⟩;rw[U];have J:k ="plain":=by
   unfold W7 at l;simp only[oh,uV,qU]at l;rcases l with y|y|y|y|y
   ·show y
   ·show absurd y i
   ·show absurd y e
   ·show absurd y a
   ·show absurd y N
  show mX (Zk<|wy (Kr T) T.iN (X0 T) hr.m rfl T.jf T.ap.b .nil Z0 (XT T)<|Zb (pv 1) Za) #[nm,rfl,λx r p n o=>q x _ r p n (.inr<|.inr<|.inr<|.inr #[J,.inr rfl]) o]
section
variable {α β κ:Type} [DecidableEq κ] {f:α->κ} {R R':α->β->V->Prop} {kvs:lX (κ×V)}
def DP(f:α->κ)(R:α->β->V->Prop)(kvs:lX (κ×V))(qs:lX (α×β)):Prop:=Paired (λ(kv:κ×V) (q:α×β)=>kv.1=f q.1/\R q.1 q.2 kv.2) kvs qs
def DP.none(h:DP f R kvs qs)(inj:∀a b,f a=f b->a=b){a:α}(n:a∉qs.map fst):Xe kvs (f a)=none:=by
 unfold DP at h
 induction h with
 | nil=>rfl
 | cons r t y =>
  rw[oq,oh,wH]at n;rw[wa (λz=>n.1 (inj _ _<|r.1.symm.trans z).symm)];show y n.2
def DP.get(h:DP f R kvs qs)(inj:∀a b,f a=f b->a=b)(y:(qs.map fst).Nodup){a:α}{b:β}(m:(a,b)∈qs):∃v,Xe kvs (f a)=some v/\R a b v:=by
 unfold DP at h
 induction h with
 | nil=>cases m
 | @cons kv q _ _ r t x =>
  rw[oq,pZ]at y;rcases oh.mp m with z|z
  ·rw[<-z]at r;show#[_,yT r.1,r.2]
  ·have:a≠q.1:=λe=>y.1 (by rw[<-e];show nH.mpr #[_,z,rfl])
   rw[wa (λe=>this (inj _ _<|r.1.symm.trans e).symm)];show x y.2 z
def DP.put(h:DP f R kvs qs){a:α}{b:β}(n:Xe kvs (f a)=Option.none)(r:R a b v):DP f R (Wj kvs (f a) v) (qs++[(a,b)]):=by
 rw[Qk v n];show Cb h #[rfl,r]
def DP.len(h:DP f R kvs qs):kvs.length=qs.length:=nW h
def DP.mapR(h:DP f R kvs qs)(m:∀a b v,R a b v->R' a b v):DP f R' kvs qs:=nX h λ_ _ z=>#[z.1,m _ _ _ z.2]
def DP.keys(h:DP f R kvs qs):kvs.map fst=qs.map λq=>f q.1:=by
 unfold DP at h
 induction h with
 | nil=>rfl
 | cons r t z=>rw[oq,oq,z,r.1]
end
def Y9(e:Zh):lX nI:=[.inr e.1,.inr e.2]
def W5(a b:Zh)(h:Y9 a=Y9 b):a=b:=by
 obtain⟨z,y⟩:=a;obtain⟨z,y⟩:=b;unfold Y9 at h;simp only[AU,Sum.inr.injEq,and_true]at h;rw[h.1,h.2]
def Xn(s:lY):nI:=.inr s
def xL(a b:lY)(h:Xn a=Xn b):a=b:=wl h
def qP(ps:lX Zh):lX (lY×lY):=ps.map λp=>(p.2,p.1)
def qA(ps:lX Zh):lX (Zh×lY):=ps.flatMap λp=>(Yq p.1).map λe=>((p.2,e),p.1)
def qJ(z:lX (Zh×Zh)):lX (Zh×Zh):=z.flatMap λj=>[(j.1,j.2),(j.2,j.1)]
def qS(z:lX (lY×lY×lY)):lX (lY×Zh):=z.map λq=>(q.1,(q.2.1,q.2.2))
def qO(z:lX (lY×lY×lY)):lX (Zh×lY):=z.map λq=>((q.2.1,q.2.2),q.1)
def GJ(ps:lX Zh):(qP ps).map fst=ps.map snd:=by unfold qP;rw[oU];rfl
def Du(ps:lX Zh):(qA ps).map fst=Yt ps:=by
 unfold qA Yt;rw[List.map_flatMap];simp only[oU]
 rfl
def uJ(z:lX (Zh×Zh)):(qJ z).map fst=Xp z:=by
 unfold qJ Xp;rw[List.map_flatMap]
 rfl
def QX(z:lX (lY×lY×lY)):(qS z).map fst=z.map fst:=by unfold qS;rw[oU];rfl
def GD(z:lX (lY×lY×lY)):(qO z).map fst=z.map snd:=by unfold qO;rw[oU];rfl
def RP(H:Hp):lY->lY->V->Prop:=λnm k v=>∃x C,v=.ref x/\X8 T k C/\qv H C x nm
def RA(H:Hp):Zh->lY->V->Prop:=λe k v=>∃x C,v=.ref x/\X8 T k C/\qv H C x e.1
def RJ(H:Hp):Zh->Zh->V->Prop:=λ_ e v=>∃t,v=.ref t/\Zs H t e
def RS(H:Hp):lY->Zh->V->Prop:=λ_ e v=>∃t,v=.ref t/\Zs H t e
def RO:Zh->lY->V->Prop:=λ_ s v=>v=.str s
def qv.mono(e:mK H y)(h:qv H C x nm):qv y C x nm:=let⟨u,z⟩:=h;#[u,e.at z]
def RP.mono(e:mK H z)(a b:lY)(v:V)(h:RP U H a b v):RP U z a b v:=let⟨x,C,y,u,s⟩:=h;#[x,C,y,u,s.mono e]
def RJ.mono(e:mK H z)(a b:Zh)(v:V)(h:RJ H a b v):RJ z a b v:=let⟨t,y,x⟩:=h;#[t,y,x.mono e]
def RS.mono(e:mK H z)(a:lY)(b:Zh)(v:V)(h:RS H a b v):RS z a b v:=let⟨t,y,x⟩:=h;#[t,y,x.mono e]
def Qx(h:Zs H t e):H t=some (.tup<|(Y9 e).map kV):=h
abbrev AX:lY :="abcdefghijklmnopqrstuvwxyz"
abbrev Ez:lY :="0123456789"
def VU:∀c,c<128->(!(Builtin.Str.occurrences AX #[(List.toArray [c])] 0 AX.length 1).isEmpty)=sF c:=by left
def Yhs:∀c,c<128->(!(Builtin.Str.occurrences (AX++Ez) #[(List.toArray [c])] 0 (AX++Ez).length 1).isEmpty)=pV c:=by left
def Zxh:AX.length+Ez.length<=sizeLine:=by rw[tR];decide +kernel
def LB(h:pV c=true):c<128:=by
 unfold pV sF at h;simp at h;lia
def Ab(x:lY):Bool:=(decide (1<=x.length) && decide (x.length<=6)) && (sF (x.cps.toList.headD 0) && x.cps.toList.all pV)
def Xf.b(h:Xf x):Ab x=true:=by
 obtain⟨z,y,u,s⟩:=h;unfold Ab;rw[og z,og y,u,s]
 rfl
def Xf.low(h:Xf x):∀c∈x.cps.toList,c<128:=λc z=>LB<|wo.mp h.2.2.2 c z
def NH(K:mf)(H:Hp)(v:V)(b:Bool):Prop:=(∃x:lY,v=.str x/\(∀c∈x.cps.toList,c<128)/\x.length<=100/\Ab x=b)\/(b=false/\∃t,Xx K H v t/\kitOne K t (.type "str")=some false)
def Xf.asked(h:Xf x):NH K H (.str x) true:=.inl #[x,rfl,h.low,by have:=h.2.1;lia,h.b]
inductive Mm(K:mf):Sp
 | mk (v) (b:Bool):vs=[v]->NH K H v b->(∀H',mK H H'->Q (.bl b) H')->Mm K vs H Q E
def FG:T.gk.O P w mg mM 1 (Mm K):=by
 refine T.gk.F.okA ?_;rfl'
 ·obtain⟨v,b,rfl,I,q⟩:=h;intro X D;rcases I with⟨x,rfl,y,z,a⟩|⟨rfl,t,G,k⟩
  ·have C:x.cps.toList.length=x.length:=qK;refine mW (Zt (rO<|Y7<|vZ "str" T.ak T.fk wx<|pv 0) Zo Zl) #[Xx.str x,.inl<|qf rfl T.ke,?_];refine mW (Zt (sJ<|uF (Wu hr (pv 0) Zg)<|vj<|Yd xw (pI T.bh<|pv 0) (AL (by rfl) T.fU)<|Yo _) Zo Zl)<|.inl #[rfl,Yl (λz=>?_) λB=>(.inr<|.inl #[x,rfl,sz (by lia),Yl (λz=>?_) λz1=>?_])]
   ·have e:x=("":lY):=V.str.inj<|pL z;have:b=false:=by rw[<-a,e];decide +kernel
    rw[this]at q;show mX (Zk rC)<|q H<|qy _
   ·have z:(6:Int)<(x.length:Int):=pL z;have:b=false:=by
     rw[<-a];unfold Ab;rw[ow (show ¬x.length<=6 by lia),GF]
     rfl
    rw[this]at q;show mX (Zk rC)<|q H<|qy _
   have h6:¬(6:Int)<(x.length:Int):=λz=>z1<|og z
   have w6:x.cps.toList≠[]:=λz=>B (og (by
    have:x=("":lY):=PyProof.Rows.ext_toList (z.trans<|by left);rw[this]))
   obtain⟨c,n,l⟩:∃c n,x.cps.toList=c ::n:=by
    cases e:x.cps.toList with
    | nil=>show absurd e w6
    | cons c n=>show#[c,n,rfl]
   have R9:1<=x.length:=by rw[<-C,l,pJ];lia
   refine mX (Zk<|vQ (OV hr (nQ (pv 0) Zf)<|Fk (by rfl) T.gy)<|wG<|Z6 (r:=QD K) (TK rfl) (by rfl) T.jI PyProof.Rows.boot_all<|Zb (pT ["sign"] (pr 1 [] rfl) (ZI<|pv 0) (oJ 0) Wi (vT (r:=Dy K) (Hg hr) (pv 0) (Zn Wl (Fk (by rfl) T.gy)<|Fk (by rfl) T.ix)<|by with_unfolding_all rfl)) Za)<|.inr<|.inr #[x,0,c,rfl,rfl,sz (by lia),by rw[l];show Zq (j:=0) rfl,.inr<|.inr<|.inl<|wj rfl rfl ?_];rw[VU c (y c (by rw[l];show oN))];have u:b=(sF c && x.cps.toList.all pV):=by
    rw[<-a];unfold Ab;rw[og R9,og (show x.length<=6 by lia),l]
    rfl
   cases N:sF c with
   | false =>
    refine ?_;rw[u,N]at q;show q H (qy _)
   | true =>
    rw[N,Bool.true_and]at u;refine#[x,rfl,?_,λD M=>?_]
    ·rw[Array.all_eq_true'];show λc d=>og<|y c<|Bi.mpr d
    refine ZY (λi g p=>g=(x.cps.toList.take i).map (λc=>V.bl<|pV c)/\p D=some (.lst g)/\mK H p) #[rfl,Zc,λL o e=>by rw[Zd (Ze e M)];show e] ?_ ?_
    ·rintro i d g p hi ⟨rfl,Y,U⟩;have J:x.cps.toList[i]? =some d:=by simpa using hi
     have O9:d<128:=y d<|pi J;refine#[pA rfl,.inr<|.inl #[_,_,rfl,rfl,Zxh,.inr<|.inr<|.inl #[_,_,rfl,rfl,Y,?_,?_]]]
     ·rw[mV,oF,tR];lia
     ·rw[Yhs d O9];refine#[?_,Zc,λL o e=>?_]
      ·rw[oH,J];simp
      ·rw[Zd (Ze e M)];show U L o e
    ·rintro g p ⟨rfl,Y,U⟩;refine#[D,(x.cps.toList.map pV),rfl,?_,?_]
     ·have e:(List.map pV x.cps.toList).map V.bl=List.map (λc=>V.bl<|pV c) (List.take x.cps.size x.cps.toList):=by
       rw[oU,uC<|by simp]
       rfl
      rw[e];show mZ Y
     ·have e:(List.map pV x.cps.toList).all id=b:=by rw[List.all_map,u];rfl
      rw[e];show q p U
  ·refine mW (Zt (rO<|Y7<|vZ "str" T.ak T.fk wx<|pv 0) Zo Zl) #[G,.inl<|qf rfl k,?_];show mX (Zk rC)<|q H<|qy _
inductive Pq:Sp
 | mk (s d kvs):vs=[.str s,.ref d]->Xf s->H d=some (.dK kvs)->Xe kvs (Xn s)=none->(∀H',mK H H'->Q .non H')->Pq  vs H Q E
def Fc:T.dN.O P w mg mM 2 Pq:=by
 refine T.dN.F.okA ?_;rfl'
 ·obtain⟨x,d,u,rfl,r,hd,p,q⟩:=h;intro X D;refine mW (Zt (rO<|Y7<|Zx (FG T) hr<|Zb (pv 0) Za) Zo Zl) #[_,true,rfl,r.asked,λo y=>(?_)];refine mX (Zt (wJ hr (pv 0)<|pv 1) Zo Zl)<|.inr<|.inl #[d,_,rfl,Wc.k (k:=Xn x)<|y.at hd,Yl (λz=>?_) λ_=>q o y];rw[p]at z;show absurd z (by lk)
def vm(k:lY):lX lY:=if k ="points" then["left","right"]else[""]
def Ck(k z:lY):lX (lY×lY):=if k ="points" then[("stem",z)]else if k ="cross" then[("a","b"),("c","d")]else if k ="plain" then[("a","b")]else[("","a")]
def Ft(k:lY):Bool:=decide<|k∈[("plain":lY),"gate","stop"]
def yQ(e:lY):lX (lY×lY)->lY
 | [] =>""
 | (one,two) ::r=>if e=one then two else if e=two then one else yQ e r
def vU(k e z:lY):lY:=if z∈vm k then yQ e (Ck k z)else ""
def Ur(H:Hp)(p:lZ)(l:lX (lY×lY)):Prop:=∃z:lX lZ,H p=some (.lst<|z.map V.ref)/\Paired (λa (q:lY×lY)=>H a=some (.tup [.str q.1,.str q.2])) z l
inductive vC(xs:lX V):Sp
 | mk (v):vs=[v]->(∀p H',mK H H'->H p=none->H' p=some (.lst xs)->Q (.ref p) H')->vC xs vs H Q E
inductive yl(f:lY->lX (lY×lY)):Sp
 | mk (v m6):vs=[v,.str m6]->(∀p H',mK H H'->Ur H' p (f m6)->Q (.ref p) H')->yl f vs H Q E
inductive zW(b:Bool):Sp
 | mk (v):vs=[v]->Q (.bl b) H->zW b vs H Q E
def Qy:T.cx.O P w mg mM 1 (vC<|(["a","b"]:lX lY).map V.str):=by
 refine T.cx.F.okA ?_;rfl'
 ·obtain⟨v,rfl,k⟩:=h;intro X D;show mX (Zk<|Zm<|Zb Zg<|Zb Zg Za) #[mY,k]
def zq:T.aJ.O P w mg mM 1 (vC<|([""]:lX lY).map V.str):=by
 refine T.aJ.F.okA ?_;rfl'
 ·obtain⟨v,rfl,k⟩:=h;intro X D;show mX (Zk<|Zm<|Zb Zg Za) #[mY,k]
def QA:T.bY.O P w mg mM 1 (yl λy=>[("a","b")]):=by
 refine T.bY.F.okA ?_;rfl'
 ·obtain⟨v,y,rfl,k⟩:=h;intro X D;show mX (Zk<|Zm<|Zb (Zi<|Zb Zg<|Zb Zg Za) Za) #[mY,λx n u l r=>#[mY,λq p z j o=>k q p (u.trans z) #[[x],o,.cons (z.at r) .nil]]]
def DK:T.aM.O P w mg mM 1 (zW true):=by
 refine T.aM.F.okA ?_;rfl'
 ·obtain⟨v,rfl,k⟩:=h;intro X D;show mX (Zk rC) k
def Nd:T.cy.O P w mg mM 1 (vC<|(["a"]:lX lY).map V.str):=by
 refine T.cy.F.okA ?_;rfl'
 ·obtain⟨v,rfl,k⟩:=h;intro X D;show mX (Zk<|Zm<|Zb Zg Za) #[mY,k]
def PL:T.ci.O P w mg mM 1 (yl λy=>[("","a")]):=by
 refine T.ci.F.okA ?_;rfl'
 ·obtain⟨v,y,rfl,k⟩:=h;intro X D;show mX (Zk<|Zm<|Zb (Zi<|Zb Zg<|Zb Zg Za) Za) #[mY,λx n u l r=>#[mY,λq p z j o=>k q p (u.trans z) #[[x],o,.cons (z.at r) .nil]]]
def VH:T.cK.O P w mg mM 1 (vC<|(["stem","left","right"]:lX lY).map V.str):=by
 refine T.cK.F.okA ?_;rfl'
 ·obtain⟨v,rfl,k⟩:=h;intro X D;show mX (Zk<|Zm<|Zb Zg<|Zb Zg<|Zb Zg Za) #[mY,k]
def Io:T.bI.O P w mg mM 1 (vC<|(["left","right"]:lX lY).map V.str):=by
 refine T.bI.F.okA ?_;rfl'
 ·obtain⟨v,rfl,k⟩:=h;intro X D;show mX (Zk<|Zm<|Zb Zg<|Zb Zg Za) #[mY,k]
def Su:T.cA.O P w mg mM 1 (yl λz=>[("stem",z)]):=by
 refine T.cA.F.okA ?_;rfl'
 ·obtain⟨v,z,rfl,k⟩:=h;intro X D;show mX (Zk<|Zm<|Zb (Zi<|Zb Zg<|Zb (pv 1) Za) Za) #[mY,λx n u l r=>#[mY,λq p y j o=>k q p (u.trans y) #[[x],o,.cons (y.at r) .nil]]]
def TM:T.cD.O P w mg mM 1 (zW false):=by
 refine T.cD.F.okA ?_;rfl'
 ·obtain⟨v,rfl,k⟩:=h;intro X D;show mX (Zk rC) k
def Zne:T.cU.O P w mg mM 1 (vC<|(["a","b","c","d"]:lX lY).map V.str):=by
 refine T.cU.F.okA ?_;rfl'
 ·obtain⟨v,rfl,k⟩:=h;intro X D;show mX (Zk<|Zm<|Zb Zg<|Zb Zg<|Zb Zg<|Zb Zg Za) #[mY,k]
def WN:T.cL.O P w mg mM 1 (yl λx=>[("a","b"),("c","d")]):=by
 refine T.cL.F.okA ?_;rfl'
 ·obtain⟨v,x,rfl,k⟩:=h;intro X D;show mX (Zk<|Zm<|Zb (Zi<|Zb Zg<|Zb Zg Za)<|Zb (Zi<|Zb Zg<|Zb Zg Za) Za) #[mY,λu i r g q=>#[mY,λp e y d o=>#[mY,λn l z c j=>k n l (r.trans<|y.trans z) #[[u,p],j,.cons (z.at<|y.at q)<|.cons (z.at o) .nil]]]]
def Zmb:T.cM.O P w mg mM 1 (zW false):=by
 refine T.cM.F.okA ?_;rfl'
 ·obtain⟨v,rfl,k⟩:=h;intro X D;show mX (Zk rC) k
def X8.ends{T:Tx K mg}{k:lY}{C:lZ}(h:X8 T k C):∃f fd,Y3 K C "ends" f/\qG K fd ["self"] []/\∀(P:mn)(w:mj)(mM:mi)(j:Nat),1<=j->Xm P w K mg mM ph j f fd ["self"] (vC<|(Yq k).map V.str):=by
 rcases h with⟨rfl,rfl⟩|⟨rfl,rfl⟩|⟨rfl,rfl⟩|⟨rfl,rfl⟩|⟨rfl,rfl|rfl⟩
 ·show#[_,_,T.ge,T.cK.b,λP w mM j z=>(VH T).mono z]
 ·show#[_,_,T.gL,T.cU.b,λP w mM j z=>(Zne T).mono z]
 ·show#[_,_,T.gZ,T.cy.b,λP w mM j z=>(Nd T).mono z]
 ·show#[_,_,T.gX,T.cy.b,λP w mM j z=>(Nd T).mono z]
 ·show#[_,_,T.gV,T.cx.b,λP w mM j z=>(Qy T).mono z]
 ·show#[_,_,T.gD,T.cx.b,λP w mM j z=>(Qy T).mono z]
def X8.lies{T:Tx K mg}{k:lY}{C:lZ}(h:X8 T k C):∃f fd,Y3 K C "lies" f/\qG K fd ["self"] []/\∀(P:mn)(w:mj)(mM:mi)(j:Nat),1<=j->Xm P w K mg mM ph j f fd ["self"] (vC<|(vm k).map V.str):=by
 rcases h with⟨rfl,rfl⟩|⟨rfl,rfl⟩|⟨rfl,rfl⟩|⟨rfl,rfl⟩|⟨rfl,rfl|rfl⟩
 ·show#[_,_,T.de,T.bI.b,λP w mM j z=>(Io T).mono z]
 ·show#[_,_,T.gM,T.aJ.b,λP w mM j z=>(zq T).mono z]
 ·show#[_,_,T.hU,T.aJ.b,λP w mM j z=>(zq T).mono z]
 ·show#[_,_,T.gY,T.aJ.b,λP w mM j z=>(zq T).mono z]
 ·show#[_,_,T.gW,T.aJ.b,λP w mM j z=>(zq T).mono z]
 ·show#[_,_,T.gE,T.aJ.b,λP w mM j z=>(zq T).mono z]
def X8.pairs{T:Tx K mg}{k:lY}{C:lZ}(h:X8 T k C):∃f fd,Y3 K C "pairs" f/\qG K fd ["self","lie"] []/\∀(P:mn)(w:mj)(mM:mi)(j:Nat),1<=j->Xm P w K mg mM ph j f fd ["self","lie"] (yl<|Ck k):=by
 rcases h with⟨rfl,rfl⟩|⟨rfl,rfl⟩|⟨rfl,rfl⟩|⟨rfl,rfl⟩|⟨rfl,rfl|rfl⟩
 ·show#[_,_,T.fO,T.cA.b,λP w mM j z=>(Su T).mono z]
 ·show#[_,_,T.gf,T.cL.b,λP w mM j z=>(WN T).mono z]
 ·show#[_,_,T.gI,T.ci.b,λP w mM j z=>(PL T).mono z]
 ·show#[_,_,T.gF,T.ci.b,λP w mM j z=>(PL T).mono z]
 ·show#[_,_,T.gA,T.bY.b,λP w mM j z=>(QA T).mono z]
 ·show#[_,_,T.fY,T.bY.b,λP w mM j z=>(QA T).mono z]
def X8.bears{T:Tx K mg}{k:lY}{C:lZ}(h:X8 T k C):∃f fd,Y3 K C "bears" f/\qG K fd ["self"] []/\∀(P:mn)(w:mj)(mM:mi)(j:Nat),1<=j->Xm P w K mg mM ph j f fd ["self"] (zW<|Ft k):=by
 rcases h with⟨rfl,rfl⟩|⟨rfl,rfl⟩|⟨rfl,rfl⟩|⟨rfl,rfl⟩|⟨rfl,rfl|rfl⟩
 ·show#[_,_,T.fP,T.cD.b,λP w mM j z=>(TM T).mono z]
 ·show#[_,_,T.gh,T.cM.b,λP w mM j z=>(Zmb T).mono z]
 ·show#[_,_,T.gJ,T.aM.b,λP w mM j z=>(DK T).mono z]
 ·show#[_,_,T.gG,T.aM.b,λP w mM j z=>(DK T).mono z]
 ·show#[_,_,T.gB,T.aM.b,λP w mM j z=>(DK T).mono z]
 ·show#[_,_,T.fZ,T.aM.b,λP w mM j z=>(DK T).mono z]
def X8.cls{T:Tx K mg}{k:lY}{C:lZ}(h:X8 T k C):pN K C/\nq K C "name"/\Y3 K C "leads" T.aL.f:=by
 rcases h with⟨rfl,rfl⟩|⟨rfl,rfl⟩|⟨rfl,rfl⟩|⟨rfl,rfl⟩|⟨rfl,rfl|rfl⟩
 ·show#[T.cW,T.eJ,T.fQ]
 ·show#[T.eK,T.fi,T.gi]
 ·show#[T.fM,T.fN,T.gK]
 ·show#[T.fK,T.fL,T.gH]
 ·show#[T.gz,T.ic,T.gC]
 ·show#[T.eI,T.fh,T.gc]
def X8.stop{T:Tx K mg}{k:lY}{C x:lZ}{nm:lY}{H:Hp}(h:X8 T k C)(o:qv H C x nm):∃t,Xx K H (.ref x) t/\kitOne K t (.ref T.bx)=some (decide<|k ="gate"\/k ="stop"):=by
 obtain⟨z,o⟩:=o;rcases h with⟨rfl,rfl⟩|⟨rfl,rfl⟩|⟨rfl,rfl⟩|⟨rfl,rfl⟩|⟨rfl,rfl|rfl⟩
 ·show#[_,Xx.ins o T.cW T.fW T.tG T.tK T.fX,T.iV]
 ·show#[_,Xx.ins o T.eK T.gS T.tG T.tK T.gT,T.jq]
 ·show#[_,Xx.ins o T.fM T.io T.tG T.tK T.ip,T.jM]
 ·show#[_,Xx.ins o T.fK T.ik T.tG T.tK T.il,T.jL]
 ·show#[_,Xx.ins o T.gz T.ii T.tG T.tK T.ij,T.jK]
 ·show#[_,Xx.ins o T.eI T.gQ T.tG T.tK T.gR,T.jp]
inductive LW:Sp
 | mk (k a C nm e l):vs=[.ref a,.str e,.str l]->X8 T k C->qv H C a nm->(∀H',mK H H'->Q (.str<|vU k e l) H')->LW vs H Q E
def Zno:T.aL.O P w mg mM 2 (LW T):=by
 refine T.aL.F.okW FE ?_;rfl'
 ·obtain⟨k,a,C,nm,e,l,rfl,g,⟨z,U⟩,q⟩:=h;intro X D;obtain⟨z,y,B,b1,g1⟩:=g.lies;obtain⟨z,y,m2,b2,g2⟩:=g.pairs;have N:=g.cls.1;refine mW (Zt (tI hr (pv 2) zX) Zo Zl)<|rM (Yk (pv 0) N B (g1 _ _ _ 1<|by lk) hr b1 .nil Z0) #[U,rfl,_,rfl,λp H1 n y z=>.inl #[.inl<|mZ z,rfl,Xg _,?_]];rw[nj rfl,X1];refine Yl (λu=>?_) λu=>?_
  ·have u:¬l∈vm k:=by simpa using u
   refine mX (Zk Zg) ?_;have:vU k e l ="":=by unfold vU;rw[ng u]
   rw[this]at q;show q H1 n
  ·have u:l∈vm k:=by simpa using u
   refine mW (Xk pM rfl (Yi zX) (tD rfl<|Zu (oE 3 FE)<|Zu (oE 4 FE) Y8) Zo)<|rM (Yf (pv 0) N m2 (g2 _ _ _ 1<|by lk) hr b2 .nil Z0<|Zb (pv 2) Za) #[n.at U,rfl,_,l,rfl,λy H2 d e2=>?_];obtain⟨M,L,J⟩:=e2;let c:IF:=λi z j=>(∃I G,z=[some (.ref a),some<|.str e,some<|.str l,I,G])/\mK H2 j/\yQ e ((Ck k l).drop i)=vU k e l
   refine#[mZ L,Wp (xs:=M.map V.ref) c ?_ ?_ ?_ ?_]
   ·refine#[#[none,none,rfl],qy _,?_];unfold vU;rw[nj u]
    rfl
   ·rintro i z j _ ⟨_,p,_⟩;show mZ<|p.at L
   ·rintro i x z j C ⟨⟨I,G,rfl⟩,p,r⟩;rw[nU]at C;obtain⟨y,Y,rfl⟩:=oo.mp C;obtain⟨⟨one,two⟩,hq,ht⟩:=pE J Y;rw[FN hq]at r;refine#[nw<|p.at ht,rfl,rfl,?_];refine mW (Zt (Wu hr (pv 1)<|pv 3) Zo Zl)<|.inl #[rfl,Yl (λu=>?_) λu=>?_]
    ·have u:e=one:=V.str.inj<|pL u;refine mX (Zk<|pv 4) ?_;unfold yQ at r;rw[nj u]at r;rw[<-r]at q;show q _<|n.trans<|d.trans p
    ·have u:¬e=one:=λy=>u (og<|by rw[y])
     refine mX (Zt (Wu hr (pv 1)<|pv 4) Zo Zl)<|.inl #[rfl,Yl (λo=>?_) λo=>?_]
     ·have o:e=two:=V.str.inj<|pL o;refine mX (Zk<|pv 3) ?_;unfold yQ at r;rw[ng u,nj o]at r;rw[<-r]at q;show q _<|n.trans<|d.trans p
     ·have o:¬e=two:=λy=>o (og<|by rw[y])
      unfold yQ at r;rw[ng u,ng o]at r;show#[#[_,_,rfl],p,r]
   ·rintro z j ⟨_,p,r⟩;refine mX (Zk Zg) ?_;have y:(Ck k l).drop (M.map V.ref).length=[]:=by rw[mV,nW J,Eg]
    rw[y]at r;rw[<-r]at q;show q _<|n.trans<|d.trans p
def _root_.L2.mK.upd0(s:mK H z)(n:H d=none):mK H (mT z d o):=λb u e=>by rw[Zd (Ze e n)];show s.at e
def PO(H:Hp)(x:lZ)(p:Zh):Prop:=∃C,X8 T p.1 C/\qv H C x p.2
def PO.mono(e:mK H z)(h:PO U H x p):PO U z x p:=let⟨C,y,u⟩:=h;#[C,y,u.mono e]
inductive NR:Sp
 | mk (l) (xs:lX lZ) (ps:lX Zh):vs=[.ref l]->H l=some (.lst<|xs.map V.ref)->Paired (PO T H) xs ps->(ps.map snd).Nodup->(∀p∈ps,Xf p.2)->ps.length<=100->(∀(d:lZ)(kvs:lX (nI×V)) (H':Hp),mK H H'->H d=none->H' d=some (.dK kvs)->DP Xn (RP T H) kvs (qP ps)->Q (.ref d) H')->NR vs H Q E
def Zi8:T.dm.O P w mg mM 3 (NR T):=by
 refine T.dm.F.okW Ir ?_;rfl'
 ·obtain⟨l,xs,j,rfl,N,M,nd,nm,len,q⟩:=h;intro X D;have e:=nW M;refine mW (nG 1 Ir Wf) λd H1 L J e1=>?_
  let c:IF:=λi z a=>(∃o,z=[some (.ref l),some<|.ref d,o])/\mK H a/\∃y,a d=some (.dK y)/\DP Xn (RP T H) y (qP<|j.take i)
  refine mW (Xk pM rfl (Yi<|pv 0) (oE 2 Ir) Zo) #[mZ<|L.at N,Wp (K:=K) (xs:=xs.map V.ref) c #[#[none,rfl],L,[],e1,.nil] ?_ ?_ ?_]
  ·rintro i z a _ ⟨_,u,_⟩;show mZ<|u.at N
  ·rintro i v z I G ⟨⟨o,rfl⟩,u,y,hd,r⟩;rw[nU]at G;obtain⟨x,Y,rfl⟩:=oo.mp G;obtain⟨p,g,C,n,dx,U⟩:=pE M Y;have hm:p∈j:=pi g;have D5:=(pz.mp g).1;have B:Xe y (Xn p.2)=none:=r.none xL (by
    rw[GJ,wc];show DN nd<|by rw[nU,g];rfl)
   have hkl:y.length<=100:=by
    have:=r.len;unfold qP at this;rw[mV,oF]at this;lia
   refine mW (Z1<|Zx (Fc T) hr<|Zb (Z8 (pv 2) rfl)<|Zb (pv 1) Za) #[u.at U,n.cls.1,n.cls.2.1,rfl,p.2,d,y,rfl,nm p hm,hd,B,λH3 s3=>?_];have x9:=u.trans s3;refine mX (tS (Xv hr) (pv 1) (Z8 (pv 2) rfl) (pv 2) rfl) #[x9.at U,n.cls.1,n.cls.2.1,rfl,qL.k (k:=Xn p.2) (s3.at hd) (Zp<|by lia),#[_,rfl],x9.upd0 J,_,Zc,?_];have:qP (j.take<|i+1)=qP (j.take i)++[(p.2,p.1)]:=by
    unfold qP;rw[oH,g,nJ]
    rfl
   rw[this];show r.put B #[x,C,rfl,n,dx,U]
  ·rintro z I ⟨⟨o,rfl⟩,u,y,hd,r⟩;rw[mV,e,pD]at r;show mX (Zk<|pv 1)<|q d y I u J hd r
def _root_.L2.mK.frz(s:mK H y):mK (mT H d u) (mT y d u):=λb o e=>by
 by_cases z:b=d
 ·rw[z,Zc]at e ⊢;show e
 ·rw[Zd z]at e ⊢;show s.at e
inductive Me:Sp
 | mk (d kvs) (ps:lX Zh):vs=[.ref d]->H d=some (.dK kvs)->DP Xn (RP T H) kvs (qP ps)->(ps.map snd).Nodup->ps.length<=100->(∀(a:lZ)(ka:lX (lX nI×V)) (H':Hp),mK H H'->H a=none->H' a=some (.dT ka)->DP Y9 (RA T H) ka (qA ps)->Q (.ref a) H')->Me vs H Q E
def MP(ps:lX Zh):(qA ps).length<=4 * ps.length:=by
 induction ps with
 | nil=>decide
 | cons p ps z =>
  have:=Di p.1;have e:qA (p ::ps)=(Yq p.1).map (λe=>((p.2,e),p.1))++qA ps:=rfl;rw[e,oj,mV,pJ];lia
def MZ{ps:lX Zh}{i:Nat}{p:Zh}(h:ps[i]? =some p):qA (ps.take<|i+1)=qA (ps.take i)++(Yq p.1).map λe=>((p.2,e),p.1):=by
 unfold qA;rw[oH,h,zi];simp
def Ziw:T.dq.O P w mg mM 2 (Me T):=by
 refine T.dq.F.okW X3 ?_;rfl'
 ·obtain⟨d,n,L,rfl,hd,hD,nd,len,q⟩:=h;intro X D;have hkl:n.length=L.length:=by have:=hD.len;unfold qP at this;rw[mV]at this;show this
  refine mW (nG 1 X3 QG) λa H1 s1 B e1=>?_
  have U:a≠d:=λy=>by rw[y,hd]at B;cases B
  refine mW (Pi<|Xk pM rfl (zZ<|pv 0) (tD rfl<|Zu (oE 2 X3)<|Zu (oE 3 X3) Y8) Zo) #[s1.at hd,λo nf=>KP (λi z Y=>(∃o2 o3 N,z=[some (.ref d),some<|.ref a,o2,o3,N])/\mK (mT H d<|.frz o<|.dK n) Y/\∃l,Y a=some (.dT l)/\DP Y9 (RA T H) l (qA<|L.take i)) #[#[none,none,none,rfl],s1.frz,[],by rw[Zd U];show e1,.nil] ?_ ?_ ?_]
  ·rintro i z Y _ ⟨_,J,_⟩;show J.at Zc
  ·rintro i kv z H2 hi ⟨⟨o2,o3,N,rfl⟩,J,l,ha,hA⟩ tp H3 s3 n3 e3;obtain⟨⟨nm,u⟩,hq,hk,x,C,hv,hC,dx,hO⟩:=pE hD hi;have I:L[i]? =some (u,nm):=by
    unfold qP at hq;rw[nU]at hq;obtain⟨⟨p,p2⟩,I,e⟩:=oo.mp hq;rw[I];simp only[yz]at e;rw[e.1,e.2]
   have D5:=(pz.mp I).1;have hxd:x≠d:=λy=>by rw[y,hd]at hO;cases hO
   have hOF:mT H d (.frz o<|.dK n) x=some (.ins C dx [("name",.str nm)]):=by rw[Zd hxd];show hO
   obtain⟨p,d1,m1,b1,g1⟩:=hC.ends;have hk:kv.1=Sum.inr nm:=hk;rw[hk,hv]at e3;have hFa:mT H d (.frz o<|.dK n) a=none:=by rw[Zd U];show B
   refine#[nw e3,rfl,rfl,?_];have G:=J.trans s3;refine mX (Xk pM rfl (Yi zX) (oE 4 X3) Zo)<|rM (Yk (pv 3) hC.cls.1 m1 (g1 _ _ _ 1<|by lk) hr b1 .nil Z0) #[G.at hOF,rfl,_,rfl,λp H4 s4 n4 e4=>#[mZ e4,Wp (K:=K) (xs:=(Yq u).map V.str) (λj z Y=>(∃N,z=[some (.ref d),some<|.ref a,some<|.str nm,some<|.ref x,N])/\mK (mT H d<|.frz o<|.dK n) Y/\Y p=some (.lst<|(Yq u).map V.str)/\∃l,Y a=some (.dT l)/\DP Y9 (RA T H) l (qA (L.take i)++((Yq u).take j).map λe=>((nm,e),u))) #[#[_,rfl],G.trans s4,e4,l,s4.at<|s3.at ha,by rw[List.take_zero,uS,pO];show hA] ?_ ?_ ?_]]
   ·rintro j z Y _ ⟨_,_,y,_⟩;show mZ y
   ·rintro j v z H5 hj ⟨⟨N,rfl⟩,s5,M,g,c,r⟩;rw[nU]at hj;obtain⟨e,he,rfl⟩:=oo.mp hj;have hlen5:g.length<=500:=by
     have p:=r.len;have h2:=MP<|L.take i;have h3:=Di u;rw[oj,mV,oF]at p;rw[oF]at h2;lia
    have N8:Xe g (Y9 (nm,e))=none:=r.none W5 (by
     have p:(Yt<|L.take<|i+1).Nodup:=yY (by rw[wc];show nd.sublist<|List.take_sublist _ _);rw[<-Du,MZ I,nJ]at p;rw[nJ];have ed:Yq u=(Yq u).take j++(e ::(Yq u).drop (j+1)):=by rw[<-FN he,xG]
     rw[show((u,nm):Zh).1=u from rfl,ed,nJ,nJ,oq,oq,<-pp,qu]at p;intro m;show p.2.2 _ m _ oN rfl)
    refine mX (tS (Xv hr) (pv 1) (Zi<|Zb (pv 2)<|Zb (pv 4) Za) (pv 3) rfl) #[mY,λt H6 s6 n6 e6=>#[qL.t (k:=Y9 (nm,e)) (s6.at c) e6 (Zp<|by lia),#[_,rfl],(s5.trans s6).upd0 hFa,?_,_,Zc,?_]]
    ·rw[Zd (Nz M c (λy=>nomatch y))];show s6.at M
    ·have:((Yq u).take (j+1)).map (λe=>((nm,e),u))=((Yq u).take j).map (λe=>((nm,e),u))++[((nm,e),u)]:=by
      rw[oH,he,nJ]
      rfl
     rw[this,<-pp];show r.put N8 #[x,C,rfl,hC,dx,hO]
   ·rintro z H5 ⟨⟨N,rfl⟩,s5,M,g,c,r⟩;rw[mV,pD]at r;refine#[#[_,_,_,rfl],s5,g,c,?_];rw[MZ I];show r
  ·rintro z H2 ⟨⟨o2,o3,N,rfl⟩,J,l,ha,hA⟩;rw[hkl,pD]at hA;refine#[d,o,_,J.at Zc,nf,mX (Zk<|pv 1)<|q a l _ (J.thaw hd) B ?_ hA];rw[Zd U];show ha
inductive NV:Sp
 | mk (t u v):vs=[.ref t]->H t=some (.tup [u,v])->Q (.bl true) H->NV  vs H Q E
def Jn:T.gm.O P w mg mM 1 NV:=by
 refine T.gm.F.okA ?_;rfl'
 ·obtain⟨t,u,v,rfl,z,q⟩:=h;intro X D;show mX (Zk<|vQ (vZ "tuple" T.ak T.iu MB<|pv 0)<|wG<|sj hr (pI T.bh<|pv 0) Zf) #[Xx.tup z,.inl<|qf rfl T.ki,(.inl #[.inr<|nw z,.inl #[rfl,q]])]
inductive IZ:Sp
 | mk (t d e kvs):vs=[.ref t,.ref d]->Zs H t e->H d=some (.dT kvs)->Q (.bl (Xe kvs<|Y9 e).isSome) H->IZ  vs H Q E
def zl:T.fz.O P w mg mM 2 IZ:=by
 refine T.fz.F.okA ?_;rfl'
 ·obtain⟨t,d,e,y,rfl,z,hd,q⟩:=h;intro X D;show mX (Zk<|vQ (Zx (Jn T) hr<|Zb (pv 0) Za)<|vQ (vZ "str" T.ak T.fk wx<|nQ (pv 0) Zf)<|vQ (vZ "str" T.ak T.fk wx<|nQ (pv 0) Zf)<|wG<|OV hr (pv 0)<|pv 1) #[t,_,_,rfl,z,(.inr<|.inl #[nw z,Zq (j:=0) rfl,Xx.str _,.inl<|qf rfl T.ke,(.inr<|.inl #[nw z,Zq (j:=1) rfl,Xx.str _,.inl<|qf rfl T.ke,(.inr<|.inl #[d,_,rfl,Wc.t (k:=Y9 e) hd z,q])])])]
inductive Nh:Sp
 | mk (t pa d a b) (e1 e2:Zh) (ka kd):vs=[.ref t,.ref pa,.ref d]->H t=some (.tup [.ref a,.ref b])->Zs H a e1->Zs H b e2->H pa=some (.dT ka)->H d=some (.dT kd)->(Xe ka<|Y9 e1).isSome=true->(Xe ka<|Y9 e2).isSome=true->Xe kd (Y9 e1)=none->Xe kd (Y9 e2)=none->e1.1≠e2.1->Q .non H->Nh  vs H Q E
def UC:T.dO.O P w mg mM 3 Nh:=by
 refine T.dO.F.okW IW ?_;rfl'
 ·obtain⟨t,c,d,a,b,L,J,Y,I,rfl,u,U,N,n,hd,G,C,B,n2,ne,q⟩:=h;intro X D;refine mW (Zt (rO<|Y7<|Zx (Jn T) hr<|Zb (pv 0) Za) Zo Zl) #[t,_,_,rfl,u,?_];let l:IF:=λi z p=>(∃o,z=[some (.ref t),some<|.ref c,some<|.ref d,o])/\p=H
  refine mW (Xk pM rfl (zH<|pv 0) (oE 3 IW) Zo) #[nw u,LR (K:=K) (xs:=[.ref a,.ref b]) l #[#[none,rfl],rfl] ?_ ?_ ?_]
  ·rintro i z p _ ⟨_,rfl⟩;show nw u
  ·rintro i v z p r ⟨⟨o,rfl⟩,g⟩;rw[g];obtain⟨x,e,rfl,M,h1,h2⟩:∃x e,v=V.ref x/\Zs H x e/\(Xe Y<|Y9 e).isSome=true/\Xe I (Y9 e)=none:=by
    match i,r with
    | 0,r=>cases r;show#[a,L,rfl,U,G,B]
    | 1,r=>cases r;show#[b,J,rfl,N,C,n2]
   refine mW (Zt (rO<|Y7<|Zx (zl T) hr<|Zb (pv 3)<|Zb (pv 1) Za) Zo Zl) #[x,c,e,Y,rfl,M,n,Yl (λy=>?_) λ_=>?_]
   ·rw[h1]at y;show absurd y (by lk)
   refine mX (Zt (wJ hr (pv 3)<|pv 2) Zo Zl)<|.inr<|.inl #[d,_,rfl,Wc.t (k:=Y9 e) hd M,Yl (λy=>?_) λ_=>#[#[_,rfl],rfl]];rw[h2]at y;show absurd y (by lk)
  ·rintro z p ⟨⟨o,rfl⟩,g⟩;rw[g];refine mX (Zt (Wu hr (nQ (nQ (pv 0) Zf) Zf)<|nQ (nQ (pv 0) Zf) Zf) Zo Zl)<|.inr<|.inl #[nw u,Zq (j:=0) rfl,.inr<|.inl #[nw U,Zq (j:=0) rfl,.inr<|.inl #[nw u,Zq (j:=1) rfl,.inr<|.inl #[nw N,Zq (j:=0) rfl,.inl #[rfl,Yl (λy=>?_) λ_=>q]]]]];show absurd (V.str.inj<|pL y) ne
inductive Ly:Sp
 | mk (jl pa) (js:lX (Zh×Zh)) (ka:lX (lX nI×V)):vs=[.ref jl,.ref pa]->Yp H jl js->H pa=some (.dT ka)->(∀e∈Xp js,(Xe ka<|Y9 e).isSome=true)->ka.length=(Xp js).length->(Xp js).Nodup->(∀j∈js,j.1.1≠j.2.1)->js.length<=300->(∀(d:lZ)(kj:lX (lX nI×V)) (H':Hp),mK H H'->H d=none->H' d=some (.dT kj)->DP Y9 (RJ H) kj (qJ js)->Q (.ref d) H')->Ly  vs H Q E
def NP{z:lX (Zh×Zh)}{i:Nat}{j:Zh×Zh}(h:z[i]? =some j):qJ (z.take<|i+1)=qJ (z.take i)++[(j.1,j.2)]++[(j.2,j.1)]:=by
 unfold qJ;rw[oH,h,zi];simp
def Ph(z:lX (Zh×Zh)):(qJ z).length=2 * z.length:=by
 induction z with
 | nil=>rfl
 | cons j z y =>
  have e:qJ (j ::z)=[(j.1,j.2),(j.2,j.1)]++qJ z:=rfl;rw[e,oj,y];simp only[pJ,CL];lia
def UY:T.dP.O P w mg mM 4 Ly:=by
 refine T.dP.F.okW Ew ?_;rfl'
 ·obtain⟨jl,L,p,U,rfl,hJ,g,hk,J,nd,apart,len,q⟩:=h;intro X D;obtain⟨ts,hl,u0⟩:=hJ;have M6:=nW u0;refine mW (nG 2 Ew QG) λd H1 s1 I e1=>?_
  let G:IF:=λi z C=>(∃o,z=[some (.ref jl),some<|.ref L,some<|.ref d,o])/\mK H C/\∃x,C d=some (.dT x)/\DP Y9 (RJ H) x (qJ<|p.take i)
  refine mW (Xk pM rfl (Yi<|pv 0) (oE 3 Ew) Zo) #[mZ<|s1.at hl,Wp (K:=K) (xs:=ts.map V.ref) G #[#[none,rfl],s1,[],e1,.nil] ?_ ?_ ?_]
  ·rintro i z C _ ⟨_,u,_⟩;show mZ<|u.at hl
  ·rintro i v z B hi ⟨⟨o,rfl⟩,u,x,hd,n⟩;rw[nU]at hi;obtain⟨t,T9,rfl⟩:=oo.mp hi;obtain⟨j,N,a,b,e,ha,hb⟩:=pE u0 T9;have hm:j∈p:=pi N;have D5:=(pz.mp N).1;have m1:j.1∈Xp p:=vI.mpr #[j,hm,by simp];have m2:j.2∈Xp p:=vI.mpr #[j,hm,by simp];have g8:x.length<=600:=by
    have l:=n.len;rw[Ph,oF]at l;lia
   have O4:(Xp (p.take i)++[j.1]++[j.2]).Nodup:=by
    have l:(Xp<|p.take<|i+1).Nodup:=nd.sublist (by
     have:Xp p=Xp (p.take<|i+1)++Xp (p.drop<|i+1):=by rw[<-zB,xG]
     rw[this];show IV _ _)
    rw[<-uJ,NP N,nJ,nJ,uJ]at l;show l
   have nd1:j.1∉Xp (p.take i):=λy=>(qu.mp (qu.mp O4).1).2.2 _ y _ oN rfl
   have c:j.2∉Xp (p.take i)++[j.1]:=λy=>(qu.mp O4).2.2 _ y _ oN rfl
   have v1:Xe x (Y9 j.1)=none:=n.none W5 (by rw[uJ];show nd1);have v2:Xe x (Y9 j.2)=none:=n.none W5 (by rw[uJ];show λy=>c<|zM _ y);refine mW (Z1<|Zx (UC T) hr<|Zb (pv 3)<|Zb (pv 1)<|Zb (pv 2) Za) #[t,L,d,a,b,j.1,j.2,U,x,rfl,u.at e,ha.mono u,hb.mono u,u.at g,hd,hk _ m1,hk _ m2,v1,v2,apart j hm,?_];have Y:DP Y9 (RJ H) (Wj x (Y9 j.1)<|.ref b) (qJ (p.take i)++[(j.1,j.2)]):=n.put v1 #[b,rfl,hb];have R9:=BZ x (Y9 j.1)<|.ref b;have v3:Xe (Wj x (Y9 j.1)<|.ref b) (Y9 j.2)=none:=Y.none W5 (by rw[nJ,uJ];show c);refine mW (tS (Xv hr) (pv 2) (nQ (pv 3) Zf) (nQ (pv 3) Zf) rfl)<|.inr<|.inl #[nw<|u.at e,Zq (j:=1) rfl,.inr<|.inl #[nw<|u.at e,Zq (j:=0) rfl,qL.t (k:=Y9 j.1) hd (Qx<|ha.mono u) (Zp<|by lia),?_]];have M:mK H (mT B d<|.dT<|Wj x (Y9 j.1)<|.ref b):=u.upd0 I;refine mX (tS (Xv hr) (pv 2) (nQ (pv 3) Zf) (nQ (pv 3) Zf) rfl)<|.inr<|.inl #[nw<|M.at e,Zq (j:=0) rfl,.inr<|.inl #[nw<|M.at e,Zq (j:=1) rfl,qL.t (k:=Y9 j.2) Zc (Qx<|hb.mono M) (Zp<|by lia),#[_,rfl],M.upd0 I,_,Zc,?_]];rw[NP N];show Y.put v3 #[a,rfl,ha]
  ·rintro z B ⟨⟨o,rfl⟩,u,x,hd,n⟩;rw[mV,M6,pD]at n;have j:x.length=U.length:=by
    have l:=n.len;rw[J,l,<-uJ,mV]
   refine mW (Zt (Yd xf (Z6 (r:=EN) OF (by rfl) T.bh EU<|Zb (pv 2) Za) (Z6 (r:=EN) OF (by rfl) T.bh EU<|Zb (pv 1) Za)<|Yo _) Zo Zl) #[d,x,rfl,hd,L,U,rfl,u.at g,Yl (λy=>?_) λ_=>?_]
   ·have:(x.length:Int)<(U.length:Int):=pL y;show absurd this (by lia)
   show mX (Zk<|pv 2)<|q d x B u I hd n
inductive Ld:Sp
 | mk (t pa l x C e k nm ka) (us:lX lZ) (es):vs=[.ref t,.ref pa,.ref l]->Zs H t e->H pa=some (.dT ka)->Xe ka (Y9 e)=some (.ref x)->X8 T k C->qv H C x nm->Ft k=true->H l=some (.lst<|us.map V.ref)->Paired (Zs H) us es->e∉es->Q .non H->Ld vs H Q E
def Yc9(h:pR a=pR b):a=b:=by
 obtain⟨z,y⟩:=a;obtain⟨z,y⟩:=b;unfold pR at h;simp only[Tr.tup.injEq,AU,Tr.str.injEq,and_true]at h;rw[h.1,h.2]
def VW:T.dQ.O P w mg mM 3 (Ld T):=by
 refine T.dQ.F.okA ?_;rfl'
 ·obtain⟨t,i,l,x,C,e,k,nm,g,d,p,rfl,r,y,o,j,⟨G,c⟩,a,Y,U,N,q⟩:=h;intro X D;obtain⟨x,G,M,L,J⟩:=j.bears;refine mW (Zt (rO<|Y7<|Zx (zl T) hr<|Zb (pv 0)<|Zb (pv 1) Za) Zo Zl) #[t,i,e,g,rfl,r,y,Yl (λz=>?_) λ_=>?_]
  ·rw[o]at z;show absurd z (by simp)
  refine mW (Zt (rO<|Y7 zX) Zo Zl)<|rM (Yk (vB (Xv hr) (pv 1) (pv 0) λ_ _=>rfl) j.cls.1 M (J _ _ _ 2<|by lk) hr L .nil Z0) #[by rw[<-o];show Wc.t (k:=Y9 e) y r,c,rfl,_,rfl,Yl (λz=>?_) λ_=>?_]
  ·rw[a]at z;show absurd z (by lk)
  refine mX (Zt (wJ hr (pv 0)<|pv 2) Zo Zl)<|.inr<|.inr<|.inr #[l,1,pR e,p.map pR,d,rfl,mZ Y,by lk,vt (n:=0) (nw r)<|.cons (.str _)<|.cons (.str _) .nil,LJ U,Yl (λz=>?_) λ_=>q];have z:pR e∈p.map pR:=pL z;obtain⟨x,u,I⟩:=nH.mp z;rw[Yc9 I]at u;show absurd u N
def Zs.offD(h:Zs H t q)(y:H c=some (.dK xs)):Zs (mT H c o) t q:=by
 unfold Zs at h ⊢;show(Zd λz=>by rw[z,y]at h;cases h).trans h
inductive OM:Sp
 | mk (sl pa) (ts:lX lZ) (sg:lX (lY×lY×lY)) (ka):vs=[.ref sl,.ref pa]->H sl=some (.lst<|ts.map V.ref)->Paired (zx H) ts sg->H pa=some (.dT ka)->(∀q∈sg,Xf q.1)->(sg.map fst).Nodup->(sg.map snd).Nodup->sg.length<=100->(∀q∈sg,∃x C k,Xe ka (Y9 (q.2.1,q.2.2))=some (.ref x)/\X8 T k C/\qv H C x q.2.1/\Ft k=true)->(∀(d:lZ)(ks:lX (nI×V)) (H':Hp),mK H H'->H d=none->H' d=some (.dK ks)->DP Xn (RS H') ks (qS sg)->Q (.ref d) H')->OM vs H Q E
def XM(h:DP Xn (RS H) z qs):∃us:lX lZ,z.map (λkv=>kv.2)=us.map V.ref/\Paired (Zs H) us (qs.map snd):=by
 unfold DP at h
 induction h with
 | nil=>show#[[],rfl,.nil]
 | cons r _ y =>
  obtain⟨us,x,u⟩:=y;obtain⟨_,t,s,q⟩:=r;show#[t ::us,by rw[oq,oq,x,s],.cons q u]
def Ry:T.fA.O P w mg mM 4 (OM T):=by
 refine T.fA.F.okW zu ?_;rfl'
 ·obtain⟨sl,pa,ts,o,ka,rfl,hl,u0,B,C5,nd,one,len,hk,q⟩:=h;intro X D;have M6:=nW u0;refine mW (nG 2 zu Wf) λd H1 s1 n1 e1=>?_
  let I16:IF:=λi z J=>(∃o3 o4 o5,z=[some (.ref sl),some<|.ref pa,some<|.ref d,o3,o4,o5])/\mK H J/\∃p,J d=some (.dK p)/\DP Xn (RS J) p (qS<|o.take i)
  refine mW (Xk pM rfl (Yi<|pv 0) (oE 3 zu) Zo) #[mZ<|s1.at hl,Wp (K:=K) (xs:=ts.map V.ref) I16 #[#[none,none,none,rfl],s1,[],e1,.nil] ?_ ?_ ?_]
  ·rintro i z J _ ⟨_,g,_⟩;show mZ<|g.at hl
  ·rintro i v z H2 hi ⟨⟨o3,o4,o5,rfl⟩,g,p,hd,a⟩;rw[nU]at hi;obtain⟨t,T9,rfl⟩:=oo.mp hi;obtain⟨⟨nm,e,Y⟩,N,I⟩:=pE u0 T9;have I:H t=some (.tup [.str nm,.str e,.str Y]):=I;have hm:((nm,e,Y):lY×lY×lY)∈o:=pi N;have D5:=(pz.mp N).1;obtain⟨x,C,k,hv,hC,hO,hb⟩:=hk _ hm;have g8:p.length<=100:=by
    have h1:=a.len;unfold qS at h1;rw[mV,oF]at h1;lia
   have hn:Xe p (Xn nm)=none:=a.none xL (by
    rw[QX,wc];show DN nd<|by rw[nU,N];rfl)
   have he:((e,Y):Zh)∉(qS<|o.take i).map snd:=by
    have:(qS<|o.take i).map snd=(o.map snd).take i:=by
     unfold qS;rw[oU,wc]
     rfl
    rw[this];show DN one (by rw[nU,N];rfl)
   refine mW (nG 4 zu<|nQ (pv 3) Zf)<|.inr<|.inl #[nw<|g.at I,Zq (j:=0) rfl,?_];refine mW (nG 5 zu<|Wm (r:=tT K) uA (pv 3) (tQ Zf) ut)<|.inl #[nw<|g.at I,(show ¬(HT.sIx 3 0 (some 1)=0/\HT.sIx 3 3 none=3) by lk),λG H3 M r e3=>?_];have x9:=g.trans M;have S1:Zs H3 G (e,Y):=e3;refine mW (Z1<|Zx (Fc T) hr<|Zb (pv 4)<|Zb (pv 2) Za) #[nm,d,p,rfl,C5 _ hm,M.at hd,hn,λH4 U=>?_];have y9:=x9.trans U;have L:DP Xn (RS H4) p (qS<|o.take i):=a.mapR λ_ _ _ y=>RS.mono (M.trans U) _ _ _ y
   obtain⟨us,v6,hup⟩:=XM L;refine mW (Z1<|Zx (VW T) hr<|Zb (pv 5)<|Zb (pv 1)<|Zb (XX rfl (by rfl) T.eU<|pv 2) Za) #[d,p,rfl,.inl<|U.at<|M.at hd,λl H5 n n5 e5=>#[G,pa,l,x,C,(e,Y),k,e,ka,us,_,rfl,(S1.mono U).mono n,(y9.trans n).at B,hv,hC,hO.mono<|y9.trans n,hb,by rw[<-v6];show e5,nX hup λ_ _ r=>r.mono n,he,?_]];have D6:=y9.trans n;have c:H5 d=some (.dK p):=n.at<|U.at<|M.at hd;refine mX (tS (Xv hr) (pv 2) (pv 4) (pv 5) rfl) #[qL.k (k:=Xn nm) c (Zp<|by lia),#[_,_,_,rfl],D6.upd0 n1,_,Zc,?_];have:qS (o.take<|i+1)=qS (o.take i)++[(nm,(e,Y))]:=by
    unfold qS;rw[oH,N,nJ]
    rfl
   rw[this];have E7:DP Xn (RS<|mT H5 d<|.dK<|Wj p (Xn nm)<|.ref G) p (qS<|o.take i):=L.mapR λ_ _ _ ⟨u,z1,z2⟩=>#[u,z1,(z2.mono n).offD c]
   show E7.put hn #[G,rfl,((S1.mono U).mono n).offD c]
  ·rintro z H2 ⟨⟨o3,o4,o5,rfl⟩,g,p,hd,a⟩;rw[mV,M6,pD]at a;show mX (Zk<|pv 2)<|q d p H2 g n1 hd a
structure Zz(T:Tx K mg)(H:Hp)(x:Addr)(ps:List Zh)(js:List (Zh×Zh))(sg:List (Str×Str×Str)):Prop where
 ex:∃(dx po jo so si:Addr)(kp ks:List (nI×V)) (kj ko:List (List nI×V)),H x=some (.ins T.aO dx [("part_of",.ref po),("joined",.ref jo),("post_of",.ref so),("signal_on",.ref si)])/\
  H po=some (.dK kp)/\DP Xn (RP T H) kp (qP ps)/\H jo=some (.dT kj)/\DP Y9 (RJ H) kj (qJ js)/\H so=some (.dK ks)/\DP Xn (RS H) ks (qS sg)/\H si=some (.dT ko)/\DP Y9 RO ko (qO sg)
def Zz.mono(e:mK H z)(h:Zz U H x ps y u):Zz U z x ps y u:=by
 obtain⟨s,r,q,p,o,n,l,j,i,g,d,c,a,Y,Q,N,M,L⟩:=h.ex;show#[s,r,q,p,o,n,l,j,i,e.at g,e.at d,c.mapR<|RP.mono e,e.at a,Y.mapR<|RJ.mono e,e.at Q,N.mapR<|RS.mono e,e.at M,L]
def pY(H:Hp)(x:lZ):Hp:=λb=>if b=x then none else H b
def FM :pY H x x=none:=nj rfl
def vp(h:H b=some o)(n:b≠x):pY H x b=some o:=(ng n).trans h
def sk :mK (pY H x) (mT H x o):=λb u e=>by
 unfold pY at e
 by_cases z:b=x
 ·rw[nj z]at e;cases e
 ·rw[ng z]at e;rw[Zd z];show e
def DR(s:mK G H)(n:G x=none):mK G (pY H x):=λb u e=>vp (s.at e)<|Ze e n
structure Y4(ps:List Zh)(js:List (Zh×Zh))(sg:List (Str×Str×Str)):Prop where
 net:Net ps js []
 len:ps.length<=40
 name:∀p∈ps,Xf p.2
 sigs:zo ps sg
def zD.v(h:zD ps z y):Y4 ps z y:=#[h.net,by have:=h.len;lia,λp x=>(h.name p x).nm.ok,h.sigsV]
def Tc(ps:lX Zh):(Yt ps).length<=4 * ps.length:=by rw[<-Du,mV];show MP ps
def _root_.YM.Net.flat(h:Net ps z []):(Xp z).Perm (Yt ps):=by
 have:=h.perm;rw[pO]at this;show this
def _root_.YM.Net.jlen(h:Net ps z [])(l:ps.length<=40):z.length<=300:=by
 have y:=h.flat.length_eq;have x:=Tc ps;rw[<-uJ,mV,Ph]at y;lia
def Yft(z:p∈ps)(y:e∈Yq p.1):((p.2,e),p.1)∈qA ps:=vI.mpr #[p,z,nH.mpr #[e,y,rfl]]
inductive Gx:Sp
 | mk (G x dx pl jl sl) (xs:lX lZ) (ps js sg):vs=[.ref x,.ref pl,.ref jl,.ref sl]->G x=none->mK G H->H x=some (.ins T.aO dx [])->G pl=some (.lst<|xs.map V.ref)->Paired (PO T G) xs ps->Yp G jl js->vc G sl sg->Y4 ps js sg->(∀H',mK G H'->Zz T H' x ps js sg->Q .non H')->Gx vs H Q E
def XO:T.bM.O P w mg mM 5 (Gx T):=by
 refine T.bM.F.okW Er ?_;rfl'
 ·obtain⟨G,x,dx,pl,jl,sl,J,ps,js,L,rfl,hGx,s0,hx,m9,hxs,y4,⟨ts,K5,u0⟩,j,q⟩:=h;intro X D;have hxl:=nW hxs;have M6:=nW u0;have U0:=j.len;have slen:=j.sigs.len;refine mW (nG 4 Er<|W6 (Yd zt (pv 3) sZ<|Yo _) (Zm Za)<|pv 3) #[rfl,?_];refine mW (Zt (sJ<|uF (Yd xw (pI T.bh<|pv 1) (AL (by rfl) T.gO)<|Yo _)<|vj<|Yd xw (pI T.bh<|pv 4) (AL (by rfl) T.fV)<|Yo _) Zo Zl)<|.inl #[.inl<|mZ<|s0.at m9,Yl (λz=>?_) λ_=>(.inl #[.inl<|mZ<|s0.at K5,Yl (λz=>?_) λ_=>?_])]
  ·have z:=pL z;rw[mV]at z;show absurd z (by lia)
  ·have z:=pL z;rw[mV]at z;show absurd z (by lia)
  refine mW (Wq (pv 0) (Zx (Zi8 T) hr<|Zb (pv 1) Za) rfl) #[pl,J,ps,rfl,s0.at m9,nX hxs λ_ _ r=>r.mono s0,j.net.nd,j.name,by lia,λpo kp H1 s1 m1 e1 dp=>#[s1.at hx,T.am,T.bA,by simp,?_]];have hpx:po≠x:=λz=>by rw[z,hx]at m1;cases m1
  have g1:mK G (pY H1 x):=DR (s0.trans s1) hGx;have dp1:DP Xn (RP T<|pY H1 x) kp (qP ps):=dp.mapR λa b v ⟨y,C,I,Y,dy,z3⟩=>#[y,C,I,Y,dy,vp (s1.at z3) λz=>by rw[z,hx]at z3;cases z3]
  have ep1:pY H1 x po=some (.dK kp):=vp e1 hpx;refine mW (nG 5 Er<|Zx (Ziw T) hr<|Zb (Z8 (pv 0) rfl) Za) #[Zc,T.am,T.bA,rfl,po,kp,ps,rfl,sk.at ep1,dp1.mapR<|RP.mono sk,j.net.nd,by lia,λpa ka H2 s2 l e2 da=>?_];have B:=s2.at Zc;have ep2:mK G H2:=(g1.trans sk).trans s2;have kaq:∀p∈ps,∀e∈Yq p.1,∃v,Xe ka (Y9 (p.2,e))=some v/\RA T _ (p.2,e) p.1 v:=λp hp e he=>da.get W5 (by rw[Du];show yY j.net.nd)<|Yft hp he
  refine mW (Wq (pv 0) (Zx (UY T) hr<|Zb (pv 2)<|Zb (pv 5) Za) rfl) #[jl,pa,js,ka,rfl,y4.mono ep2,e2,λe he=>?_,?_,?_,j.net.apart,j.net.jlen U0,λjo kj H3 s3 m3 e3 dj=>#[s3.at B,T.am,T.cF,(by change 1<1000;decide),?_]]
  ·have:=j.net.flat.mem_iff.mp he;obtain⟨p,hp,M⟩:=vI.mp this;obtain⟨e',l,rfl⟩:=nH.mp M;obtain⟨v,hv,_⟩:=kaq p hp e' l;rw[hv];rfl
  ·rw[j.net.flat.length_eq,<-Du,mV];show da.len
  ·show j.net.flat.nodup_iff.mpr<|yY j.net.nd
  have hjx:jo≠x:=λz=>by rw[z,B]at m3;cases m3
  have x9:mK (pY H1 x) (pY H3 x):=DR ((sk.trans s2).trans s3) FM;have ej3:pY H3 x jo=some (.dT kj):=vp e3 hjx;have hpax:pa≠x:=λz=>by rw[z,B]at e2;cases e2
  have epa:pY H3 x pa=some (.dT ka):=vp (s3.at e2) hpax;have dj3:DP Y9 (RJ<|pY H3 x) kj (qJ js):=dj.mapR λa b v ⟨u,I,Y⟩=>#[u,I,vp (s3.at Y) λz=>by rw[z]at Y;show nomatch B.symm.trans Y]
  have g3:mK G (pY H3 x):=g1.trans x9;refine mW (Wq (pv 0) (Zx (Ry T) hr<|Zb (pv 4)<|Zb (pv 5) Za) rfl) #[sl,pa,ts,L,ka,rfl,sk.at<|g3.at K5,nX u0 λ_ _ r=>(g3.trans sk).at r,sk.at epa,j.sigs.name,j.sigs.nd,j.sigs.one,by lia,λg hg=>?_,λU ks H4 s4 m4 e4 ds=>#[s4.at Zc,T.am,T.bF,(by change 2<1000;decide),?_]]
  ·obtain⟨p,hp,h1,h2,h3⟩:=j.sigs.at_ g hg;obtain⟨v,hv,y,C,rfl,hC,dy,l⟩:=kaq p hp g.2.2 h3;refine#[y,C,p.1,by rw[<-h1];show hv,hC,#[dy,?_],og h2];have M:y≠x:=λz=>by rw[z,Zc]at l;cases l
   rw[Zd M,<-h1];show s3.at<|s2.at l
  have hsx:U≠x:=λz=>by rw[z,Zc]at m4;cases m4
  have hx4:=s4.at<|Zc (H:=H3) (a:=x);have s34:mK (pY H3 x) (pY H4 x):=DR (sk.trans s4) FM;have es4:pY H4 x U=some (.dK ks):=vp e4 hsx;have ds4:DP Xn (RS<|pY H4 x) ks (qS L):=ds.mapR λa b v ⟨u,I,Y⟩=>#[u,I,vp Y λz=>by rw[z]at Y;show nomatch hx4.symm.trans Y]
  refine mX (Wq (pv 0) (Yw (r:=Jy) (Zub rfl hr.units) (by rfl) T.ei wR<|Zb (GH<|pT ["name","end"] (pr 2 [] rfl) (zZ<|Z8 (pv 0) rfl) (vX (K:=K) (n:=2) rfl rfl<|Zu (oJ 0)<|Zu (oJ 1) Y8) Wi (Zi<|Zb (pv 1)<|Zb (pv 0) Za)) Za) rfl) #[Zc,T.am,T.bF,rfl,sk.at es4,λo nf D hD=>Ij (λi ys H'=>mK (mT (mT H4 x<|.ins T.aO dx [("part_of",.ref po),("joined",.ref jo),("post_of",.ref U)]) U<|.frz o<|.dK ks) H'/\H' D=some (.lst ys)/\∃d:lX lZ,ys=d.map V.ref/\Paired (λt (q:lX nI×V)=>∃a,H' t=some (.tup [.ref a,q.2])/\H' a=some (.tup<|q.1.map kV)) d ((qO<|L.take i).map λq=>(Y9 q.1,V.str q.2))) #[pC hD,Zc,[],rfl,.nil] ?_ ?_ ?_]
  ·rintro i ys H' _ ⟨z,_⟩;show z.at Zc
  ·rintro i kv ys H5 hi ⟨s5,U1,d,rfl,N⟩ tp H6 l n6 e6;obtain⟨⟨nm,e⟩,hq,hk,t,hv,ht⟩:=pE ds4 hi;have hk:kv.1=Sum.inr nm:=hk;rw[hk,hv]at e6;have hg:L[i]? =some (nm,e.1,e.2):=by
    unfold qS at hq;rw[nU]at hq;obtain⟨⟨g1,g2,g3⟩,hg,e'⟩:=oo.mp hq;rw[hg];simp only[yz]at e';rw[<-e'.1,<-e'.2]
   have D5:=(pz.mp hg).1;have hto:t≠U:=λz=>by rw[z]at ht;show nomatch es4.symm.trans ht
   have htF:mT (mT H4 x<|.ins T.aO dx [("part_of",.ref po),("joined",.ref jo),("post_of",.ref U)]) U (.frz o<|.dK ks) t=some (.tup<|(Y9 e).map kV):=by
    rw[Zd hto];show sk.at ht
   have htl':d.length<=100:=by
    have:=nW N;unfold qO at this;rw[mV,mV,oF]at this;lia
   refine#[nw e6,rfl,rfl,(pA rfl).trans (pA rfl),mY,λt' H7 M n7 e7=>#[M.at<|l.at U1,by rw[mV];show Zp (by lia),?_,Zc,d++[t'],by rw[nJ];rfl,?_]]
   ·intro c u z;rw[Zd (Ze z hD)];show M.at<|l.at<|s5.at z
   ·have hD7:=M.at<|l.at U1;have off:∀{c:lZ}{J:lX V}{u:HO},H7 c=some (.tup J)->mT H7 D u c=some (.tup J):=λ{c J u} z=>(Zd λy=>by rw[y,hD7]at z;cases z).trans z
    have:(qO<|L.take<|i+1).map (λq=>(Y9 q.1,V.str q.2))=(qO<|L.take i).map (λq=>(Y9 q.1,V.str q.2))++[(Y9 e,V.str nm)]:=by
     unfold qO;rw[oH,hg,nJ,nJ]
     rfl
    rw[this];show Cb (nX N λ_ _ ⟨a,I,Y⟩=>#[a,off<|M.at<|l.at I,off<|M.at<|l.at Y]) #[t,off e7,off<|M.at<|l.at<|s5.at htF]
  ·rintro ys H5 ⟨s5,U1,d,rfl,N⟩;have hks:ks.length=L.length:=by
    have:=ds4.len;unfold qS at this;rw[mV]at this;show this
   rw[hks,pD]at N;have M:=s5.at Zc;have off:∀{c:lZ}{J:lX V}{u:HO},H5 c=some (.tup J)->mT H5 U u c=some (.tup J):=λ{c J u} z=>(Zd λy=>by rw[y,M]at z;cases z).trans z
   have sT:mK (mT H4 x<|.ins T.aO dx [("part_of",.ref po),("joined",.ref jo),("post_of",.ref U)]) (mT H5 U<|.dK ks):=s5.thaw<|sk.at es4;refine#[U,o,_,M,nf,D,d,_,rfl,?_,nX N λ_ _ ⟨a,I,Y⟩=>#[a,off I,off Y],?_,λsi H8 s8 n8 e8=>#[s8.at<|sT.at Zc,T.am,T.bP,(by change 3<1000;decide),?_]]
   ·rw[Zd λy=>by rw[y,M]at U1;cases U1];show U1
   ·rw[oU];have e1:(qO L).map (fst ∘ λq=>(Y9 q.1,V.str q.2))=((qO L).map fst).map Y9:=by rw[oU];rfl
    rw[e1,GD];show j.sigs.one.map Y9 λa b ne z=>ne<|W5 a b z
   have hix:si≠x:=λz=>by rw[z,sT.at Zc]at n8;cases n8
   have s48:mK (pY H4 x) (pY H8 x):=DR ((sk.trans sT).trans s8) FM;have ei8:pY H8 x si=some (.dT<|(qO L).map λq=>(Y9 q.1,V.str q.2)):=vp e8 hix;have f4:mK (pY H4 x) (mT H8 x<|.ins T.aO dx [("part_of",.ref po),("joined",.ref jo),("post_of",.ref U),("signal_on",.ref si)]):=s48.trans sk;have f3:=s34.trans f4;have f1:=x9.trans f3;refine q _ (g1.trans f1) #[dx,po,jo,U,si,kp,ks,kj,_,Zc,f1.at ep1,dp1.mapR<|RP.mono f1,f3.at ej3,dj3.mapR<|RJ.mono f3,f4.at es4,ds4.mapR<|RS.mono f4,sk.at ei8,?_];have all:∀l:lX (Zh×lY),DP Y9 RO (l.map λq=>(Y9 q.1,V.str q.2)) l:=λl=>by
    induction l with
    | nil=>show .nil
    | cons p l ih=>show .cons #[rfl,rfl] ih
   show all _
def KQ:lX V->Hp->VK->Prop:=λn H Q=>∃(r q p:lZ)(o:lX lZ)(z:lX Zh)(y:lX (Zh×Zh)) (u:lX (lY×lY×lY)),n=[.ref r,.ref q,.ref p]/\H r=some (.lst<|o.map V.ref)/\Paired (PO T H) o z/\Yp H q y/\vc H p u/\Y4 z y u/\∀x s,mK H s->H x=none->Zz T s x z y u->Q (.ref x) s
def Zxf:∀vs H Q,KQ T vs H Q->
  ∀x z,H x=none->H z=none->z≠x->Gx T (.ref x ::(vs++[])) (mT (mT H z<|.own x) x<|.ins T.aO z []) (λv r=>v=.non/\Q (.ref x) r) E0:=by
 rintro vs H Q ⟨p,n,l,j,i,h,g,rfl,d,c,a,Y,U,q⟩ x z y u M;refine#[H,x,z,p,n,l,j,i,h,g,rfl,y,λb o e=>?_,Zc,d,c,a,Y,U,λN s t=>#[rfl,q x N s y t]];rw[Zd (Ze e y),Zd<|Ze e u];show e
inductive HG:Sp
 | mk (x nm k ps js sg):vs=[.ref x,.str nm]->Zz T H x ps js sg->Y4 ps js sg->((k,nm):Zh)∈ps->(∀(y C:lZ)(H':Hp),mK H H'->X8 T k C->qv H' C y nm->Q (.ref y) H')->HG vs H Q E
def Wd:T.aQ.O P w mg mM 2 (HG T):=by
 refine T.aQ.F.okA ?_;rfl'
 ·obtain⟨x,nm,k,j,U,N,rfl,i,r,p,q⟩:=h;intro X D;obtain⟨x,g,U,N,M,L,J,I,G,o,n,e,_⟩:=i.ex;have d:((nm,k):lY×lY)∈qP j:=nH.mpr #[(k,nm),p,rfl];obtain⟨v,l,y,C,rfl,c,a⟩:=e.get xL (by rw[GJ];show r.net.nd) d;refine mW (Zt (sJ<|uF (rO<|Y7<|Zx (FG T) hr<|Zb (pv 1) Za)<|vj<|tI hr (pv 1)<|Z8 (pv 0) rfl) Zo Zl) #[_,true,rfl,(r.name _ p).asked,λY u=>(#[u.at o,T.am,T.bA,rfl,.inr<|.inl #[g,_,rfl,Wc.k (k:=Xn nm)<|u.at n,Yl (λz=>?_) λ_=>?_]])]
  ·rw[l]at z;show absurd z (by simp)
  show mX (Zk<|vB (Xv hr) (Z8 (pv 0) rfl) (pv 1) λ_ _=>rfl) #[u.at o,T.am,T.bA,rfl,by rw[<-l];show Wc.k (k:=Xn nm)<|u.at n,q y C Y u c<|a.mono u]
inductive Nt:Sp
 | mk (x t e ps js sg):vs=[.ref x,.ref t]->Zz T H x ps js sg->Y4 ps js sg->Zs H t e->((e∈Yt ps/\∀t' e',((e,e'):Zh×Zh)∈qJ js->Zs H t' e'->Q (.ref t') H)\/(e∉Yt ps/\∀t' H',mK H H'->H t'=none->Zs H' t' ("","")->Q (.ref t') H'))->Nt vs H Q E
def EV:T.aY.O P w mg mM 3 (Nt T):=by
 refine T.aY.F.okA ?_;rfl'
 ·obtain⟨x,t,e,z,g,U,rfl,a,y,r,q⟩:=h;intro X D;obtain⟨z,x,d,U,N,M,L,p,J,o,I,G,n,c,_⟩:=a.ex;have Y:((qJ g).map fst).Nodup:=by rw[uJ];show y.net.flat.nodup_iff.mpr<|yY y.net.nd
  rcases q with⟨l,q⟩|⟨l,q⟩
  ·have:e∈(qJ g).map fst:=by rw[uJ];show y.net.flat.mem_iff.mpr l
   obtain⟨⟨x,j⟩,z,rfl⟩:=nH.mp this;obtain⟨v,u,i,rfl,U⟩:=c.get W5 Y z;refine mX (Zk<|W6 (Y7<|Zx (zl T) hr<|Zb (pv 1)<|Zb (Z8 (pv 0) rfl) Za) (vB (Xv hr) (Z8 (pv 0) rfl) (pv 1) λ_ _=>rfl)<|Zi<|Zb Zg<|Zb Zg Za) #[o,T.am,T.cF,rfl,t,d,_,p,rfl,r,n,?_];rw[u];show#[o,T.am,T.cF,rfl,by rw[<-u];show Wc.t (k:=Y9 x) n r,q i j z U]
  ·have u:Xe p (Y9 e)=none:=c.none W5 (by rw[uJ];show λz=>l<|y.net.flat.mem_iff.mp z);refine mX (Zk<|W6 (Y7<|Zx (zl T) hr<|Zb (pv 1)<|Zb (Z8 (pv 0) rfl) Za) (vB (Xv hr) (Z8 (pv 0) rfl) (pv 1) λ_ _=>rfl)<|Zi<|Zb Zg<|Zb Zg Za) #[o,T.am,T.cF,rfl,t,d,_,p,rfl,r,n,?_];rw[u];show#[mY,λi z x U j=>q i z x U j]
def Yjv(z:lX (lY×lY×lY))(e:Zh):Bool:=decide<|e∈z.map snd
inductive KO:Sp
 | mk (x t e ps js) (sg:lX (lY×lY×lY)):vs=[.ref x,.ref t]->Zz T H x ps js sg->Y4 ps js sg->Zs H t e->(∀nm:lY,((nm,e)∈qS sg/\Xf nm/\e∈sg.map snd)\/(nm =""/\e∉sg.map snd)->Q (.str nm) H)->KO vs H Q E
def Xy:T.aG.O P w mg mM 3 (KO T):=by
 refine T.aG.F.okA ?_;rfl'
 ·obtain⟨x,t,e,z,y,i,rfl,Y,g,p,q⟩:=h;intro X D;obtain⟨z,y,x,l,d,N,M,L,u,o,_,_,_,_,_,_,n,c⟩:=Y.ex;have U:((qO i).map fst).Nodup:=by rw[GD];show g.sigs.one
  by_cases r:e∈i.map snd
  ·obtain⟨⟨nm,z,y⟩,l,rfl⟩:=nH.mp r;obtain⟨v,j,rfl⟩:=c.get W5 U (a:=(z,y)) (b:=nm)<|nH.mpr #[_,l,rfl];refine mX (Zk<|W6 (Y7<|Zx (zl T) hr<|Zb (pv 1)<|Zb (Z8 (pv 0) rfl) Za) (vB (Xv hr) (Z8 (pv 0) rfl) (pv 1) λ_ _=>rfl) Zg) #[o,T.am,T.bP,rfl,t,d,_,u,rfl,p,n,?_];have x:Xe u (Y9 (z,y))=some (.str nm):=j;rw[show((nm,z,y):lY×lY×lY).snd=(z,y)from rfl,x];show#[o,T.am,T.bP,rfl,by rw[<-x];show Wc.t (k:=Y9 (z,y)) n p,q nm<|.inl #[nH.mpr #[_,l,rfl],g.sigs.name _ l,r]]
  ·have j:Xe u (Y9 e)=none:=c.none W5 (by rw[GD];show r);refine mX (Zk<|W6 (Y7<|Zx (zl T) hr<|Zb (pv 1)<|Zb (Z8 (pv 0) rfl) Za) (vB (Xv hr) (Z8 (pv 0) rfl) (pv 1) λ_ _=>rfl) Zg) #[o,T.am,T.bP,rfl,t,d,_,u,rfl,p,n,?_];rw[j];show(q _<|.inr #[rfl,r])
abbrev S4:=lY×lY×lY×lY
def tM(H:Hp)(t:lZ)(q:S4):Prop:=H t=some (.tup [.str q.1,.str q.2.1,.str q.2.2.1,.str q.2.2.2])
def tM.mono(e:mK H z)(h:tM H t q):tM z t q:=e.at h
inductive QP:Sp
 | mk (t) (q:S4):vs=[.ref t]->tM H t q->(∀t' H',mK H H'->H t'=none->Zs H' t' (q.1,q.2.2.1)->Q (.ref t') H')->QP  vs H Q E
def HN:T.em.O P w mg mM 1 QP:=by
 refine T.em.F.okA ?_;rfl'
 ·obtain⟨t,y,rfl,z,q⟩:=h;intro X D;show mX (Zk<|Zi<|Zb (nQ (pv 0) Zf)<|Zb (nQ (pv 0) Zf) Za)<|.inr<|.inl #[nw z,Zq (j:=0) rfl,.inr<|.inl #[nw z,Zq (j:=2) rfl,mY,q]]
def Ao(z:lX (lY×lY×lY))(q:S4):Bool:=decide (q.2.2.1 ="") || decide (((q.1,q.2.2.1):Zh)∈z.map snd)
inductive Oa:Sp
 | mk (x t q ps js sg):vs=[.ref x,.ref t]->Zz T H x ps js sg->Y4 ps js sg->tM H t q->(∀H',mK H H'->Q (.bl<|Ao sg q) H')->Oa vs H Q E
def yF(h:Xf s):s≠ "":=λz=>by
 have:=h.1;rw[z]at this;show absurd this (by lk)
def KM:T.er.O P w mg mM 4 (Oa T):=by
 refine T.er.F.okA ?_;rfl'
 ·obtain⟨x,t,u,g,d,p,rfl,n,c,l,q⟩:=h;intro X D;obtain⟨y,_,_,_,_,_,_,_,_,a,_⟩:=n.ex;refine mX (Zk<|YG (sj hr (nQ (pv 1) Zf) Zg)<|wG<|Vf hr (Yf (pv 0) T.am T.br (Xy T) hr.m T.aG.b .nil Z0<|Zb (Zx (HN T) hr<|Zb (pv 1) Za) Za) Zg)<|.inr<|.inl #[nw l,Zq (j:=2) rfl,.inl #[rfl,Yl (λz=>?_) λz=>?_]]
  ·have z:u.2.2.1 ="":=V.str.inj<|pL z;have e:Ao p u=true:=by unfold Ao;rw[og z];rfl
   rw[e]at q;show q H<|qy _
  ·have z:¬u.2.2.1 ="":=λy=>z (og<|by rw[y])
   refine#[a,rfl,t,u,rfl,l,λY U i M N=>#[x,Y,_,g,d,p,rfl,n.mono i,c,N,λnm r=>.inl #[rfl,?_]]];have e:Ao p u=!decide (V.str nm=V.str ""):=by
    unfold Ao;rw[ow z];rcases r with⟨_,r,o⟩|⟨r,o⟩
    ·rw[og o,ow λy=>yF r<|V.str.inj y];rfl
    ·rw[ow o,r];rfl
   rw[<-e];show q U i
inductive Mf:Sp
 | mk (x) (ps:lX Zh) (js sg):vs=[.ref x]->Zz T H x ps js sg->Y4 ps js sg->(∀ss:lX lY,ss.Perm (ps.map snd)->PyProof.Rows.sortedS ss=true->pG H (.lst<|ss.map V.str) Q)->Mf vs H Q E
def JE:T.bQ.O P w mg mM 1 (Mf T):=by
 refine T.bQ.F.okA ?_;rfl'
 ·obtain⟨x,z,i,g,rfl,y,u,q⟩:=h;intro X D;obtain⟨x,p,i,g,e,o,d,c,a,n,l,j,_⟩:=y.ex;refine mX (Zk<|Z6 (r:=BO) (EI rfl) (by rfl) T.cP wb<|Zb (Z8 (pv 0) rfl) Za) #[n,T.am,T.bA,rfl,p,o,z.map snd,rfl,.inl l,?_,by rw[mV];have:=u.len;lia,q];have:=oY (List.map kV) j.keys;rw[oU,oU]at this;refine Eq.trans this ?_;rw[<-GJ,oU]
  rfl
def X8.gate{T:Tx K mg}{k:lY}{C x:lZ}{nm:lY}{H:Hp}(h:X8 T k C)(o:qv H C x nm):∃t,Xx K H (.ref x) t/\kitOne K t (.ref T.bz)=some (decide<|k ="gate"):=by
 obtain⟨z,o⟩:=o;rcases h with⟨rfl,rfl⟩|⟨rfl,rfl⟩|⟨rfl,rfl⟩|⟨rfl,rfl⟩|⟨rfl,rfl|rfl⟩
 ·show#[_,Xx.ins o T.cW T.fW T.tG T.tK T.fX,T.iW]
 ·show#[_,Xx.ins o T.eK T.gS T.tG T.tK T.gT,T.ju]
 ·show#[_,Xx.ins o T.fM T.io T.tG T.tK T.ip,T.jP]
 ·show#[_,Xx.ins o T.fK T.ik T.tG T.tK T.il,T.jO]
 ·show#[_,Xx.ins o T.gz T.ii T.tG T.tK T.ij,T.jN]
 ·show#[_,Xx.ins o T.eI T.gQ T.tG T.tK T.gR,T.jt]
def X8.pts{T:Tx K mg}{k:lY}{C x:lZ}{nm:lY}{H:Hp}(h:X8 T k C)(o:qv H C x nm):∃t,Xx K H (.ref x) t/\kitOne K t (.ref T.aE)=some (decide<|k ="points"):=by
 obtain⟨z,o⟩:=o;rcases h with⟨rfl,rfl⟩|⟨rfl,rfl⟩|⟨rfl,rfl⟩|⟨rfl,rfl⟩|⟨rfl,rfl|rfl⟩
 ·show#[_,Xx.ins o T.cW T.fW T.tG T.tK T.fX,T.iX]
 ·show#[_,Xx.ins o T.eK T.gS T.tG T.tK T.gT,T.jw]
 ·show#[_,Xx.ins o T.fM T.io T.tG T.tK T.ip,T.jS]
 ·show#[_,Xx.ins o T.fK T.ik T.tG T.tK T.il,T.jR]
 ·show#[_,Xx.ins o T.gz T.ii T.tG T.tK T.ij,T.jQ]
 ·show#[_,Xx.ins o T.eI T.gQ T.tG T.tK T.gR,T.jv]
def wz(ps:lX Zh)(kd:lY)(ss:lX lY):lX lY:=ss.filter λn=>decide<|((kd,n):Zh)∈ps
def Qc{ps:lX Zh}(h:(ps.map snd).Nodup){a b:Zh}(x:a∈ps)(u:b∈ps)(e:a.2=b.2):a=b:=by
 induction ps with
 | nil=>cases x
 | cons p r s =>
  rw[oq,pZ]at h;rcases oh.mp x with rfl|z
  ·rcases oh.mp u with rfl|y
   ·rfl
   ·show absurd (nH.mpr #[b,y,e.symm]) h.1
  ·rcases oh.mp u with rfl|y
   ·show absurd (nH.mpr #[a,z,e]) h.1
   ·show s h.2 z y
def RN{ps:lX Zh}{kd n:lY}{ss:lX lY}{j:Nat}(h:ss[j]? =some n):wz ps kd (ss.take<|j+1)=wz ps kd (ss.take j)++if((kd,n):Zh)∈ps then[n]else[]:=by
 unfold wz;rw[oH,h,uM,show(some n).toList=[n]from rfl,rB]
 by_cases z:((kd,n):Zh)∈ps
 ·rw[nj (og z),nj z,yd]
 ·rw[ng (by simpa using z),ng z,yd]
def Gf(ps:lX Zh)(kd:lY)(ss:lX lY):(wz ps kd ss).length<=ss.length:=wW _ _
def NO{T:Tx K mg}{M x l D:lZ}{kd:lY}{ss:lX lY}{ps:lX Zh}{d:lX (Zh×Zh)}{c:lX (lY×lY×lY)}{r:Hp}{Q:VK}{z:St}{E:XK}
  (hk:∀{k:lY}{C y:lZ}{nm:lY}{H:Hp},X8 T k C->qv H C y nm->∃t,Xx K H (.ref y) t/\kitOne K t (.ref M)=some (decide<|k=kd))
  (L:Zz T r x ps d c) (a:Y4 ps d c) (J:ss.Perm (ps.map snd)) (hl:r l=some (.lst<|ss.map V.str)) (I:r D=none)
  (q:∀s,mK r s->s D=some (.lst<|(wz ps kd ss).map V.str)->Q (.ref D) s) {fr:St->St} (z9:fr z=[none,some<|.ref x]) :
  sw (uT K l) fr (qW 0) (tB<|yV (yS K)<|uv (EX T.aO "named" (HG T) [] E (rJ 1) (uv (rJ 0) wM))<|uv (tC<|.ref M) wM) (rJ 0) Q z r D:=by
 obtain⟨u,o,n,j,g,e,Y,U,N,h1,_⟩:=L.ex;have hn:ss.length<=40:=by rw[J.length_eq,mV];show a.len
 refine Yz (xs:=ss.map V.str) (λi h s=>h=(wz ps kd<|ss.take i).map V.str/\s D=some (.lst h)/\mK r s) #[rfl,Zc,pC I] ?_ ?_ ?_
 ·rintro i h s _ ⟨_,_,p⟩;show mZ<|p.at hl
 ·rintro j v h s G ⟨rfl,y8,p⟩;rw[nU]at G;obtain⟨n,B,rfl⟩:=oo.mp G;obtain⟨⟨k,A⟩,Y,rfl⟩:=nH.mp<|J.mem_iff.mp<|pi B;unfold qB;rw[z9];refine#[pA rfl,p.at h1,rfl,x,A,k,ps,d,c,rfl,L.mono p,a,Y,λy C u U hC hO=>?_];obtain⟨t,ht,g⟩:=hk hC hO;have hd:decide (k=kd)=decide (((kd,A):Zh)∈ps):=by
   refine IG.mpr #[λe=>e ▸ Y,λe=>?_];show oY fst<|Qc a.net.nd Y e rfl
  rw[hd]at g;refine#[ht,.inr #[_,rfl,g],?_];have A6:=U.at y8;rw[RN B];refine Yl (λN=>?_) λN=>?_
  ·rw[nj (pL N)];refine#[A6,?_,?_,Zc,λb o e=>?_]
   ·rw[mV];have:=Gf ps kd<|ss.take j;rw[oF]at this;show Zp (by lia)
   ·rw[nJ];rfl
   ·rw[Zd (Ze e I)];show U.at<|p.at e
  ·rw[ng (λu=>N<|og u),pO];show#[rfl,A6,p.trans U]
 ·rintro h o ⟨rfl,u,n⟩;rw[mV,pD]at u;show q o n u
def Ey(h:PyProof.Rows.sortedS l=true)(f:lY->Bool):PyProof.Rows.sortedS (l.filter f)=true:=by
 refine PyProof.Rows.sortedS_of_pairwise _<|List.Pairwise.filter f ?_;cases l with
 | nil=>show .nil
 | cons x r=>show Em h
inductive FP(kd:lY):Sp
 | mk (x ps js sg):vs=[.ref x]->Zz T H x ps js sg->Y4 ps js sg->(∀gs:lX lY,(gs.Nodup/\PyProof.Rows.sortedS gs=true)->(∀n,n∈gs↔((kd,n):Zh)∈ps)->gs.length<=40->pG H (.lst<|gs.map V.str) Q)->FP kd vs H Q E
def ML(h:ss.Perm (ps.map snd))(n:lY):n∈wz ps kd ss↔((kd,n):Zh)∈ps:=by
 unfold wz;rw[wO];show#[λz=>pL z.2,λz=>#[h.mem_iff.mpr<|nH.mpr #[_,z,rfl],og z]]
def Zr3:T.fE.O P w mg mM 3 (FP T "gate"):=by
 refine T.fE.F.okA ?_;rfl'
 ·obtain⟨x,o,i,g,rfl,u,z,q⟩:=h;intro X D;obtain⟨p,n,l,j,a,Y,U,N,M,e,_⟩:=u.ex;refine mX (Zk<|pT ["name","tracks"] (pr 1 [0] rfl) (Yi<|Yk (pv 0) T.am T.dH (JE T) hr.m T.bQ.b .nil Z0) (oJ 0) (sS<|Y7<|Z6 (r:=yS K) CT (by rfl) T.ak se<|Zb (Yf (pv 1) T.am T.bT (Wd T) hr.m T.aQ.b .nil Z0<|Zb (pv 0) Za)<|Zb (Xz (v:=.ref T.bz) (by rfl) T.jb rfl) Za) (pv 0)) #[e,rfl,x,o,i,g,rfl,u,z,λd y c l N p M n=>#[mZ n,λD j=>NO X8.gate (u.mono p) z y n j (λa Y U=>q _ ?_ (ML y) ?_ D a (p.trans Y) (p.free j) U) rfl]]
  ·show#[(y.nodup_iff.mpr z.net.nd).filter _,Ey c _]
  ·have:=Gf o "gate" d;rw[y.length_eq,mV]at this;show oy this z.len
def Hr:T.eV.O P w mg mM 3 (FP T "points"):=by
 refine T.eV.F.okA ?_;rfl'
 ·obtain⟨x,o,i,g,rfl,u,z,q⟩:=h;intro X D;obtain⟨p,n,l,j,a,Y,U,N,M,e,_⟩:=u.ex;refine mX (Zk<|pT ["name","tracks"] (pr 1 [0] rfl) (Yi<|Yk (pv 0) T.am T.dH (JE T) hr.m T.bQ.b .nil Z0) (oJ 0) (sS<|Y7<|Z6 (r:=yS K) CT (by rfl) T.ak se<|Zb (Yf (pv 1) T.am T.bT (Wd T) hr.m T.aQ.b .nil Z0<|Zb (pv 0) Za)<|Zb (Xz (v:=.ref T.aE) (by rfl) T.iq rfl) Za) (pv 0)) #[e,rfl,x,o,i,g,rfl,u,z,λd y c l N p M n=>#[mZ n,λD j=>NO X8.pts (u.mono p) z y n j (λa Y U=>q _ ?_ (ML y) ?_ D a (p.trans Y) (p.free j) U) rfl]]
  ·show#[(y.nodup_iff.mpr z.net.nd).filter _,Ey c _]
  ·have:=Gf o "points" d;rw[y.length_eq,mV]at this;show oy this z.len
def Ya2{z y x:Type}{F:z->y->Prop}{G:z->x->Prop}{g:y->x}{l:lX z}{m:lX y}(h:Paired F l m)(k:∀a b,F a b->G a (g b)):Paired G l (m.map g):=by
 induction h with
 | nil=>show .nil
 | cons r t u=>show .cons (k _ _ r) u
def Ma{z y:Type}{f:z->y}(u:∀a b,f a=f b->a=b){l:lX z}(h:l.Nodup):(l.map f).Nodup:=List.pairwise_map.mpr<|h.imp λx e=>x<|u _ _ e
def Cy(l:lX (lY×lY)):lX (nI×V):=l.map λp=>(Xn p.1,V.str p.2)
inductive Ra:Sp
 | mk (x ps js sg):vs=[.ref x]->Zz T H x ps js sg->Y4 ps js sg->(∀gs:lX lY,(gs.Nodup/\PyProof.Rows.sortedS gs=true)->(∀n,n∈gs↔(("points",n):Zh)∈ps)->gs.length<=40->pG H (.dK<|Cy<|gs.map λn=>(n,"left")) Q)->Ra vs H Q E
def ZG:T.du.O P w mg mM 4 (Ra T):=by
 refine T.du.F.okA ?_;rfl'
 ·obtain⟨x,C,B,sg,rfl,tr,yv,q⟩:=h;intro X D;refine mX (Zk<|Yw (r:=BY) (HW rfl) (by rfl) T.ei wR<|Zb (pT ["points"] (pr 1 [] rfl) (Yi<|Zx (Hr T) hr<|Zb (pv 0) Za) (oJ 0) Wi (Zi<|Zb (pv 0)<|Zb Zg Za)) Za) #[x,C,B,sg,rfl,tr,yv,λY N hm hn l z M y L=>#[mZ L,λD J=>Yz (xs:=Y.map V.str) (λi g c=>(∃u:lX lZ,g=u.map V.ref/\Paired (Zs c) u ((Y.take i).map λn=>(n,"left")))/\c D=some (.lst g)/\mK z c) #[#[[],rfl,.nil],Zc,pC J] ?_ ?_ ?_]]
  ·rintro i g c _ ⟨_,_,U⟩;show mZ<|U.at L
  ·rintro j v g c d ⟨⟨u,rfl,a⟩,I,U⟩;rw[nU]at d;obtain⟨n,hy,rfl⟩:=oo.mp d;have hl:=nW a;rw[mV,oF]at hl;unfold qB;refine#[pA rfl,mY,λt G l z e2=>#[l.at I,?_,#[u++[t],?_,?_],Zc,λb o e=>?_]]
   ·rw[mV];show Zp (by lia)
   ·rw[nJ];rfl
   ·rw[oH,hy,nJ];have off:∀{b:lZ}{p:Zh},Zs G b p->Zs (mT G D<|.lst<|u.map V.ref++[V.ref t]) b p:=λ{b p} z=>by
     unfold Zs at z ⊢;rw[Zd λy=>by rw[y,l.at I]at z;cases z];show z
    show pQ (nX a λ_ _ r=>off<|r.mono l)<|.cons (off e2) .nil
   ·rw[Zd (Ze e J)];show l.at<|U.at e
  ·rintro g e ⟨⟨u,rfl,a⟩,y,z⟩;rw[mV,pD]at a;refine#[D,u,Cy<|Y.map λn=>(n,"left"),rfl,y,?_,?_,λd p o l j=>q Y N hm hn d p (M.trans<|z.trans o) (M.free<|z.free l) j]
   ·unfold Cy;show Ya2 a λ_ _ r=>r
   ·unfold Cy;rw[oU,oU];show Ma xL N.1
inductive FH(kd:lY):Sp
 | mk (x g ps js sg):vs=[.ref x,.str g]->Zz T H x ps js sg->Y4 ps js sg->((kd,g):Zh)∈ps->(∀H',mK H H'->Q .non H')->FH kd vs H Q E
def Zk8:T.dR.O P w mg mM 4 (FH T "gate"):=by
 refine T.dR.F.okA ?_;rfl'
 ·obtain⟨x,g,z,y,u,rfl,r,p,o,q⟩:=h;intro X D;refine mX (Zt (tI hr (pv 1)<|Zx (Zr3 T) hr<|Zb (pv 0) Za) Zo Zl) #[x,z,y,u,rfl,r,p,λd c n a l j i Y e=>.inl #[.inl<|mZ e,rfl,Xg _,?_]];rw[nj rfl,X1,og<|(n g).mpr o];show(q j i)
inductive Ke:Sp
 | mk (n:Nat):vs=[.int (n:Int)]->1<=n->n<=4->Q .non H->Ke  vs H Q E
def RI:T.dw.O P w mg mM 1 Ke:=by
 refine T.dw.F.okA ?_;rfl'
 ·obtain⟨n,rfl,y,x,q⟩:=h;intro X D;refine mX (Zt (sJ<|uF (rO<|Y7<|vZ "int" T.ak T.iK Hi<|pv 0)<|uF (Y7<|vZ "bool" T.ak T.jj PyProof.Rows.boot_bool<|pv 0)<|vj<|rO<|Vy Pl Pl Zf (pv 0)<|AL (by rfl) T.fw) Zo Zl) #[Xx.int _,.inl<|qf rfl T.kl,#[Xx.int _,.inl<|qf rfl T.kn,?_]];dsimp only[oB];rw[ng oK];refine Yl (λ_=>?_) λz=>absurd (og (show(1:Int)<=n by lia)) z;refine Yl (λz=>?_) λ_=>q;have z:(!decide ((n:Int)<=4))=true:=z;rw[og (show(n:Int)<=4 by lia)]at z;cases z
def vh(v:V)(S:lY->Prop):Prop:=sR v=true/\∀z:lX lY,(∀n∈z,S n)->tL v (z.map V.str)=false
def xQ{S:lY->Prop}(h:¬S n):vh (.str n) S:=#[rfl,λx y=>by rw[X1];show ow λz=>h<|y n z]
def HV{S:lY->Prop}(z:sR v=true)(h:∀n,rn (.str n) v=false):vh v S:=#[z,λy _=>by
 unfold tL;rw[List.any_map];show List.any_eq_false.mpr λn _=>by change ¬rn (.str n) v=true;rw[h n];show oK]
inductive He(kd:lY)(c:lZ):Sp
 | mk (x v ps js sg):vs=[.ref x,v]->Zz T H x ps js sg->Y4 ps js sg->vh v (λn=>((kd,n):Zh)∈ps)->(∀H',mK H H'->E (.ref c) none H')->He kd c vs H Q E
def Gw(H:Hp)(t:lZ)(part:lY)(q:lY×lY×lY):Prop:=H t=some (.tup [.str part,.str q.1,.str q.2.1,.str q.2.2])
def zU(z:lX Bool)(len j:Nat):Prop:=j<z.length/\z.getD j true=false/\true∈z.drop (j+len)
abbrev Zv:=lY×(lY×lY×lY)
def Z2{z:Type}(f:z->V)(y:lX (lY×z)):lX (nI×V):=y.map λq=>(Sum.inr q.1,f q.2)
theorem xZ{z:Type}{f:z->V}:∀{x:lX (lY×z)}{q:lY×z},(x.map fst).Nodup->q∈x->Xe (Z2 f x) (Sum.inr q.1)=some (f q.2)
 | [],_,_,h=>by simp at h
 | r ::x,q,u,h=>by
  rw[show Z2 f (r ::x)=(Sum.inr r.1,f r.2) ::Z2 f x from rfl];rw[oq,pZ]at u;rcases oh.mp h with e|e
  ·rw[e];show yT rfl
  ·rw[wa λy=>u.1 (by rw[wl y];show nH.mpr #[q,e,rfl])];show xZ u.2 e
theorem W4{z:Type}{f:z->V}:∀{u:lX (lY×z)}{x:lY},x∉u.map fst->Xe (Z2 f u) (Sum.inr x)=none
 | [],_,_=>rfl
 | r ::u,x,h=>by
  rw[show Z2 f (r ::u)=(Sum.inr r.1,f r.2) ::Z2 f u from rfl];rw[oq,oh,wH]at h;rw[wa λy=>h.1 (wl y).symm];show W4 h.2
def Lj{z:Type}{f:z->V}{y:lX (lY×z)}{v:z}(h:x∉y.map fst):Wj (Z2 f y) (Sum.inr x) (f v)=Z2 f (y++[(x,v)]):=by
 rw[Qk _ (W4 h)];simp[Z2]
def ub(H:Hp)(ts:lX lZ)(ss:lX Zv):Prop:=Paired (λt (q:Zv)=>Gw H t q.1 q.2) ts ss
def Xc(H:Hp)(l:lZ)(ss:lX Zv):Prop:=∃z,H l=some (.lst<|z.map V.ref)/\ub H z ss
def ub.mono(e:mK H z)(h:ub H ts ss):ub z ts ss:=nX h λ_ _ r=>e.at r
def Xc.mono(e:mK H z)(h:Xc H l ss):Xc z l ss:=let⟨y,x,u⟩:=h;#[y,e.at x,u.mono e]
def ub.off(h:ub H ts ss)(y:∀xs,H c≠some (.tup xs)):ub (mT H c o) ts ss :=
 nX h λt q r=>by
  unfold Gw at r ⊢;rw[Zd λz=>y _<|z ▸ r];show r
def Xc.off(h:Xc H l ss)(z:l≠c)(y:∀xs,H c≠some (.tup xs)):Xc (mT H c o) l ss:=by
 obtain⟨x,u,s⟩:=h;show#[x,by rw[Zd z];show u,s.off y]
def Av(q:Zv):Tr:=.tup [.str q.1,.str q.2.1,.str q.2.2.1,.str q.2.2.2]
def Yv(H:Hp)(d:lZ)(z:lX (lY×lZ))(val:lY->lX Zv):Prop:=H d=some (.dK<|Z2 V.ref z)/\∀e∈z,Xc H e.2<|val e.1
def Yv.mono{val:lY->lX Zv}(e:mK H z)(h:Yv H d y val):Yv z d y val:=#[e.at h.1,λx u=>(h.2 x u).mono e]
def Ji(e:mK H r)(h:Wc H a y o):Wc r a y o:=by
 rcases h with⟨z,k,x,u,s⟩|⟨z,k,b,x,u,s,q⟩
 ·show .inl #[z,k,e.rd x,u,s]
 ·show .inr #[z,k,b,e.rd x,u,e.at s,q]
def Ygv(u:PI X y l a)(r:PI X y l b):PI X y l (λz H R=>a z H R\/b z H R):=λx s z H R I h=>h.elim (u x s z H R I)<|r x s z H R I
def xK(H:Hp)(l:lZ)(ss:lX Zv):Prop:=∃z:lX lZ,(H l=some (.lst<|z.map V.ref)\/H l=some (.tup<|z.map V.ref))/\ub H z ss
def xK.mono(e:mK H z)(h:xK H l ss):xK z l ss:=let⟨y,x,u⟩:=h;#[y,x.imp e.at e.at,u.mono e]
def Xc.seq(h:Xc H l ss):xK H l ss:=let⟨z,y,x⟩:=h;#[z,.inl y,x]
def KB{fr:St->St}(n:ub s ts ss)(Y:ss.length<=100)(l:s D=none)(q:∀r,mK s r->r D=some (.lst<|(ss.map fst).map V.str)->Q (.ref D) r)(h:fr z=[none])
  (C:∀Pv:Nat->lX V->Hp->Prop,Pv 0 [] (mT s D<|.lst [])->(∀i u H,Pv i u H->mK s H)->(∀i x u H,(ts.map V.ref)[i]? =some x->Pv i u H->qB fr (qW 0) Bv (qZ (yq K) (rJ 0)<|tC<|.int 0) z D x u H (Pv<|i+1))->(∀u H,Pv (ts.map V.ref).length u H->Q (.ref D) H)->sw J fr (qW 0) Bv (qZ (yq K) (rJ 0)<|tC<|.int 0) Q z s D):sw J fr (qW 0) Bv (qZ (yq K) (rJ 0)<|tC<|.int 0) Q z s D:=by
 refine C (λi u r=>u=((ss.map fst).map V.str).take i/\r D=some (.lst u)/\mK s r) #[rfl,Zc,pC l] (λ_ _ _ p=>p.2.2) ?_ ?_
 ·rintro k v u r p ⟨rfl,g,j⟩;rw[nU]at p;obtain⟨t,d,rfl⟩:=oo.mp p;obtain⟨y,c,a⟩:=pE n d;unfold qB;rw[h];refine#[pA rfl,.inr<|.inl #[nw<|j.at a,rfl,g,?_,?_,Zc,λb o e=>?_]]
  ·rw[oF,mV,mV];show Zp (by lia)
  ·rw[oH,nU,nU,c];rfl
  ·rw[Zd (Ze e l)];show j.at e
 ·rintro u y ⟨rfl,p,o⟩;refine q y o ?_;rw[p,mV,nW n,uC (by rw[mV,mV];show nK _)]
inductive Pj:Sp
 | mk (l) (ss:lX Zv):vs=[.ref l]->xK H l ss->ss.length<=100->(∀p H',mK H H'->H p=none->H' p=some (.lst<|(ss.map fst).map V.str)->Q (.ref p) H')->Pj  vs H Q E
def Op:T.fF.O P w mg mM 1 Pj:=by
 refine T.fF.F.okA ?_;rfl'
 ·obtain⟨l,z,rfl,y,j,q⟩:=h;intro X D;obtain⟨z,y,g⟩:=y;refine mX (Zk<|pT ["step"] (pr 1 [] rfl) (Ygv (Yi<|pv 0)<|zH<|pv 0) (oJ 0) Wi (rc (K:=K) rfl (pv 0) Zf))<|y.imp (λe=>#[mZ e,λD z=>KB g j z (λx u r=>q D x u z r) rfl λPv o n=>Yz Pv o λi l H _ p=>mZ<|(n i l H p).at e]) λe=>#[nw e,λD z=>KB g j z (λx u r=>q D x u z r) rfl λPv o n=>Gq Pv o λi l H _ p=>nw<|(n i l H p).at e]
def Gc(z:lX lY)(val:lY->lX Zv)(x r:lY):Prop:=(∃t∈z,x∈(val t).map fst/\r=t)\/((∀t∈z,x∉(val t).map fst)/\r ="")
inductive Jq:Sp
 | mk (d x) (es:lX (lY×lZ)) (val:lY->lX Zv):vs=[.ref d,.str x]->Yv H d es val->(es.map fst).Nodup->es.length<=100->(∀t,(val t).length<=100)->(∀r H',mK H H'->Gc (es.map fst) val x r->Q (.str r) H')->Jq  vs H Q E
def Ks:T.gU.O P w mg mM 2 Jq:=by
 refine T.gU.F.okW HQ ?_;rfl'
 ·obtain⟨d,x,u,val,rfl,⟨hd,N⟩,y,r,B,q⟩:=h;intro X D;refine mW (Pi<|Xk pM rfl (zZ<|pv 0) (tD rfl<|Zu (oE 2 HQ)<|Zu (oE 3 HQ) Y8) Zo) #[hd,λo M=>KP (λi z L=>(∃c a,z=[some (.ref d),some<|.str x,c,a])/\mK (mT H d<|.frz o<|.dK<|Z2 V.ref u) L/\∀t∈(u.map fst).take i,x∉(val t).map fst) #[#[none,none,rfl],qy _,by simp] ?_ ?_ ?_]
  ·rintro i z L _ ⟨_,y,_⟩;show y.at Zc
  ·rintro i kv z H2 J ⟨⟨c,a,rfl⟩,l,g⟩ tp H3 I n3 e3;rw[show Z2 V.ref u=u.map λq=>(Sum.inr q.1,V.ref q.2)from rfl,nU]at J;obtain⟨e,G,rfl⟩:=oo.mp J;have r:e∈u:=pi G;have Y:(u.map fst)[i]? =some e.1:=by rw[nU,G];rfl
   have U:e.2≠d:=λy=>by
    obtain⟨j,C,_⟩:=N e r;rw[y,hd]at C;cases C
   have V7:Xc H3 e.2 (val e.1):=((N e r).off (o:=.frz o<|.dK<|Z2 V.ref u) U λj y=>by rw[hd]at y;cases y).mono (l.trans I);refine#[nw e3,rfl,rfl,?_];refine mX (Zt (wJ hr (pv 1)<|Zx (Op T) hr<|Zb (pv 3) Za) Zo Zl) #[e.2,val e.1,rfl,V7.seq,B e.1,λpf H4 s4 n4 j=>.inl #[.inl<|mZ j,rfl,Xg _,?_]];have p:=l.trans<|I.trans s4;rw[ng oK,X1];refine Yl (λn=>?_) λn=>?_
   ·have n:x∈(val e.1).map fst:=pL n;show mX (Zk<|pv 2) #[d,o,_,p.at Zc,M,q e.1 _ (Cn hd p)<|.inl #[e.1,nH.mpr #[e,r,rfl],n,rfl]]
   ·have n:x∉(val e.1).map fst:=λy=>n<|og y
    refine#[#[_,_,rfl],p,λt j=>?_];rw[oH,Y,oO]at j;rcases j with y|y
    ·show g t y
    ·simp at y;rw[y];show n
  ·rintro z H2 ⟨⟨c,a,rfl⟩,l,g⟩;rw[show(Z2 V.ref u).length=(u.map fst).length by rw[mV];show mV ..,pD]at g;show#[d,o,_,l.at Zc,M,mX (Zk Zg)<|q "" _ (Cn hd l)<|.inr #[g,rfl]]
def Yv.read{val:lY->lX Zv}(h:Yv H d y val)(n:(y.map fst).Nodup)(s:mK (mT H d<|.frz o<|.dK<|Z2 V.ref y) r)(x:e∈y):Xc r e.2 (val e.1)/\Wc r d (.str e.1) (some<|.ref e.2):=by
 obtain⟨hd,q⟩:=h;have u:e.2≠d:=λz=>by
  obtain⟨l,p,_⟩:=q e x;rw[z,hd]at p;cases p
 refine#[((q e x).off (o:=.frz o<|.dK<|Z2 V.ref y) u λl z=>by rw[hd]at z;cases z).mono s,?_];rw[<-xZ n x];show .inl #[_,Sum.inr e.1,.inr #[o,s.at Zc],rfl,rfl]
def Vp{z:lX (lY×lZ)}{i:Nat}{kv:nI×V}(x:(Z2 V.ref z)[i]? =some kv):∃e∈z,z[i]? =some e/\(z.map fst)[i]? =some e.1/\kv=(Sum.inr e.1,V.ref e.2):=by
 rw[show Z2 V.ref z=z.map λq=>(Sum.inr q.1,V.ref q.2)from rfl,nU]at x;obtain⟨e,y,rfl⟩:=oo.mp x;show#[e,pi y,y,by rw[nU,y];rfl,rfl]
def Yct{z:Type}{f:z->V}(y:lX (lY×z)):(Z2 f y).length=(y.map fst).length:=by rw[mV];show mV ..
def Vd:T.aS.O P w mg mM 1 (wC T.aX "part"):=by
 refine T.aS.F.okA ?_;rfl'
 ·obtain⟨e,t,v,rfl,z,q⟩:=h;intro X D;show mX (Fu (pv 0) (pv 1) rfl) #[e,T.aX,T.au,t,rfl,z,T.ej.cls,T.ej.sa,T.ej.na,q]
def GG(h:1<=k:=by lk):T.aS.O P w mg mM k (wC T.aX "part"):=(Vd T).mono h
def As(z:lY->Prop)(xs:lX lY)(i:Nat):Prop:=∀j y,j<i->xs[j]? =some y->y∉xs.take j/\¬z y
def Ol(z:lY->Prop)(xs:lX lY)(x:lY):Prop:=∃i,xs[i]? =some x/\(x∈xs.take i\/z x)/\As z xs i
def vA(z:lX lY)(val:lY->lX Zv)(x:lY):Prop:=∃t∈z,x∈(val t).map fst
inductive Ku(C:lZ):Sp
 | mk (d p) (es:lX (lY×lZ)) (val:lY->lX Zv) (ss:lX Zv):vs=[.ref d,.ref p]->Yv H d es val->(es.map fst).Nodup->es.length<=100->(∀t,(val t).length<=100)->(∀t∈es.map fst,t≠ "")->xK H p ss->ss.length<=100->(∀H',mK H H'->As (vA (es.map fst) val) (ss.map fst) ss.length->Q .non H')->(∀dx H' x,mK H H'->H dx=none->Ol (vA (es.map fst) val) (ss.map fst) x->H' dx=some (.xd [("part",.str x)])->E (.ref C) (some dx) H')->Ku C vs H Q E
def NI{u:lX lY}{val:lY->lX Zv}{x r:lY}(q:∀t∈u,t≠ "")(h:Gc u val x r):(r≠ "")↔vA u val x:=by
 rcases h with⟨t,y,s,rfl⟩|⟨p,rfl⟩
 ·show#[λ_=>#[r,y,s],λ_=>q r y]
 ·show#[λz=>absurd rfl z,λ⟨t,y,s⟩=>absurd s<|p t y]
def Zle:Xm P w K mg mM (ou P w) 3 T.bJ.f T.bJ.fd ["paths","steps"] (Ku T.aX):=by
 refine T.bJ.F.okX Gy ?_;rfl'
 ·obtain⟨d,p,C,val,n,rfl,O7,hfd,N3,Q6,w6,hp,K5,q,qE⟩:=h;intro X D;refine mW (nG 2 Gy<|Zm Za) #[mY,λa x s1 n1 e1=>?_];refine mW (Xk PassesOwn.leaving rfl (Yi<|Zx (Op T) hr<|Zb (pv 1) Za) (oE 3 Gy) Zo) #[p,n,rfl,hp.mono s1,K5,λpf r x n2 u=>#[mZ u,Wp (xs:=(n.map fst).map V.str) (λi z c=>(∃o3,z=[some (.ref d),some<|.ref p,some<|.ref a,o3])/\mK H c/\c pf=some (.lst<|(n.map fst).map V.str)/\c a=some (.lst<|((n.map fst).take i).map V.str)/\As (vA (C.map fst) val) (n.map fst) i)
   #[#[none,rfl],s1.trans x,u,x.at e1,λj y h=>absurd h<|Dx _] ?_ ?_ ?_]]
  ·rintro i z c _ ⟨_,_,e,_⟩;show mZ e
  ·rintro i v z U hi ⟨⟨o3,rfl⟩,Y,e3,l,N⟩;rw[nU]at hi;obtain⟨y,B,rfl⟩:=oo.mp hi;have D5:i<(n.map fst).length:=(pz.mp B).1;rw[mV]at D5;have npa:pf≠a:=λx=>by
    rw[x]at n2;rw[e1]at n2;cases n2
   let I17:IC:=λe c=>e=[some (.ref d),some<|.ref p,some<|.ref a,some<|.str y]/\mK U c/\y∉(n.map fst).take i/\¬vA (C.map fst) val y
   refine qz I17 ?_ ?_
   ·refine qo (Zt (sJ<|uF (wJ hr (pv 3)<|pv 2)<|vj<|tZ hr (Zx (Ks T) hr<|Zb (pv 0)<|Zb (pv 3) Za) Zg) Zo Zl)<|.inl #[.inl<|mZ l,rfl,Xg _,?_];rw[ng oK,X1];have M:∀g,mK U g->(y∈(n.map fst).take i\/vA (C.map fst) val y)->∀L,g L=none->E (.ref T.aX) (some L) (mT g L<|.xd [("part",.str y)]):=λg u o L hn=>qE L _ y ((Y.trans u).trans (pC hn)) ((Y.trans u).free hn) #[i,B,o,N] Zc
    refine Yl (λJ=>?_) λJ=>?_
    ·show mX (Ap T.ej T.cQ (GG T) T.aS.b hr rfl T.ir<|Zb (pv 3) Za)<|qf rfl<|M U (qy _)<|.inl<|pL J
    ·have J:y∉(n.map fst).take i:=λx=>J<|og x
     refine#[d,y,C,val,rfl,O7.mono Y,hfd,N3,Q6,λr g u hh=>.inl #[rfl,Yl (λo=>?_) λo=>?_]]
     ·have o:r≠ "":=λx=>by rw[x]at o;simp at o
      show mX (Ap T.ej T.cQ (GG T) T.aS.b hr rfl T.ir<|Zb (pv 3) Za)<|qf rfl<|M g u<|.inr<|(NI w6 hh).mp o
     ·refine#[rfl,u,J,λx=>o ?_];have:=(NI w6 hh).mpr x;simp[this]
   rintro e g ⟨rfl,u,I,G⟩;refine mX (Z1<|rD (pv 2)<|pv 3) #[.inl #[rfl,_,mZ<|u.at l],u.at l,?_,#[_,rfl],λb o x=>?_,?_,?_,?_]
   ·rw[mV,oF];show Zp (by lia)
   ·rw[Zd (Ze x n1)];show u.at<|Y.at x
   ·rw[Zd npa];show u.at e3
   ·rw[Zc,oH,B,nJ]
    rfl
   ·intro j x o r;rcases wS j i with h|h
    ·show N j x h r
    ·have:j=i:=by lia
     subst this;rw[B]at r;cases r;show#[I,G]
  ·rintro z U ⟨_,Y,_,_,N⟩;rw[mV,mV]at N;show WSs.nil<|q U Y N
def qH(y:lX lY)(val:lY->lX Zv)(z:lY)(ss:lX Zv):lY->lX Zv:=open Classical in λt=>if t=z then(if z∈y then val z else[])++ss else val t
def Ip(z:lX lY)(y:lY):lX lY:=open Classical in if y∈z then z else z++[y]
def uN(y:lX (lY×lZ))(z:lY)(l:lZ):lX (lY×lZ):=open Classical in if z∈y.map fst then y.map (λq=>if q.1=z then(z,l)else q)else y++[(z,l)]
def Sr(u:lX (lY×lZ))(x:lY)(l:lZ):(uN u x l).map fst=Ip (u.map fst) x:=by
 unfold uN Ip
 by_cases z:x∈u.map fst
 ·rw[nj z,nj z,oU];refine AE λq _=>?_
  by_cases y:q.1=x
  ·simp[y]
  ·simp[y]
 ·rw[ng z,ng z,nJ]
  rfl
def Vi(u:lX (lY×lZ))(y:lY)(l:lZ):Wj (Z2 V.ref u) (Sum.inr y) (.ref l)=Z2 V.ref (uN u y l):=by
 unfold uN
 by_cases z:y∈u.map fst
 ·rw[nj z];have x:((Z2 V.ref u).any λkv=>decide<|kv.1=Sum.inr y)=true:=by
   obtain⟨q,s,rfl⟩:=nH.mp z;show HX.mpr #[(Sum.inr q.1,V.ref q.2),nH.mpr #[q,s,rfl],by simp]
  unfold Wj;rw[nj x];unfold Z2;rw[oU,oU];refine AE λq _=>?_
  by_cases h:q.1=y
  ·simp[h]
  ·have:¬(Sum.inr q.1:nI)=Sum.inr y:=λz=>h<|wl z
   simp[h,this]
 ·rw[ng z];show Lj z
def JI(h:e∈uN u x l):e=(x,l)\/(e∈u/\e.1≠x):=by
 unfold uN at h
 by_cases z:x∈u.map fst
 ·rw[nj z]at h;obtain⟨q,s,rfl⟩:=nH.mp h
  by_cases y:q.1=x
  ·show .inl<|nj y
  ·rw[ng y];show .inr #[s,y]
 ·rw[ng z]at h;rcases oO.mp h with y|y
  ·show .inr #[y,λw=>z<|w ▸ nH.mpr #[e,y,rfl]]
  ·show .inl<|pK.mp y
def Yc6(h:(u.map fst).Nodup)(p:(u.map snd).Nodup)(s:l∉u.map snd):((uN u o l).map snd).Nodup:=by
 unfold uN
 by_cases z:o∈u.map fst
 ·rw[nj z];clear z
  induction u with
  | nil=>show uw
  | cons q u i =>
   rw[oq,pZ]at h p;rw[oq,oh,wH]at s;rw[oq,oq,pZ];refine#[λg=>?_,i h.2 p.2 s.2];obtain⟨e,d,x⟩:=nH.mp g;obtain⟨r,j,rfl⟩:=nH.mp d
   by_cases y:q.1=o
   ·rw[nj y]at x;have n:r.1≠o:=λw=>h.1 (by rw[y,<-w];show nH.mpr #[r,j,rfl])
    rw[ng n]at x;show s.2<|nH.mpr #[r,j,x]
   ·rw[ng y]at x
    by_cases n:r.1=o
    ·rw[nj n]at x;show s.1 x
    ·rw[ng n]at x;show p.1<|nH.mpr #[r,j,x]
 ·rw[ng z,nJ,qu];show#[p,by simp,λa x b r=>by rw[List.map_singleton,pK]at r;rw[r];intro y;rw[y]at x;show s x]
def Yv.put{val:lY->lX Zv}(h:Yv H d u val)(e:mK H r)(n:Xc r l ((if x∈u.map fst then val x else[])++ss)) :
  Yv (mT r d<|.dK<|Wj (Z2 V.ref u) (Sum.inr x)<|.ref l) d (uN u x l) (qH (u.map fst) val x ss):=by
 have s:=e.at h.1;have off:∀{c:lZ}{p:lX Zv},Xc r c p->Xc (mT r d<|.dK<|Wj (Z2 V.ref u) (Sum.inr x)<|.ref l) c p:=λ{c p} z=>z.off (λy=>by obtain⟨_,o,_⟩:=z;rw[y,s]at o;cases o) λa y=>by rw[s]at y;cases y
 refine#[by rw[Zc,Vi],λq j=>?_];rcases JI j with rfl|⟨i,g⟩
 ·have:qH (u.map fst) val x ss x=(if x∈u.map fst then val x else[])++ss:=by unfold qH;rw[nj rfl]
  change Xc _ l (qH (u.map fst) val x ss x);rw[this];show off n
 ·have:qH (u.map fst) val x ss q.1=val q.1:=by unfold qH;rw[ng g]
  rw[this];show off<|(h.2 q i).mono e
structure Qr(H Hf:Hp)(D:Addr)(names:List Str)(val:Str->List Zv)(i:Nat)(ys:List V)(H':Hp):Prop where
 same:mK Hf H'
 at':H' D=some (.lst ys)
 all:∃(tps:List Addr)(i9:List (Str×Addr)),ys=tps.map V.ref/\i9.map fst=names.take i/\(i9.map snd).Nodup/\(∀e∈i9,H e.2=none/\e.2≠D/\Xc H' e.2 (val e.1))/\Paired (λt (q:nI×V)=>H' t=some (.tup [kV q.1,q.2])) tps (Z2 V.ref i9)
inductive OC(C:lZ):Sp
 | mk (d p tr) (es:lX (lY×lZ)) (val:lY->lX Zv) (ss:lX Zv):vs=[.ref d,.str tr,.ref p]->Yv H d es val->(es.map fst).Nodup->es.length<=100->(∀t,(val t).length<=100)->(∀t∈es.map fst,t≠ "")->xK H p ss->ss.length<=100->(∀d' H' i9,As (vA (es.map fst) val) (ss.map fst) ss.length->mK H H'->H d'=none->Yv H' d' i9 (qH (es.map fst) val tr ss)->i9.map fst=Ip (es.map fst) tr->(i9.map snd).Nodup->(∀e∈i9,H e.2=none)->Q (.ref d') H')->(∀dx H' x,mK H H'->H dx=none->Ol (vA (es.map fst) val) (ss.map fst) x->H' dx=some (.xd [("part",.str x)])->E (.ref C) (some dx) H')->OC C vs H Q E
def Qh:Xm P w K mg mM (ou P w) 4 T.ck.f T.ck.fd ["paths","train","steps"] (OC T.aX):=by
 refine T.ck.F.okX Mb ?_;rfl'
 ·obtain⟨d,p,Y,C,val,ss,rfl,O7,hfd,N3,Q6,w6,hp,K5,q,qE⟩:=h;intro X D;refine mW (Z1<|Xa (Zle T) hr.m rfl T.bJ.m T.bJ.F.kp T.bJ.b .nil Ws<|Zb (pv 0)<|Zb (pv 2) Za) #[d,p,C,val,ss,rfl,O7,hfd,N3,Q6,w6,hp,K5,λH1 s1 hg=>?_,qE];have U:=O7.mono s1;refine mW (nG 3 Mb<|Yw (r:=BY) (HW rfl) (by rfl) T.ei wR<|Zb (GH<|pT ["name","path"] (pr 2 [] rfl) (zZ<|pv 0) (vX (K:=K) (n:=2) rfl rfl<|Zu (oJ 0)<|Zu (oJ 1) Y8) Wi (Zi<|Zb (pv 0)<|Zb (Yw (r:=Ak K) Dd (by rfl) T.eU xN<|Zb (pv 1) Za) Za)) Za) #[U.1,λo nf D hD=>Ij (Qr H1 (mT H1 d<|.frz o<|.dK<|Z2 V.ref C) D (C.map fst) val) ?_ ?_ ?_ ?_]
  ·refine#[pC hD,Zc,[],[],rfl,rfl,uw,by simp,.nil]
  ·rintro i ys H' _ b;show b.same.at Zc
  ·rintro i kv ys H2 hi b tp H3 N n3 B;obtain⟨e,I,he,hfi,rfl⟩:=Vp hi;obtain⟨V7,_⟩:=U.read hfd (b.same.trans N) I;obtain⟨ts,u0,A0⟩:=id V7;obtain⟨tps,j,rfl,B8,hsd,x0,hpr⟩:=b.all;have hD1:H1 D=none:=by
    by_cases z:D=d
    ·rw[z,Zc]at hD;cases hD
    ·rw[Zd z]at hD;show hD
   have D5:i<C.length:=(pz.mp he).1;have hel':j.length=i:=by
    have:=oY List.length B8;rw[mV,oF,mV]at this;lia
   have M6:tps.length=i:=by
    have:=nW hpr;rw[show(Z2 V.ref j).length=j.length from mV ..]at this;lia
   have a:∀{c:lZ}{H':Hp},mK (mT H1 d<|.frz o<|.dK<|Z2 V.ref C) H'->H' c=none->H1 c=none:=λ{c H'} sm z=>by
    have:=sm.free z
    by_cases y:c=d
    ·rw[y,Zc]at this;cases this
    ·rw[Zd y]at this;show this
   refine#[nw B,rfl,rfl,(pA rfl).trans (pA rfl),.inl<|mZ u0,λl H4 x n4 e4=>#[mY,λt H5 g n5 e5=>#[g.at<|x.at<|N.at b.at',?_,?_,Zc,tps++[t],j++[(e.1,l)],?_,?_,?_,?_,?_]]]
   ·rw[mV];show Zp (by lia)
   ·intro c u z;rw[Zd (Ze z hD)];show g.at<|x.at<|N.at<|b.same.at z
   ·rw[nJ];rfl
   ·rw[nJ,B8,oH,hfi];rfl
   ·rw[nJ,qu];refine#[hsd,by simp,?_];rintro c hc c' J rfl;simp at J;obtain⟨M,G,hb⟩:=nH.mp hc;obtain⟨_,h1,_⟩:=(x0 M G).2.2;rw[hb,J,N.free n4]at h1;cases h1
   ·have L:=N.trans<|x.trans g;have offD:∀{c:lZ}{xs:lX Zv}{o':HO},c≠D->Xc H5 c xs->Xc (mT H5 D o') c xs:=λ{c xs o'} nc z=>z.off nc λws y=>by rw[L.at b.at']at y;cases y
    intro M G;rcases oO.mp G with z|z
    ·obtain⟨h0,J,h1⟩:=x0 M z;show#[h0,J,offD J<|h1.mono L]
    ·simp at z;subst z;have J:l≠D:=λy=>by
      have:=N.at b.at';rw[<-y,n4]at this;cases this
     show#[a b.same<|N.free n4,J,offD J #[ts,g.at e4,A0.mono<|x.trans g]]
   ·have L:=N.trans<|x.trans g;have J:∀{c:lZ}{xs:lX V},H5 c=some (.tup xs)->c≠D:=λ{c xs} z y=>by
     rw[y,L.at b.at']at z;cases z
    rw[show Z2 V.ref (j++[(e.1,l)])=Z2 V.ref j++[(Sum.inr e.1,V.ref l)]from nJ ..];refine pQ (nX hpr λt q z=>?_)<|.cons ?_ .nil
    ·have z5:=L.at z;rw[Zd (J z5)];show z5
    ·rw[Zd (J e5)];show e5
  ·rintro ys H2 b;have hDd:D≠d:=λz=>by rw[z,Zc]at hD;cases hD
   obtain⟨tps,j,rfl,B8,hsd,x0,hpr⟩:=b.all;rw[Yct,pD]at B8;have st:mK H1 (mT H2 d<|.dK<|Z2 V.ref C):=Cn U.1 b.same;have hfz:=b.same.at (show(mT H1 d<|.frz o<|.dK<|Z2 V.ref C) d=some (.frz o<|.dK<|Z2 V.ref C)from Zc);have L:(j.map fst).Nodup:=B8 ▸ hfd;have hel':j.length=C.length:=by
    have:=oY List.length B8;rw[mV,mV]at this;show this
   refine#[d,o,_,hfz,nf,D,tps,Z2 V.ref j,rfl,by rw[Zd hDd];show b.at',nX hpr λt q z=>?_,?_,λd' H3 N n3 B=>?_]
   ·rw[Zd λy=>by rw[y,hfz]at z;cases z];show z
   ·have:(Z2 V.ref j).map fst=(j.map fst).map Sum.inr:=by
     unfold Z2;rw[oU,oU]
     rfl
    rw[this];show Ff _ (λa b h z=>h<|wl z) L
   have x9:=st.trans N;have J:Yv H3 d' j val:=by
    refine#[B,λq hq=>?_];obtain⟨_,_,h1⟩:=x0 q hq;refine(h1.off (λy=>?_) λxs y=>?_).mono N
    ·obtain⟨_,h2,_⟩:=h1;rw[y,hfz]at h2;cases h2
    ·rw[hfz]at y;cases y
   obtain⟨us,v6,huv⟩:=hp.mono<|s1.trans x9;have O8:us.length=ss.length:=nW huv;have hdn:H d'=none:=s1.free<|st.free n3;have fin:∀(l:lZ)(H6:Hp),mK H3 H6->H3 l=none->Xc H6 l ((if Y∈j.map fst then val Y else[])++ss)->WSs (W8 (ou P w) P w K mg mM ["paths","train","steps","told"] "longer" (Zj CZ) T.ck.f d6 A mJ s H E) [((Y1 CZ).getD 3 (.Pass #[0,0,0,0]))] {nx:=λ_ H'=>Q .non H',rt:=Q} [some (.ref d),some<|.str Y,some<|.ref p,some<|.ref d'] (mT H6 d'<|.dK<|Wj (Z2 V.ref j) (Sum.inr Y)<|.ref l):=by
    intro l H6 I n6 hl;have O1:=J.put I hl;rw[B8]at O1;refine mX (Zk<|pv 3)<|q d' _ (uN j Y l) hg ?_ hdn O1 ?_ ?_ ?_
    ·intro c u z;rw[Zd (Ze z hdn)];show I.at<|x9.at<|s1.at z
    ·rw[Sr,B8]
    ·refine Yc6 L hsd λz=>?_
     obtain⟨M,G,rfl⟩:=nH.mp z;obtain⟨_,h2,_⟩:=J.2 M G;rw[n6]at h2;cases h2
    ·intro M G;rcases JI G with rfl|⟨a,_⟩
     ·show s1.free<|x9.free n6
     ·show s1.free (x0 M a).1
   have sml:(Z2 V.ref j).length<=1000:=by rw[show(Z2 V.ref j).length=j.length from mV ..];lia
   by_cases hin:Y∈j.map fst
   ·obtain⟨M,G,hqe⟩:=nH.mp hin;obtain⟨vs,K3,a⟩:=J.2 M G;rw[hqe]at a;have hvn:vs.length=(val Y).length:=nW a;have hgt:Wc H3 d' (.str Y) (some<|.ref M.2):=by
     rw[<-hqe,<-xZ L G];show Wc.k (k:=Sum.inr M.1) B
    refine mW (tS (Xv hr) (pv 3) (pv 1) (Zn Wl (xP (Xv hr) (pv 3) (pv 1) (Zm Za) #[rfl,rfl,rfl,rfl])<|Yw (r:=Ak K) Dd (by rfl) T.eU xN<|Zb (pv 2) Za) rfl) #[d',rfl,.inl #[_,.inl B],mY,λl0 H4 x n4 e4=>#[_,Ji x hgt,v6.imp (λe=>mZ<|x.at e) λe=>nw<|x.at e,λl1 H5 g n5 e5=>.inr<|.inr #[g.at<|x.at K3,e5,?_,λl2 H6 I n6 e6=>#[qL.k (k:=Sum.inr Y) (I.at<|g.at<|x.at B)<|Zp sml,fin l2 H6 (x.trans<|g.trans I) (x.free<|g.free n6) ?_]]]]
    ·rw[mV,mV];show sz (by have:=Q6 Y;lia)
    ·rw[nj hin];refine#[vs++us,by rw[e6,nJ],?_];show pQ (a.mono<|x.trans<|g.trans I)<|huv.mono<|x.trans<|g.trans I
   ·have hgt:Wc H3 d' (.str Y) none:=by
     rw[<-W4 (f:=V.ref) hin];show Wc.k (k:=Sum.inr Y) B
    refine mW (tS (Xv hr) (pv 3) (pv 1) (Zn Wl (xP (Xv hr) (pv 3) (pv 1) (Zm Za) #[rfl,rfl,rfl,rfl])<|Yw (r:=Ak K) Dd (by rfl) T.eU xN<|Zb (pv 2) Za) rfl) #[d',rfl,.inl #[_,.inl B],mY,λl0 H4 x n4 e4=>#[_,Ji x hgt,v6.imp (λe=>mZ<|x.at e) λe=>nw<|x.at e,λl1 H5 g n5 e5=>.inr<|.inr #[g.at e4,e5,?_,λl2 H6 I n6 e6=>#[qL.k (k:=Sum.inr Y) (I.at<|g.at<|x.at B)<|Zp sml,fin l2 H6 (x.trans<|g.trans I) (x.free<|g.free n6) ?_]]]]
    ·rw[mV];show sz (by simp;lia)
    ·rw[ng hin];show#[us,by rw[e6];simp,huv.mono<|x.trans<|g.trans I]
structure Gd where
 lies:List (Str×Str)
 stiff:List (Str×Bool)
 val:Str->List Zv
 told:List (Str×Bool)
structure wP(H:Hp)(dl ds dp dt:Addr)(es:List (Str×Addr))(g:Gd):Prop where
 lies:H dl=some (.dK<|Z2 V.str g.lies)
 stiff:H ds=some (.dK<|Z2 V.bl g.stiff)
 paths:Yv H dp es g.val
 told:H dt=some (.dK<|Z2 V.bl g.told)
def wP.mono(e:mK H z)(h:wP H dl ds y x u g):wP z dl ds y x u g:=#[e.at h.lies,e.at h.stiff,h.paths.mono e,e.at h.told]
def CW{z:Type}{f:z->V}(s:lX (lY×z))(x:lY):Xe (Z2 f s) (Sum.inr x)=(s.lookup x).map f:=by
 induction s with
 | nil=>rfl
 | cons r s q =>
  rw[show Z2 f (r ::s)=(Sum.inr r.1,f r.2) ::Z2 f s from rfl]
  by_cases y:r.1=x
  ·subst y;rw[yT rfl,rH,AY]
   rfl
  ·rw[wa λu=>y<|wl u,q,rH];have:(x ==r.1)=false:=by rw[sO];show λu=>y u.symm
   rw[this]
def Kc(H:Hp)(x dl ds z y:lZ):Prop:=∃u,H x=some (.ins T.cN u [("lie_of",.ref dl),("stiff_ones",.ref ds),("path_of",.ref z),("told",.ref y)])
inductive Go(K:mf):Sp
 | mk (x C dx u1 u2 u3 u4):vs=[.ref x,u1,u2,u3,u4]->H x=some (.ins C dx [])->pN K C->nq K C "lie_of"->nq K C "stiff_ones"->nq K C "path_of"->nq K C "told"->Q .non (mT H x<|.ins C dx [("lie_of",u1),("stiff_ones",u2),("path_of",u3),("told",u4)])->Go K vs H Q E
def Zgl:T.bN.O P w mg mM 1 (Go K):=by
 refine T.bN.F.okA ?_;rfl'
 ·obtain⟨x,C,p,o,n,l,j,rfl,z,c,y,u,r,q,k⟩:=h;intro X D;refine mW (Wq (pv 0) (pv 1) rfl) #[z,c,y,by simp,?_];refine mW (Wq (pv 0) (pv 2) rfl) #[Zc,c,u,by change 1<1000;decide,?_];refine mW (Wq (pv 0) (pv 3) rfl) #[Zc,c,r,by change 2<1000;decide,?_];refine mX (Wq (pv 0) (pv 4) rfl) #[Zc,c,q,by change 3<1000;decide,?_];rw[Ht,Ht,Ht];show k
def Pr:lX V->Hp->VK->Prop:=λr H Q=>∃dl y u s,r=[.ref dl,.ref y,.ref u,.ref s]/\∀x z,mK H z->H x=none->Kc T z x dl y u s->Q (.ref x) z
def VG:∀vs H Q,Pr T vs H Q->
  ∀x z,H x=none->H z=none->z≠x->Go K (.ref x ::(vs++[])) (mT (mT H z<|.own x) x<|.ins T.cN z []) (λv s=>v=.non/\Q (.ref x) s) E0:=by
 rintro vs H Q ⟨dl,p,o,n,rfl,h⟩ x z y r l;refine#[x,T.cN,z,_,_,_,_,rfl,Zc,T.dI,T.dJ,T.cY,T.dA,T.eL,rfl,h x _ (λb o e=>?_) y #[z,Zc]];have u:b≠x:=Ze e y;have q:b≠z:=Ze e r;rw[Zd u,Zd u,Zd q];show e
def yL(H:Hp)(v:V)(a:me (lY×lY)):Prop:=match a with|none=>v=.non|some z=>∃p,v=.ref p/\H p=some (.tup [.str z.1,.str z.2])
def uK(P:mn)(w:mj)(K:mf)(mg:lY->me ma)(mM:mi)(k:Nat)(H:Hp)(f x:lZ)(a:me (lY×lY)):Prop :=
 ∀z,mK H z->wf z f/\∀Q:VK,(∀v y,mK z y->yL y v a->Q v y)->EY P w K mg mM k f z [.ref x] Q
def uK.up(h:uK P w K mg mM k H f x a)(l:k<=j):uK P w K mg mM j H f x a:=λz y=>#[(h z y).1,λQ q A u s r p=>(h z y).2 Q q A u s r (p.mono l)]
def Yv.soft{val:lY->lX Zv}(z:∀b o,H b=some o->DC o->y b=some o)(h:Yv H d x val):Yv y d x val :=
 #[z _ _ h.1 trivial,λe u=>let⟨s,q,p⟩:=h.2 e u;#[s,z _ _ q trivial,nX p λ_ _ r=>z _ _ r trivial]]
def wP.soft(z:∀b o,H b=some o->DC o->y b=some o)(h:wP H dl ds x u s g):wP y dl ds x u s g :=
 #[z _ _ h.lies trivial,z _ _ h.stiff trivial,h.paths.soft z,z _ _ h.told trivial]
structure sN(T:Tx K mg)(H:Hp)(gr:Addr)(es:List (Str×Addr))(g:Gd)(dl ds dp dt:Addr):Prop where
 at_:Kc T H gr dl ds dp dt
 four:wP H dl ds dp dt es g
 vl:∀t,(g.val t).length<=100
 st:∀q∈g.stiff,q.2=true
 fd:(es.map fst).Nodup
 el:es.length<=100
 ne:∀e∈es,e.1≠ ""
def sN.mono(e:mK H z)(h:sN U H y x g dl ds u s):sN U z y x g dl ds u s:=#[h.at_.imp λ_ q=>e.at q,h.four.mono e,h.vl,h.st,h.fd,h.el,h.ne]
def sN.soft(z:∀b o,H b=some o->DC o->y b=some o)(h:sN U H x u g dl ds s r):sN U y x u g dl ds s r:=#[h.at_.imp λ_ q=>z _ _ q trivial,h.four.soft z,h.vl,h.st,h.fd,h.el,h.ne]
open Classical in
def Xw(z:lX lY)(g:Gd)(x:lY):me (lY×lY):=if ∃t∈z,x∈(g.val t).map fst then some (("held":lY),x)else none
def Xr(g:Gd)(x:lY):me (lY×lY):=if(g.told.lookup x).getD false=true then some (("taken":lY),x)else none
def yx(H:Hp)(f:lZ)(x:lY):Prop:=∃c,Clo H T.bV f (~~~"rule_held") (Bw<|pj Xu) (AA<|pj Xu) (vD<|pj Xu) [("part",c)]/\CellAt H c (.str x)
def ym(H:Hp)(f:lZ)(x:lY):Prop:=∃c,Clo H T.bt f (~~~"rule_taken") (Bw<|pj Xl) (AA<|pj Xl) (vD<|pj Xl) [("part",c)]/\CellAt H c (.str x)
def yx.mono(e:mK H z)(h:yx U H f x):yx U z f x:=let⟨c,y,u⟩:=h;#[c,y.mono e,u.mono e]
def ym.mono(e:mK H z)(h:ym U H f x):ym U z f x:=let⟨c,y,u⟩:=h;#[c,y.mono e,u.mono e]
inductive DT(R:Hp->lZ->lY->Prop):Sp
 | mk (x):vs=[.str x]->qx T H->(∀f H',mK H H'->H f=none->R H' f x->Q (.ref f) H')->DT R vs H Q E
def Es:T.dB.O P w mg mM 1 (DT T<|yx T):=by
 refine T.dB.F.okM T.eN VQ (λz H Q E h=>?_) λy A u s H z Q E r h=>?_
 ·obtain⟨x,rfl,_⟩:=h
  rfl
 ·obtain⟨x,rfl,y,q⟩:=h;show uQ.last #[rfl,y.rule_held,_,rfl,λu s r p o n=>q u s r p #[_,o,(n 0 "part" (.str x) _ rfl rfl rfl rfl).2]]
def HU:T.dg.O P w mg mM 1 (DT T<|ym T):=by
 refine T.dg.F.okM T.dY SJ (λz H Q E h=>?_) λy A u s H z Q E r h=>?_
 ·obtain⟨x,rfl,_⟩:=h
  rfl
 ·obtain⟨x,rfl,y,q⟩:=h;show uQ.last #[rfl,y.rule_taken,_,rfl,λu s r p o n=>q u s r p #[_,o,(n 0 "part" (.str x) _ rfl rfl rfl rfl).2]]
def Ja{u:lX lY}{g:Gd}{x r:lY}(q:∀t∈u,t≠ "")(p:Gc u g.val x r):(r≠ "")↔∃t∈u,x∈(g.val t).map fst:=by
 rcases p with⟨t,y,s,rfl⟩|⟨o,rfl⟩
 ·show#[λ_=>#[_,y,s],λ_=>q _ y]
 ·show#[λz=>absurd rfl z,λ⟨t,y,s⟩=>absurd s<|o t y]
def Hy{H:Hp}{f U dl ds N C:lZ}{x:lY}{j:lX (lY×lZ)}{g:Gd}(R:yx T H f x)(G:sN T H U j g dl ds N C):uK P w K mg mM 4 H f U (Xw (j.map fst) g x):=by
 intro B M;obtain⟨c,J,ce⟩:=R.mono M;have L:rK B (vD<|pj Xu) [("part",c)] ["part"] [.str x]:=#[.cons #[rfl,c,rfl,ce] .nil,by simp,by simp,by simp]
 refine#[J.fn,λQ q=>?_];refine BK (g :="ground") J L (λ_ _ _ _=>rfl) rfl (by lk) (by left) (by left) rfl rfl rfl λd6 A mJ s I=>?_
 have u:=(G.mono M).soft λb o e n=>L.soft e n
 obtain⟨z,hg⟩:=u.at_;refine rM (W6 (tZ I (Zx (Ks T) I<|Zb (Z8 (pv 0) rfl)<|Zb (pv 1) Za) Zg) (Zi<|Zb Zg<|Zb (pv 1) Za) sZ) #[hg,T.dI,T.dA,rfl,N,x,j,g.val,rfl,u.four.paths,u.fd,u.el,u.vl,λr z E l=>.inl #[rfl,Yl (λy=>?_) λy=>?_]]
 ·have y:r≠ "":=by simpa using y
  have i:=(Ja (λt h=>by obtain⟨e,d,rfl⟩:=nH.mp h;show G.ne e d) l).mp y;refine#[mY,λp H3 z n3 Q=>#[E.trans z,λa D Y=>q _ a Y ?_]];unfold Xw;rw[nj i];show#[p,rfl,D.at Q]
 ·have y:¬r≠ "":=by simpa using y
  have i:=λz=>y<|(Ja (λt h=>by obtain⟨e,d,rfl⟩:=nH.mp h;show G.ne e d) l).mpr z
  refine#[E,λa D Y=>q _ a Y ?_];unfold Xw;rw[ng i];show rfl
def FJ(R:ym T H f x)(G:sN T H h J g dl ds I d):uK P w K mg mM 4 H f h (Xr g x):=by
 intro a l;obtain⟨c,j,Y⟩:=R.mono l;have L:rK a (vD<|pj Xl) [("part",c)] ["part"] [.str x]:=#[.cons #[rfl,c,rfl,Y] .nil,by simp,by simp,by simp]
 refine#[j.fn,λQ q=>?_];refine BK (g :="ground") j L (λ_ _ _ _=>rfl) rfl (by lk) (by left) (by left) rfl rfl rfl λE A D s U=>?_
 have z:=(G.mono l).soft λb o e n=>L.soft e n
 obtain⟨p,N⟩:=z.at_;refine rM (W6 (Y7<|xP (Xv U) (Z8 (pv 0) rfl) (pv 1) rC #[rfl,rfl,rfl,rfl]) (Zi<|Zb Zg<|Zb (pv 1) Za) sZ) #[N,T.dI,T.eL,rfl,d,rfl,.inl #[_,.inl z.four.told],_,Wc.k (k:=Sum.inr x) z.four.told,?_];rw[CW];have e:(Option.map V.bl<|g.told.lookup x).getD (V.bl false)=V.bl ((g.told.lookup x).getD false):=by cases g.told.lookup x<;>rfl
 rw[e];refine(Yl (λy=>?_) λy=>?_)
 ·refine#[mY,λp C Q B M=>#[Q,λu i r=>q _ u r ?_]];unfold Xr;rw[nj y];show#[p,rfl,i.at M]
 ·refine#[qy _,λu i r=>q _ u r ?_];unfold Xr;rw[ng y];show rfl
def Wt:lX (me<|lY×lY)->me (lY×lY)
 | []=>none
 | some z ::_=>some z
 | none ::r=>Wt r
theorem JK:∀{l:lX (me<|lY×lY)},(∀a∈l,a=none)->Wt l=none
 | [],_=>rfl
 | a ::r,h=>by
  have:a=none:=h a<|oN ..;subst this;show JK (l:=r) λb z=>h b<|oZ _ z
theorem JO:∀{l:lX (me<|lY×lY)}{i:Nat}{z:lY×lY},l[i]? =some (some z)->(∀a∈l.take i,a=none)->Wt l=some z
 | [],_,_,h,_=>by simp at h
 | a ::r,0,z,h,_=>by
  have:a=some z:=by simpa using h
  subst this
  rfl
 | a ::r,i+1,z,h,n=>by
  have:a=none:=n a (by simp);subst this;show JO (l:=r) (i:=i) (by simpa using h) λb y=>n b (by rw[Jv];show oZ _ y)
inductive Jj(P:mn)(w:mj)(K:mf)(mg:lY->me ma)(mM:mi):Sp
 | mk (l gr) (fs:lX lZ) (ans):vs=[.ref l,.ref gr]->SqL K H l (fs.map V.ref)->Paired (λf a=>uK P w K mg mM 5 H f gr a) fs ans->(∀v H',mK H H'->yL H' v (Wt ans)->Q v H')->Jj P w K mg mM vs H Q E
def EB:T.gq.O P w mg mM 6 (Jj P w K mg mM):=by
 refine T.gq.F.okW Gz ?_;rfl'
 ·obtain⟨l,G,fs,ans,rfl,d,c,q⟩:=h;intro X D;have C:fs.length=ans.length:=nW c;let r:IF:=λi z Y=>(∃o n,z=[some (.ref l),some<|.ref G,o,n])/\mK H Y/\∀a∈ans.take i,a=none
  refine mW (Xk pM rfl (Yi<|pv 0) (oE 2 Gz) Zo) #[d,Wp (xs:=fs.map V.ref) r #[#[none,none,rfl],qy _,by simp] ?_ ?_ ?_]
  ·rintro i z Y _ ⟨_,y,_⟩;show y.seq d
  ·rintro i v z U N ⟨⟨o,n,rfl⟩,x,u⟩;rw[nU]at N;obtain⟨f,B,rfl⟩:=oo.mp N;obtain⟨a,M,an⟩:=pE c B;obtain⟨L,run⟩:=an U x;refine mW (nG 3 Gz<|QN (k:=5) hr (pv 2)<|Zb (pv 1) Za) #[f,rfl,L,L,run _ λv H2 J j=>?_];refine mX (Zt (Yd ZD (pv 3) sZ<|Yo _) Zo Zl) #[rfl,Yl (λg=>?_) λg=>?_]
   ·refine mX (Zk<|pv 3)<|q v H2 (x.trans J) ?_;cases a with
    | none=>cases(show v=.non from j);simp at g
    | some y=>rw[JO M u];show j
   ·refine#[#[_,_,rfl],x.trans J,λb I=>?_];rw[oH,M,oO]at I;rcases I with y|y
    ·show u b y
    ·simp at y;rw[y];cases a with
     | none=>rfl
     | some y=>obtain⟨p,e,_⟩:=j;subst e;simp at g
  ·rintro z U ⟨⟨o,n,rfl⟩,x,u⟩;rw[mV,C,pD]at u;show mX (Zk sZ) (q _ _ x<|by rw[JK u];rfl)
def rE:lX lY:=["","a","b","c","d","stem","left","right"]
def uO(ns:lX Zh)(q:S4):Prop:=q.1∈ns.map snd/\q.2.1∈rE/\q.2.2.1∈rE/\q.2.2.2∈rE/\(q.2.2.2≠ ""->(("points",q.1):Zh)∈ns)
def VT:∀k∈W7,∀z∈Yq k,∀y∈vm k,z∈rE/\vU k z y∈rE/\y∈rE:=by left
def WF:∀k∈W7,∀z∈vm k,z≠ ""->k ="points":=by left
def Ni(k:lY):(vm k).length<=2:=by unfold vm;split<;>decide
inductive pq(ns:List Zh)(H:Hp):List Addr->List S4->Prop
 | mk (h:Paired (tM H) us qs) (o:∀q∈qs,uO ns q):pq ns H us qs
def pq.mono(e:mK H z)(h:pq ns H us qs):pq ns z us qs:=let⟨h,o⟩:=h;#[nX h λ_ _ r=>r.mono e,o]
def pq.nil:pq ns H [] []:=#[.nil,(λ_ z=>nomatch z)]
def pq.len(h:pq ns H us qs):us.length=qs.length:=let⟨h,_⟩:=h;nW h
def pq.snoc(h:pq ns H us qs)(r:tM H u q)(o:uO ns q):pq ns H (us++[u]) (qs++[q]):=by
 obtain⟨h,k⟩:=h;refine#[pQ h<|.cons r .nil,λp y=>?_];rcases oO.mp y with z|z
 ·show k p z
 ·rw[pK.mp z];show o
def pq.get(h:pq ns H us qs){i:Nat}{u:lZ}(e:us[i]? =some u):∃q,qs[i]? =some q/\tM H u q/\uO ns q:=by
 obtain⟨h,k⟩:=h;obtain⟨q,z,r⟩:=pE h e;show#[q,z,r,k q<|pi z]
def pq.off{xs:lX V}(h:pq ns H us qs)(y:H c=some (.lst xs)):pq ns (mT H c o) us qs:=by
 obtain⟨h,k⟩:=h;show#[nX h λt q (r:H t=_)=>show mT H c o t=_ from(Zd λz=>by rw[z,y]at r;cases r).trans r,k]
def Ed(ns:lX Zh)(H:Hp)(l:lZ)(n:Nat):Prop:=∃z y,H l=some (.lst<|z.map V.ref)/\pq ns H z y/\y.length<=n
def Ed.none{n:Nat}(h:H l=some (.lst [])):Ed ns H l n:=#[[],[],h,.nil,rR _]
inductive Ox:Sp
 | mk (x t) (e:Zh) (ps js sg):vs=[.ref x,.ref t]->Zz T H x ps js sg->Y4 ps js sg->Zs H t e->(∀l H',mK H H'->H l=none->Ed ps H' l 2->Q (.ref l) H')->Ox vs H Q E
def Zx1{ps:lX Zh}{e:Zh}(h:e∈Yt ps):∃k,((k,e.1):Zh)∈ps/\e.2∈Yq k:=by
 obtain⟨p,z,y⟩:=vI.mp h;obtain⟨x,u,rfl⟩:=nH.mp y;show#[p.1,z,u]
def Dc{z:Hp}{u:lZ}{e:Zh}(h:Zs z u e):Im K z 1 (pR e) (.ref u):=vt (n:=0) (nw h)<|.cons (.str _)<|.cons (.str _) .nil
def Ti:T.ek.O P w mg mM 4 (Ox T):=by
 refine T.ek.F.okW W9 ?_;rfl'
 ·obtain⟨x,t,⟨nm,U⟩,N,js,sg,rfl,tr,yv,ht,q⟩:=h;intro X D;obtain⟨y,_,_,_,_,_,_,_,_,h1,_⟩:=tr.ex;have imN:∀e:Hp,Im K e 1 (pR ("","")) (.ref T.dL):=λe=>vt (n:=0) (T.iM e)<|.cons (.str _)<|.cons (.str _) .nil
  by_cases hm:((nm,U):Zh)∈Yt N
  ·obtain⟨k,hk,R8⟩:=Zx1 hm;have O5:=yv.net.kind _ hk;refine mW (Zt (Wu hr (Yf (pv 0) T.am T.cR (EV T) hr.m T.aY.b .nil Z0<|Zb (pv 1) Za)<|Xz (v:=.ref T.dL) (by rfl) T.ib rfl) Zo Zl) #[h1,rfl,x,t,(nm,U),N,js,sg,rfl,tr,yv,ht,.inl #[hm,λt' u p g=>.inr<|.inl #[1,pR u,pR ("",""),by lk,.inl #[_,_,rfl,rfl],Dc g,imN _,Yl (λz=>?_) λ_=>?_]]]
   ·show mX (Zk<|Zm Za) #[mY,λl H2 M n2 e2=>q l H2 M n2<|.none e2]
   refine mW (nG 2 W9<|nQ (pv 1) Zf)<|.inr<|.inl #[nw ht,Zq (j:=0) rfl,?_];refine mW (nG 3 W9<|nQ (pv 1) Zf)<|.inr<|.inl #[nw ht,Zq (j:=1) rfl,?_];refine mW (nG 4 W9<|Yf (pv 0) T.am T.bT (Wd T) hr.m T.aQ.b .nil Z0<|Zb (pv 2) Za) #[h1,rfl,x,nm,k,N,js,sg,rfl,tr,yv,hk,λy C H1 s1 hC hO=>?_];obtain⟨dy,hy⟩:=id hO;obtain⟨u,p,m1,b1,g1⟩:=hC.lies;refine mW (xx 5 ["lie","name","entry","part"] W9 (pr 1 [2,3,4] rfl) (Yi zX) (oJ 0) Wi (Zi<|Zb (pv 1)<|Zb (pv 2)<|Zb (Yf (pv 3) hC.cls.1 hC.cls.2.2 (Zno T) hr.m T.aL.b .nil Z0<|Zb (pv 2)<|Zb (pv 0) Za)<|Zb (pv 0) Za))<|rM (Yk (pv 4) hC.cls.1 m1 (g1 _ _ _ 3<|by lk) hr b1 .nil Z0) #[hy,rfl,_,rfl,λp H2 M n2 e2=>#[mZ e2,λD hD=>Yz (K:=K) (xs:=(vm k).map V.str) (λi Y e=>(∃us qs,Y=us.map V.ref/\pq N e us qs/\qs.length=i)/\e D=some (.lst Y)/\mK H2 e) #[#[[],[],rfl,.nil,rfl],Zc,pC hD] ?_ ?_ ?_]]
   ·rintro i Y e _ ⟨_,_,sm⟩;show mZ<|sm.at e2
   ·rintro i v Y e I ⟨⟨us,qs,rfl,v6,hl⟩,a,sm⟩;rw[nU]at I;obtain⟨p,u,rfl⟩:=oo.mp I;have D5:=(pz.mp u).1;have h2:=Ni k;have O8:=v6.len;have g:=sm.at<|M.at hy;have lo:=VT k O5 U R8 p<|pi u;refine#[pA rfl,g,rfl,k,y,C,nm,U,p,rfl,hC,#[dy,g],λL J=>#[mY,λc G d n4 B=>#[d.at<|J.at a,by rw[mV];show Zp (by lia),#[us++[c],qs++[(nm,U,vU k U p,p)],by rw[nJ];rfl,?_,by rw[oj,hl];rfl],Zc,?_]]]
    ·show(((v6.mono J).mono d).snoc (q:=(nm,U,vU k U p,p)) B #[nH.mpr #[_,hk,rfl],lo.1,lo.2.1,lo.2.2,λc=>by rw[<-WF k O5 p (pi u) c];show hk]).off (d.at<|J.at a)
    ·intro b o z;rw[Zd (Ze z hD)];show d.at<|J.at<|sm.at z
   ·rintro Y L ⟨⟨us,qs,rfl,v6,hl⟩,hD3,J⟩;have hO3:qv L C y nm:=(hO.mono M).mono J;have h2:=Ni k;have O8:=v6.len;rw[mV]at hl;refine mX (Zk<|Z6 (r:=FA K) (Mp hr.units) (by rfl) T.cP wb<|Zb (pT ["step","part"] (pr 1 [4] rfl) (Yi<|pv 5) (oJ 0) (sS<|sJ<|uF (Yd (r:=sV K) (ur hr) (rc (K:=K) rfl (pv 0) Zf) Zg<|Yo _)<|vj<|Y7<|Z6 (r:=yS K) CT (by rfl) T.ak se<|Zb (pv 1)<|Zb (Xz (v:=.ref T.bx) (by rfl) T.ja rfl) Za) (pv 0)) Za) #[mZ hD3,λB A6=>Yz (K:=K) (xs:=us.map V.ref) (λi Y e=>(∃vs ws,Y=vs.map V.ref/\pq N L vs ws/\ws.length<=i)/\e B=some (.lst Y)/\mK L e) #[#[[],[],rfl,.nil,nK _],Zc,pC A6] ?_ ?_ ?_]
    ·rintro i Y e _ ⟨_,_,sm⟩;show mZ<|sm.at hD3
    ·rintro i v Y G I ⟨⟨vs,ws,rfl,K3,hl4⟩,c,d⟩;rw[nU]at I;obtain⟨a,T9,rfl⟩:=oo.mp I;obtain⟨q4,hq4,ht4,ok4⟩:=v6.get T9;have D5:=(pz.mp T9).1;obtain⟨ty,hty,hkit⟩:=hC.stop<|hO3.mono d;have Q6:=K3.len;have yes:G B=some (.lst<|vs.map V.ref)/\(vs.map V.ref).length<sizeLine/\(∃p u,vs.map V.ref++[.ref a]=p.map V.ref/\pq N L p u/\u.length<=i+1)/\mT G B (.lst<|vs.map V.ref++[.ref a]) B=some (.lst<|vs.map V.ref++[.ref a])/\mK L (mT G B<|.lst<|vs.map V.ref++[.ref a]) :=
      #[c,by rw[mV];show Zp (by lia),#[vs++[a],ws++[q4],by rw[nJ];rfl,K3.snoc ht4 ok4,by rw[oj];show DS hl4],Zc,λb o z=>by rw[Zd (Ze z A6)];show d.at z]
     have no:(∃p u,vs.map V.ref=p.map V.ref/\pq N L p u/\u.length<=i+1)/\G B=some (.lst<|vs.map V.ref)/\mK L G:=#[#[vs,ws,rfl,K3,by lia],c,d]
     refine#[pA rfl,.inr<|.inl #[nw<|d.at ht4,Zq (j:=2) rfl,.inl #[rfl,Yl (λ_=>yes) λ_=>#[hty,.inr #[_,rfl,hkit],?_]]]]
     by_cases g:k ="gate"\/k ="stop"
     ·rw[og g];show yes
     ·rw[ow g];show no
    ·rintro Y G ⟨⟨vs,ws,rfl,K3,hl4⟩,c,d⟩;rw[mV]at hl4;have p:=K3.mono d;refine#[B,vs,rfl,mZ c,λa ha=>?_,λg hp l H5 s5 n5 e5=>q l H5 (s1.trans<|M.trans<|J.trans<|d.trans s5) (s1.free<|M.free<|J.free<|d.free n5) ?_]
     ·obtain⟨i,I⟩:=At ha;obtain⟨q4,_,a,_⟩:=p.get I;show#[q4.1,[q4.2.1,q4.2.2.1,q4.2.2.2],a]
     ·obtain⟨hv,ok⟩:=p.mono s5;obtain⟨u,a,p2⟩:=EQ hp hv;show#[g,u,e5,#[p2,λq hq=>ok q<|a.mem_iff.mp hq],by rw[a.length_eq];lia]
  ·refine mW (Zt (Wu hr (Yf (pv 0) T.am T.cR (EV T) hr.m T.aY.b .nil Z0<|Zb (pv 1) Za)<|Xz (v:=.ref T.dL) (by rfl) T.ib rfl) Zo Zl) #[h1,rfl,x,t,(nm,U),N,js,sg,rfl,tr,yv,ht,.inr #[hm,λt' H1 s1 u y=>.inr<|.inl #[1,pR ("",""),pR ("",""),by lk,.inl #[_,_,rfl,rfl],Dc y,imN _,Yl (λ_=>?_) λz=>absurd (og rfl) z]]];show mX (Zk<|Zm Za) #[mY,λl H2 M n2 e2=>q l H2 (s1.trans M) (s1.free n2)<|.none e2]
inductive Kt:Sp
 | mk (x ps js sg):vs=[.ref x]->Zz T H x ps js sg->Y4 ps js sg->(∀l ts sg' H',mK H H'->H l=none->H' l=some (.lst<|ts.map V.ref)->Paired (zx H') ts sg'->sg'.Perm sg->Q (.ref l) H')->Kt vs H Q E
def Rn:T.cj.O P w mg mM 1 (Kt T):=by
 refine T.cj.F.okA ?_;rfl'
 ·obtain⟨x,u,l,C,rfl,tr,yv,q⟩:=h;intro X D;obtain⟨x,u,l,p,g,e,N,a,ko,h1,_,_,_,_,h6,h7,_⟩:=tr.ex;have hks:N.length=C.length:=by rw[h7.len];show mV ..
  have K5:=yv.sigs.len;refine mX (Zk<|Z6 (r:=FA K) (Mp hr.units) (by rfl) T.cP wb<|Zb (GH<|pT ["name","end"] (pr 2 [] rfl) (zZ<|Z8 (pv 0) rfl) (vX (K:=K) (n:=2) rfl rfl<|Zu (oJ 0)<|Zu (oJ 1) Y8) Wi (Zi<|Zb (pv 0)<|Zb (rc (K:=K) rfl (pv 1) Zf)<|Zb (rc (K:=K) rfl (pv 1) Zf) Za)) Za) #[h1,T.am,T.bF,rfl,h6,λo nf D B=>Ij (λi L H'=>mK (mT H p<|.frz o<|.dK N) H'/\H' D=some (.lst L)/\∃d:lX lZ,L=d.map V.ref/\Paired (zx H') d (C.take i)) #[pC B,Zc,[],rfl,.nil] ?_ ?_ ?_]
  ·rintro i L H' _ ⟨z,_⟩;show z.at Zc
  ·rintro i kv L J hi ⟨M,A6,d,rfl,I⟩ tp H3 Y n3 e3;obtain⟨⟨nm,e⟩,g,a,t,hv,ht⟩:=pE h7 hi;have a:kv.1=Sum.inr nm:=a;rw[a,hv]at e3;have G:C[i]? =some (nm,e.1,e.2):=by
    unfold qS at g;rw[nU]at g;obtain⟨⟨g1,g2,g3⟩,G,e'⟩:=oo.mp g;rw[G];simp only[yz]at e';rw[<-e'.1,<-e'.2]
   have hto:t≠p:=λz=>by rw[z]at ht;show nomatch h6.symm.trans ht
   have htF:mT H p (.frz o<|.dK N) t=some (.tup [.str e.1,.str e.2]):=by
    rw[Zd hto];show ht
   have M6:d.length<=40:=by
    rw[nW I,oF];lia
   have x:=nw (K:=K)<|Y.at<|M.at htF;refine#[nw e3,rfl,rfl,(pA rfl).trans (pA rfl),.inr<|.inl #[x,Zq (j:=0) rfl,.inr<|.inl #[x,Zq (j:=1) rfl,mY,λt' H4 l n4 e4=>#[l.at<|Y.at A6,by rw[mV];show Zp (by lia),?_,Zc,d++[t'],by rw[nJ];rfl,?_]]]]
   ·intro c u z;rw[Zd (Ze z B)];show l.at<|Y.at<|M.at z
   ·have hD4:=l.at<|Y.at A6;have off:∀{c:lZ}{U:lX V}{u:HO},H4 c=some (.tup U)->mT H4 D u c=some (.tup U):=λ{c U u} z=>(Zd λy=>by rw[y,hD4]at z;cases z).trans z
    rw[oH,G];show pQ (nX I λ_ _ z=>off<|l.at<|Y.at z)<|.cons (off e4) .nil
  ·rintro L J ⟨M,A6,d,rfl,I⟩;rw[hks,pD]at I;have e:mK H (mT J p<|.dK N):=Cn h6 M;have u:D≠p:=λz=>by rw[z,Zc]at B;cases B
   have off:∀{c:lZ}{U:lX V},J c=some (.tup U)->mT J p (.dK N) c=some (.tup U):=λ{c U} z=>(Zd λy=>by rw[y,M.at Zc]at z;cases z).trans z
   have x:Paired (zx<|mT J p<|.dK N) d C:=nX I λ_ _ z=>off z
   refine#[p,o,_,M.at Zc,nf,D,d,rfl,mZ (by rw[Zd u];show A6),λa ha=>?_,λK0 hp l H3 Y n3 e3=>?_]
   ·obtain⟨i,hi⟩:=At ha;obtain⟨g,_,G⟩:=pE x hi;show#[g.1,[g.2.1,g.2.2],G]
   ·obtain⟨g,a,p2⟩:=EQ hp x;show q l K0 g H3 (e.trans Y) (e.free n3) e3 (nX p2 λ_ _ z=>Y.at z) a
inductive OX:Sp
 | mk (x) (g:lY×Zh) (ps js) (sg:lX (lY×lY×lY)):vs=[.ref x,.str g.1]->Zz T H x ps js sg->Y4 ps js sg->(g:lY×lY×lY)∈sg->(∀(t:lZ)(H':Hp),mK H H'->Zs H' t g.2->Q (.ref t) H')->OX vs H Q E
def NZ:T.bw.O P w mg mM 2 (OX T):=by
 refine T.bw.F.okA ?_;rfl'
 ·obtain⟨x,⟨nm,e⟩,U,N,n,rfl,l,u,r,q⟩:=h;intro X D;obtain⟨x,U,N,j,M,L,i,J,I,p,_,_,_,_,o,g,_⟩:=l.ex;have d:((nm,e):lY×Zh)∈qS n:=nH.mpr #[(nm,e),r,rfl];obtain⟨v,c,t,rfl,a⟩:=g.get xL (by rw[QX];show u.sigs.nd) d;have y:Xe i (Xn nm)=some (.ref t):=c;refine mW (Zt (sJ<|uF (rO<|Y7<|Zx (FG T) hr<|Zb (pv 1) Za)<|vj<|tI hr (pv 1)<|Z8 (pv 0) rfl) Zo Zl) #[_,true,rfl,(u.sigs.name _ r).asked,λY z=>#[z.at p,T.am,T.bF,rfl,.inr<|.inl #[j,_,rfl,Wc.k (k:=Xn nm)<|z.at o,?_]]];rw[y];show mX (Zk<|vB (Xv hr) (Z8 (pv 0) rfl) (pv 1) λ_ _=>rfl) #[z.at p,T.am,T.bF,rfl,Cv.mk (v:=.ref t) (by rw[<-y];show Wc.k (k:=Xn nm)<|z.at o)<|q t Y z<|a.mono z]
def qh(ns:lX Zh)(H:Hp)(t:lZ)(sig:lY)(qs:lX S4):Prop:=∃z,H t=some (.tup<|.str sig ::z.map V.ref)/\pq ns H z qs
def qh.mono(e:mK H z)(h:qh ns H t sig qs):qh ns z t sig qs:=let⟨y,x,u⟩:=h;#[y,e.at x,u.mono e]
def qh.off{xs:lX V}(h:qh ns H t sig qs)(x:H c=some (.lst xs)):qh ns (mT H c o) t sig qs:=by
 obtain⟨u,y,s⟩:=h;show#[u,(Zd λz=>by rw[z,x]at y;cases y).trans y,s.off x]
inductive QB:Sp
 | mk (x t) (g:lY×Zh) (qs ps js) (sg:lX (lY×lY×lY)):vs=[.ref x,.ref t]->Zz T H x ps js sg->Y4 ps js sg->(g:lY×lY×lY)∈sg->qh ps H t g.1 qs->qs.length<=100->(∀l H',mK H H'->H l=none->Ed ps H' l 2->(12<=qs.length->H' l=some (.lst []))->Q (.ref l) H')->QB vs H Q E
def TB{H:Hp}{ps:lX Zh}{q:lX (Zh×Zh)}{e:Zh}{Q:lZ->Hp->Prop}{r:lZ->Prop}(p:∀t',Q t' H->r t')(h:∀t' x y,mK H y->Zs y t' x->Q t' y):(e∈Yt ps/\∀t' x,((e,x):Zh×Zh)∈qJ q->Zs H t' x->r t')\/(e∉Yt ps/\∀t' y,mK H y->H t'=none->Zs y t' ("","")->Q t' y):=by
 by_cases z:e∈Yt ps
 ·show .inl #[z,λt' x _ u=>p t'<|h t' x H (qy _) u]
 ·show .inr #[z,λt' y s _ u=>h t' _ y s u]
def Se(n:Nat):wE (n+1) (-1)=some n:=by
 unfold wE;rw[ng (by lk)];simp
 constructor<;>lia
def Hu{z:Type}(xs:lX z)(x:z):oP (xs++[x]) (-1)=some x:=by
 unfold oP;rw[oj,zL,Se];simp
def NJ:T.fG.O P w mg mM 5 (QB T):=by
 refine T.fG.F.okW Ea ?_;rfl'
 ·obtain⟨x,t,⟨sig,e⟩,qs,ps,js,sg,rfl,tr,yv,hg,⟨d,ht,v6⟩,l,q⟩:=h;intro X D;have O8:=v6.len;obtain⟨l,_,_,_,_,_,_,_,_,h1,_⟩:=tr.ex;have C:((V.str sig ::d.map V.ref).length:Int)=((qs.length+1:Nat):Int):=by rw[pJ,mV,O8]
  refine mW (Zt (Yd xw (pI T.bh<|pv 1) (AL (by rfl) T.gP)<|Yo _) Zo Zl)<|.inl #[.inr<|nw ht,Yl (λy=>?_) λy=>?_]
  ·show mX (Zk<|Zm Za) #[mY,λl H1 I n1 e1=>q l H1 I n1 (.none e1) λ_=>e1]
  have y:qs.length<12:=by
   rcases wS qs.length 12 with p|p
   ·show p
   ·show absurd (og<|by rw[C];lia) y
  refine mW (nG 2 Ea<|Yf (pv 0) T.am T.dz (NZ T) hr.m T.bw.b .nil Z0<|Zb (nQ (pv 1) Zf) Za) #[h1,rfl,.inr<|.inl #[nw ht,Zq (j:=0) rfl,x,(sig,e),ps,js,sg,rfl,tr,yv,hg,λtp H1 I hp=>?_]];have N:=I.at ht;let I19:IC:=λz c=>∃tl e',z=[some (.ref x),some<|.ref t,some<|.ref tp,some<|.ref tl,none]/\mK H1 c/\Zs c tl e'
  refine qz I19 ?_ ?_
  ·refine qo (nG 3 Ea<|W6 (Wu hr (pI T.bh<|pv 1) Zf) (pv 2)<|Zx (HN T) hr<|Zb (nQ (pv 1)<|DX Cz Zf) Za)<|.inl #[.inr<|nw N,.inl #[rfl,Yl (λp=>?_) λp=>?_]]
   ·show#[tp,e,rfl,qy _,hp]
   ·have p:0<d.length:=by
     rcases Nat.eq_zero_or_pos d.length with v|v
     ·show absurd (og<|by rw[C,<-O8,v];rfl) p
     ·show v
    obtain⟨B,a,rfl⟩:∃B a,d=B++[a]:=#[d.dropLast,d.getLast<|List.ne_nil_of_length_pos p,(Ej _).symm]
    obtain⟨qq,_,G,_⟩:=(v6.mono I).get (i:=B.length) (u:=a) (by simp);have la:oP (V.str sig ::(B++[a]).map V.ref) (-1)=some (.ref a):=by
     rw[nJ,<-List.cons_append];show Hu _ _
    show .inr<|.inl #[nw N,la,a,qq,rfl,G,λl H3 s3 n3 e3=>#[l,_,rfl,s3,e3]]
  rintro z H2 ⟨tl,e',rfl,s2,hl⟩;have ht2:=s2.at N;have hus2:=(v6.mono I).mono s2;refine mW (nG 4 Ea<|Zn Wl (Zm<|Zb (nQ (pv 2) Zf) Za)<|pT ["step"] (pr 1 [] rfl) (zH<|Wm (r:=tT K) uA (pv 1) (tQ Zf) ut) (oJ 0) Wi (rc (K:=K) rfl (pv 0) Zf))<|.inr<|.inl #[nw<|s2.at hp,Zq (j:=0) rfl,mY,λla H3 s3 n3 e3=>.inl #[nw<|s3.at ht2,?_,λt4 H4 s4 l M=>#[nw M,λD hD=>?_]]]
  ·rintro⟨p,_⟩;have:HT.sIx (V.str sig ::d.map V.ref).length 0 (some 1)=1:=by
    unfold HT.sIx;simp
   rw[this]at p;cases p
  have M:H4 t4=some (.tup<|d.map V.ref):=by
   have M:H4 t4=some (.tup<|rX (V.str sig ::d.map V.ref) (some ((1:Nat):Int)) none):=M;rw[yU]at M;show M
  refine Gq (K:=K) (xs:=d.map V.ref) (λi n c=>n=((qs.take i).map fst).map V.str/\c D=some (.lst n)/\mK H4 c) #[rfl,Zc,pC hD] ?_ ?_ ?_
  ·rintro i n c _ ⟨_,_,sm⟩;show nw<|sm.at M
  ·rintro i v n H5 hi ⟨rfl,U1,s5⟩;rw[nU]at hi;obtain⟨a,Y,rfl⟩:=oo.mp hi;obtain⟨qq,l,G,_⟩:=hus2.get Y;have r5:=G.mono<|s3.trans<|s4.trans s5;refine#[pA rfl,.inr<|.inl #[nw r5,Zq (j:=0) rfl,U1,by rw[mV,mV,oF];show Zp (by lia),?_,Zc,λb o p=>?_]]
   ·rw[oH,l,nJ,nJ];rfl
   ·rw[Zd (Ze p hD)];show s5.at p
  rintro n H5 ⟨rfl,U1,s5⟩;refine .inr<|.inr #[(s4.trans s5).at e3,U1,by rw[mV,mV,oF];show sz (by change 1+_<=_;lia),λl H6 s6 n6 e6=>?_];have s26:=s3.trans<|s4.trans<|s5.trans s6;have g:=I.trans<|s2.trans s26;refine mX (Zk<|pT ["step","passed"] (pr 1 [4] rfl) (Yi<|Zx (Ti T) hr<|Zb (pv 0)<|Zb (Yf (pv 0) T.am T.cR (EV T) hr.m T.aY.b .nil Z0<|Zb (pv 3) Za) Za) (oJ 0) (sS<|Yd (r:=Fb K) (Px hr) (rc (K:=K) rfl (pv 0) Zf) (pv 1)<|by with_unfolding_all rfl) (pv 0)) #[g.at h1,rfl,x,tl,e',ps,js,sg,rfl,tr.mono g,yv,hl.mono s26,TB (λ_ y=>y) λt7 e7 H7 s7 p7=>#[x,t7,e7,ps,js,sg,rfl,tr.mono<|g.trans s7,yv,p7,λl8 l s8 n8 ⟨vs,B,h8,K3,K1⟩=>#[mZ h8,λD2 A6=>Yz (K:=K) (xs:=vs.map V.ref) (λi n c=>(∃L bs,n=L.map V.ref/\pq ps l L bs/\bs.length<=i)/\c D2=some (.lst n)/\mK l c) #[#[[],[],rfl,.nil,nK _],Zc,pC A6] ?_ ?_ ?_]]]
  ·rintro i n c _ ⟨_,_,sm⟩;show mZ<|sm.at h8
  ·rintro i v n H9 hi ⟨⟨L,bs,rfl,has,hb⟩,U,J⟩;rw[nU]at hi;obtain⟨a,Y,rfl⟩:=oo.mp hi;obtain⟨qq,_,G,ok⟩:=K3.get Y;have l:=has.len;have Q6:=K3.len;have D5:=(pz.mp Y).1;refine#[pA rfl,.inr<|.inl #[nw<|G.mono J,Zq (j:=0) rfl,.inl #[.inl<|mZ<|(s7.trans<|s8.trans J).at e6,rfl,Xg _,Yl (λ_=>?_) λ_=>?_]]]
   ·show#[U,by rw[mV];show Zp (by lia),#[L++[a],bs++[qq],by rw[nJ];rfl,has.snoc G ok,by rw[oj];show DS hb],Zc,λb o p=>by rw[Zd (Ze p A6)];show J.at p]
   ·show#[#[L,bs,rfl,has,by lia],U,J]
  ·rintro n H9 ⟨⟨L,bs,rfl,has,hb⟩,U,J⟩;rw[mV]at hb;have Q6:=K3.len;show q D2 H9 (g.trans<|s7.trans<|s8.trans J) (g.free<|s7.free<|s8.free A6) #[L,bs,U,has.mono J,by lia] λp=>absurd p (by lia)
def wt(ss:lX S4):Nat:=3 ^ (14-ss.length)
theorem LN:∀bs:lX (lX S4),bs.length<=(bs.map wt).sum
 | []=>nK _
 | b ::bs=>by
  have:=LN bs;have:1<=wt b:=Nat.one_le_pow _ _ (by lk);change bs.length+1<=wt b+(bs.map wt).sum;lia
def qI(ns:lX Zh)(H:Hp)(l:lZ)(sig:lY)(y:lX (lX S4)):Prop:=∃z:lX lZ,H l=some (.lst<|z.map V.ref)/\Paired (λt x=>qh ns H t sig x) z y
def qI.mono(e:mK H z)(h:qI ns H l sig y):qI ns z l sig y:=let⟨x,u,s⟩:=h;#[x,e.at u,nX s λ_ _ r=>r.mono e]
def qI.off{xs:lX V}(h:qI ns H l sig z)(y:H c=some (.lst xs))(n:l≠c):qI ns (mT H c o) l sig z:=let⟨x,u,s⟩:=h;#[x,(Zd n).trans u,nX s λ_ _ r=>r.off y]
def qI.add{ts:lX lZ}{z:lX (lX S4)}(y:H l=some (.lst<|ts.map V.ref))(h:Paired (λt ss=>qh ns H t sig ss) ts z)(r:qh ns H t sig ss):qI ns (mT H l<|.lst<|ts.map V.ref++[.ref t]) l sig (z++[ss]) :=
 #[ts++[t],by rw[Zc,nJ];rfl,pQ (nX h λ_ _ r=>r.off y)<|.cons (r.off y) .nil]
def xt(r:lX S4):Prop:=r≠[]/\r.length<=12
inductive Ky:Sp
 | mk (x) (g:lY×Zh) (ps js) (sg:lX (lY×lY×lY)):vs=[.ref x,.str g.1]->Zz T H x ps js sg->Y4 ps js sg->(g:lY×lY×lY)∈sg->(∀l rs H',mK H H'->H l=none->qI ps H' l g.1 rs->rs.length<=4782969->(∀r∈rs,xt r)->Q (.ref l) H')->Ky vs H Q E
inductive FX(ns:List Zh)(H:Hp)(x lf lb:Addr)(sig:Str)(p:Nat->Prop):Nat->St->Hp->Prop
 | mk (rs bs o4 o5):mK H H'->qI ns H' lf sig rs->qI ns H' lb sig bs->rs.length+(bs.map wt).sum<=4782969->(∀b∈bs,b.length<=12)->(∀r∈rs,xt r)->p (bs.map wt).sum->FX ns H x lf lb sig p (bs.map wt).sum [some (.ref x),some<|.str sig,some<|.ref lf,some<|.ref lb,o4,o5] H'
inductive QJ(ns:List Zh)(H:Hp)(x lf lb ta l6:Addr)(sig:Str)(vs:List Addr)(ws ah:List S4)(m1 m2:Nat):St->Hp->Prop
 | mk (rs bs o5):(bs.map wt).sum<=m1->rs.length+(bs.map wt).sum<=m2->mK H H'->H' l6=some (.lst<|vs.map V.ref)->pq ns H' vs ws->qh ns H' ta sig ah->qI ns H' lf sig rs->qI ns H' lb sig bs->(∀b∈bs,b.length<=12)->(∀r∈rs,xt r)->QJ ns H x lf lb ta l6 sig vs ws ah m1 m2 [some (.ref x),some<|.str sig,some<|.ref lf,some<|.ref lb,some<|.ref ta,o5] H'
def Zlh:T.dS.O P w mg mM 6 (Ky T):=by
 refine T.dS.F.okW Wn ?_;rfl'
 ·obtain⟨x,⟨sig,e⟩,M,js,sg,rfl,tr,yv,hg,q⟩:=h;intro X D;refine mW (nG 2 Wn<|Zm Za) #[mY,λlf u s1 n1 e1=>?_];refine mW (nG 3 Wn<|Zm<|Zb (Zi<|Zb (pv 1) Za) Za) #[mY,λt2 u s2 p e2=>#[mY,λd n s3 n3 e3=>?_]];have nfb:lf≠d:=λy=>by rw[y]at e1;rw[s2.at e1]at n3;cases n3
  have nlb:H d=none:=s1.free<|s2.free n3;have C4:=s1.trans<|s2.trans s3;let I20:IC:=λz H'=>(∃o3 o4 o5,z=[some (.ref x),some<|.str sig,some<|.ref lf,o3,o4,o5])/\mK H H'/\∃rs,qI M H' lf sig rs/\rs.length<=4782969/\∀r∈rs,xt r
  refine qz I20 ?_ ?_
  ·refine qo (Zyo pM (Zz2 (pv 3) λ_=>rfl) Zo) #[FX M H x lf d sig λ_=>True,#[_,.mk [] [[]] none none C4 #[[],s3.at<|s2.at e1,.nil] #[[t2],e3,.cons #[[],s3.at e2,.nil] .nil] (by left) (λb hb=>by rw[pK.mp hb];show rR _) (λ_ y=>nomatch y) trivial],?_];rintro n z H4 ⟨rs,bs,o4,o5,s4,O0,⟨ts,c,u0⟩,hsum,g8,L,_⟩;have M6:=nW u0;refine#[!(ts.map V.ref).isEmpty,.inl #[_,mZ c,rfl],?_];refine Yl (λy=>?_) λy=>#[#[_,_,_,rfl],s4,rs,O0,by lia,L];have y:0<ts.length:=by
    cases ts with
    | nil=>show absurd y (by lk)
    | cons a as=>show Nat.succ_pos _
   obtain⟨j,hta⟩:∃j,ts[ts.length-1]? =some j:=#[_,oR<|by lia]
   obtain⟨p,hah,ra⟩:=pE u0 hta;obtain⟨g,rfl⟩:=KI.mp (show ts.getLast? =some j by rw[KF];show hta);obtain⟨b1,rfl⟩:=KI.mp (show bs.getLast? =some p by rw[KF,<-M6];show hah);rw[nJ,GZ]at hsum;have hal:p.length<=12:=g8 p<|rF _ oN;have hlen1:∀b∈b1,b.length<=12:=λb hb=>g8 b<|zM _ hb
   obtain⟨B,hB⟩:∃B,B=3 ^ (13-p.length):=#[_,rfl]
   have hB1:1<=B:=by rw[hB];show Nat.one_le_pow _ _ (by lk)
   have hwt:(List.map wt [p]).sum=3 * B:=by
    change wt p+0=_;unfold wt;rw[hB,CO,show 14-p.length=(13-p.length)+1 by lia,Nat.pow_succ,Nat.mul_comm]
   rw[hwt]at hsum;refine#[λu H'=>∃n,FX M H x lf d sig (λn=>n<=(b1.map wt).sum+2 * B) n u H',λu H' ⟨n,h⟩=>?_,?_]
   ·obtain⟨T8,J,u,l,g1,g2,N,g4,g5,g6,g7⟩:=h;show#[_,by rw[nJ,GZ,hwt];lia,.mk T8 J u l g1 g2 N g4 g5 g6 trivial]
   refine mW (nG 4 Wn<|Ts xR Br EW SW<|pv 3) #[.inl #[rfl,_,mZ c],d,_,.ref j,rfl,rfl,c,?_,?_]
   ·rw[nJ,oj,mV];change(g.map V.ref++[V.ref j])[g.length+1-1]? =_;rw[Nat.add_sub_cancel,yM (by rw[mV];show nK _),mV,Nat.sub_self]
    rfl
   have el:mT H4 d (.lst ((g++[j]).map V.ref).dropLast) d=some (.lst<|g.map V.ref):=by rw[Zc,nJ];show oY (λl=>some<|HO.lst l)<|List.dropLast_concat
   have hts':Paired (λt ss=>qh M H4 t sig ss) g b1:=by
    have:=DQ g.length u0;rwa[List.take_left,show g.length=b1.length by have:=M6;rw[oj,oj]at this;simpa using this,List.take_left]at this
   have Y:=O0.off (o:=.lst ((g++[j]).map V.ref).dropLast) c nfb;have ra5:=ra.off (o:=.lst ((g++[j]).map V.ref).dropLast) c;have U:qI M (mT H4 d<|.lst ((g++[j]).map V.ref).dropLast) d sig b1:=#[g,el,nX hts' λ_ _ r=>r.off c]
   have s5:mK H (mT H4 d<|.lst ((g++[j]).map V.ref).dropLast):=s4.upd0 nlb;generalize mT H4 d (.lst ((g++[j]).map V.ref).dropLast)=H5 at Y ra5 U s5;refine mX (Xk pM rfl (Yi<|Zx (NJ T) hr<|Zb (pv 0)<|Zb (pv 4) Za) (oE 5 Wn) Zo) #[x,j,(sig,e),p,M,js,sg,rfl,tr.mono s5,yv,hg,ra5,by lia,λl6 l u n6 ⟨vs,ws,h6,K3,N⟩ h12=>#[mZ h6,Wp (K:=K) (xs:=vs.map V.ref) (λi=>QJ M H x lf d j l6 sig vs ws p ((b1.map wt).sum+i * B)<|rs.length+(b1.map wt).sum+i * B) (.mk rs b1 o5 (by lia) (by lia) (s5.trans u) h6 K3 (ra5.mono u) (Y.mono u) (U.mono u) hlen1 L) ?_ ?_ ?_]]
   ·rintro i z H' _ ⟨_,_,_,_,_,_,h,_⟩;show mZ h
   ·rintro i v z H7 hi ⟨T8,J,o5',w1,w2,s7,h7,I,G,C,hb7,hl7,ho7⟩;rw[nU]at hi;obtain⟨tq,htq,rfl⟩:=oo.mp hi;obtain⟨qq,_,rq,okq⟩:=I.get htq;have D5:=(pz.mp htq).1;have Q6:=K3.len;have hah12:p.length<12:=by
     rcases wS p.length 12 with u|u
     ·show u
     ·have:=h12 u;rw[h6]at this;cases vs with
      | nil=>show absurd D5 (Dx _)
      | cons a as=>cases this
    have hwn:wt (p++[qq])=B:=by
     unfold wt;rw[hB,oj];change 3 ^ (14-(p.length+1))=_;rw[show 14-(p.length+1)=13-p.length by lia]
    have nl6:l6≠lf/\l6≠d:=#[λv=>(let⟨_,k,_⟩:=Y;nomatch (v ▸ n6).symm.trans k),λv=>(let⟨_,k,_⟩:=U;nomatch (v ▸ n6).symm.trans k)]
    have iB:(i+1) * B=i * B+B:=by rw[Nat.add_mul,Nat.one_mul]
    have sB:i * B<=1 * B:=MW _ (by lia);have al:(p++[qq]).length<=12:=by rw[oj];show hah12
    have tup:∀{H8:Hp},mK H7 H8->∀{t8:lZ},H8 t8=some (.tup [.ref tq])->∀{Q':VK},(∀t9 H9,mK H8 H9->qh M H9 t9 sig (p++[qq])->Q' (.ref t9) H9)->Mj K (.ref j) (.ref t8) H8 Q':=λ{H8} s8 {t8} e8 {Q'} k=>by
     obtain⟨ws,g1,g2⟩:=G.mono s8;have hwl:=g2.len;refine#[j,t8,_,_,rfl,rfl,nw g1,nw e8,by simp,by simp,by rw[pJ,mV,hwl];show sz (by change _+1+1<=_;lia),λt9 H9 l n9 e9=>k t9 H9 l #[ws++[tq],?_,(g2.mono l).snoc ((rq.mono s8).mono l) okq]];rw[e9,nJ];rfl
    refine mX (Zt (Y7<|Zx (KM T) hr<|Zb (pv 0)<|Zb (pv 5) Za) Zo Zo) #[x,tq,qq,M,js,sg,rfl,tr.mono s7,yv,rq,λH8 s8=>Yl (λ_=>?_) λ_=>?_]
    ·obtain⟨fs,f1,f2⟩:=C.mono s8;refine mX (Z1<|rD (pv 2)<|Zn Nw (pv 4)<|Zi<|Zb (pv 5) Za) #[.inl #[rfl,_,mZ f1],mY,λt8 H9 l n9 e9=>tup (s8.trans l) e9 λt9 L0 w5 r10=>#[(l.trans w5).at f1,?_,?_]]
     ·have P9:=nW f2;rw[mV,tR,P9];lia
     have N:=s8.trans<|l.trans w5;have fe:=(l.trans w5).at f1;refine .mk (T8++[p++[qq]]) J (some<|.ref tq) (by lia) (by rw[oj];change _+1+_<=_;lia) ((s7.trans N).upd0 n1) ((Zd nl6.1).trans (N.at h7)) ((I.mono N).off fe) ((G.mono N).off fe) (qI.add fe (nX f2 λ_ _ r=>r.mono<|l.trans w5) r10) ((hb7.mono N).off fe nfb.symm) hl7 λr J8=>?_
     rcases oO.mp J8 with v|v
     ·show ho7 r v
     ·rw[pK.mp v];show#[by simp,al]
    ·obtain⟨fs,f1,f2⟩:=hb7.mono s8;refine mX (Z1<|rD (pv 3)<|Zn Nw (pv 4)<|Zi<|Zb (pv 5) Za) #[.inl #[rfl,_,mZ f1],mY,λt8 H9 l n9 e9=>tup (s8.trans l) e9 λt9 L0 w5 r10=>#[(l.trans w5).at f1,?_,?_]]
     ·have P9:=nW f2;have:=LN J;rw[mV,tR,P9];lia
     have N:=s8.trans<|l.trans w5;have fe:=(l.trans w5).at f1;have hsm:((J++[p++[qq]]).map wt).sum=(J.map wt).sum+B:=by rw[nJ,GZ];change _+(wt (p++[qq])+0)=_;rw[hwn,CO]
     refine .mk T8 (J++[p++[qq]]) (some<|.ref tq) (by lia) (by lia) ((s7.trans N).upd0 nlb) ((Zd nl6.2).trans (N.at h7)) ((I.mono N).off fe) ((G.mono N).off fe) ((C.mono N).off fe nfb) (qI.add fe (nX f2 λ_ _ r=>r.mono<|l.trans w5) r10) (λb hb=>?_) ho7;rcases oO.mp hb with v|v
     ·show hl7 b v
     ·rw[pK.mp v];show al
   ·rintro z H7 ⟨T8,J,o5',w1,w2,s7,h7,I,G,C,hb7,hl7,ho7⟩;have Q6:=K3.len;rw[mV]at w1 w2;have sB:vs.length * B<=2 * B:=MW _ (by lia);show#[_,.mk T8 J _ _ s7 C hb7 (by lia) hl7 ho7<|by lia]
  rintro z H4 ⟨⟨o3,o4,o5,rfl⟩,s4,rs,⟨ts,h1,h2⟩,O6,L⟩;refine mX (Zk<|Z6 (r:=JW K) (Zt1 hr.units) (by rfl) T.cP wb<|Zb (pv 2) Za) #[lf,ts,rfl,mZ h1,λt ht=>?_,λK0 E5 l5 H5 s5 n5 e5=>?_]
  ·obtain⟨i,hi⟩:=At ht;obtain⟨ss,_,g,n,l⟩:=pE h2 hi;refine#[sig,g,n,λu c=>?_];obtain⟨j,a⟩:=At c;obtain⟨p,_,Y,_⟩:=l.get a;show#[[p.1,p.2.1,p.2.2.1,p.2.2.2],Y]
  ·obtain⟨T8,u,p⟩:=EQ E5 h2;show q l5 T8 H5 (s4.trans s5) (s4.free n5) #[K0,e5,nX p λ_ _ r=>r.mono s5] (by rw[u.length_eq];show O6) λr J8=>L r<|u.mem_iff.mp J8
inductive KC:Sp
 | mk (x a) (g:lY×Zh) (qs ps js) (sg:lX (lY×lY×lY)):vs=[.ref x,.ref a]->Zz T H x ps js sg->Y4 ps js sg->(g:lY×lY×lY)∈sg->qh ps H a g.1 qs->xt qs->(∀b H',mK H H'->Q (.bl b) H')->KC vs H Q E
def tM.im(h:tM H t q):Im K H 1 (Av q) (.ref t):=vt (n:=0) (nw h)<|.cons (.str _)<|.cons (.str _)<|.cons (.str _)<|.cons (.str _) .nil
def pq.im(h:pq ns H us qs):Paired (Im K H 1) (qs.map Av) (us.map V.ref):=by
 obtain⟨h,o⟩:=h;clear o
 induction h with
 | nil=>show .nil
 | cons r _ z=>show .cons (tM.im r) z
def RD:T.fH.O P w mg mM 6 (KC T):=by
 refine T.fH.F.okW Mv ?_;rfl'
 ·obtain⟨x,a,⟨sig,e⟩,qs,B,js,sg,rfl,L,J,hg,⟨d,c,v6⟩,⟨l,p⟩,q⟩:=h;intro X D;obtain⟨p,_,_,_,_,_,_,_,_,hx,_⟩:=L.ex;have c:H a=some (.tup<|V.str sig ::d.map V.ref):=c;have O8:=v6.len;have g8:(V.str sig ::d.map V.ref).length=qs.length+1:=by rw[pJ,mV,O8]
  refine mW (Zt (sJ<|uF (rO<|Y7<|vZ "tuple" T.ak T.iu MB<|pv 1)<|vj<|Yd xf (pI T.bh<|pv 1) Zf<|Yo _) Zo Zl) #[Xx.tup c,.inl<|qf rfl T.ki,(.inl #[.inr<|nw c,Yl (λ_=>mX (Zk rC)<|q _ _<|qy _) λ_=>?_])];refine mW (Zt (tI hr (nQ (pv 1) Zf)<|pT ["signal"] (pr 1 [] rfl) (Yi<|Yk (pv 0) T.am T.eR (Rn T) hr.m T.cj.b .nil Z0) (oJ 0) Wi (rc (K:=K) rfl (pv 0) Zf)) Zo Zl)<|.inr<|.inl #[nw c,Zq (j:=0) rfl,hx,rfl,x,B,js,sg,rfl,L,J,λl ts p H1 s1 n1 e1 r1 p1=>#[mZ e1,λD hD=>Yz (K:=K) (xs:=ts.map V.ref) (λi M U=>M=((p.take i).map fst).map V.str/\U D=some (.lst M)/\mK H1 U) #[rfl,Zc,pC hD] ?_ ?_ ?_]]
  ·rintro i M U _ ⟨_,_,sm⟩;show mZ<|sm.at e1
  ·rintro i v M H2 I ⟨rfl,A6,G⟩;rw[nU]at I;obtain⟨tg,p,rfl⟩:=oo.mp I;obtain⟨gg,l,rg⟩:=pE r1 p;have K5:=J.sigs.len;have m9:=p1.length_eq;refine#[pA rfl,.inr<|.inl #[nw<|G.at rg,Zq (j:=0) rfl,A6,by rw[mV,mV,oF];show Zp (by lia),?_,Zc,λb o y=>?_]]
   ·rw[oH,l,nJ,nJ];rfl
   ·rw[Zd (Ze y hD)];show G.at y
  rintro M H2 ⟨rfl,A6,G⟩;have A9:=s1.trans G;refine .inl #[.inl<|mZ A6,rfl,Xg _,Yl (λ_=>mX (Zk rC)<|q _ _ A9) λ_=>?_];refine mW (Xk pM rfl (CQ rfl T.dM<|Zb Zf<|Zb (pI T.bh<|pv 1) Za) (oE 2 Mv) Zo)<|.inl #[.inr<|nw<|A9.at c,1,_,rfl,#[by lk,by lk,by lia,by lia],?_];rw[show(((V.str sig ::d.map V.ref).length:Int)-1).toNat=d.length by rw[g8,O8];lia];let I21:IF:=λi z U=>(∃o,z=[some (.ref x),some<|.ref a,o])/\mK H U
  refine yw (n:=d.length) I21 #[#[none,rfl],A9] ?_ λz U ⟨⟨o,e⟩,sm⟩=>by
   subst e;show mX (Zk rC)<|q _ _ sm
  rintro i z H3 I ⟨⟨o,rfl⟩,N⟩;obtain⟨u,hu⟩:∃u,d[i]? =some u:=#[_,oR I]
  obtain⟨r,p,hq,l⟩:=v6.get hu;have Y:(1+(i:Nat):Int)=((i+1:Nat):Int):=by lia
  have av:oP (V.str sig ::d.map V.ref) (1+(i:Nat):Int)=some (.ref u):=by
   rw[Y];refine Zq ?_;change(d.map V.ref)[i]? =_;rw[nU,hu];rfl
  refine mW (Zt (tI hr (nQ (pv 1)<|pv 2)<|Zx (NJ T) hr<|Zb (pv 0)<|Zb (Wm (r:=tT K) uA (pv 1) ut<|tQ<|pv 2) Za) Zo Zl)<|.inr<|.inl #[nw<|N.at c,av,.inl #[nw<|N.at c,?_,λp H4 C n4 e4=>#[x,p,(sig,e),qs.take i,B,js,sg,rfl,L.mono<|N.trans C,J,hg,#[d.take i,?_,?_],?_,λl H5 s5 n5 ⟨vs,ws,e5,r5,hw5⟩ _=>.inr<|.inr #[l,1,Av r,ws.map Av,vs,rfl,mZ e5,by lk,tM.im<|hq.mono<|N.trans<|C.trans s5,r5.im,?_]]]]
  ·rintro⟨_,y⟩;rw[Y,HT.sIx_nat]at y;have y:min (i+1) (V.str sig ::d.map V.ref).length=(V.str sig ::d.map V.ref).length:=y;rw[g8]at y;lia
  ·rw[Y,Bx]at e4;rw[e4,wc];rfl
  ·obtain⟨h,o⟩:=v6.mono<|N.trans C;show#[DQ i h,λp l=>o p<|Aj l]
  ·rw[oF];lia
  have g:=N.trans<|C.trans s5;refine Yl (λ_=>mX (Zk rC)<|q _ _ g) λ_=>?_;refine mX (Zt (Y7<|Zx (KM T) hr<|Zb (pv 0)<|Zb (nQ (pv 1)<|pv 2) Za) Zo Zl)<|.inr<|.inl #[nw<|g.at c,av,x,u,r,B,js,sg,rfl,L.mono g,J,hq.mono g,λH6 s6=>Yl (λ_=>?_) λ_=>#[#[_,rfl],g.trans s6]];show mX (Zk<|sj hr (pv 2)<|Zn Hc (pI T.bh<|pv 1) Zf)<|.inl #[.inr<|nw<|(g.trans s6).at c,.inl #[rfl,q _ H6<|g.trans s6]]
def Gr(x:V)(xs:lX V):rX (x ::xs) (some 1) none=xs:=by
 rw[show(1:Int)=((1:Nat):Int)from rfl,yU]
 rfl
def Iy(x:V)(xs:lX V):¬(HT.sIx (x ::xs).length 0 (some 1)=0/\HT.sIx (x ::xs).length (x ::xs).length none=(x ::xs).length):=by
 rintro⟨h,_⟩;rw[show(1:Int)=((1:Nat):Int)from rfl,HT.sIx_nat]at h;rw[pJ]at h;lia
def pH{z:Type}(y:lX (lY×z))(x:lY)(v:z):lX (lY×z):=open Classical in if x∈y.map fst then y.map (λq=>if q.1=x then(x,v)else q)else y++[(x,v)]
def zT{z:Type}{f:z->V}(s:lX (lY×z))(x:lY)(v:z):Wj (Z2 f s) (Sum.inr x) (f v)=Z2 f (pH s x v):=by
 unfold pH
 by_cases y:x∈s.map fst
 ·rw[nj y];have u:((Z2 f s).any λkv=>decide<|kv.1=Sum.inr x)=true:=by
   obtain⟨q,r,rfl⟩:=nH.mp y;show HX.mpr #[(Sum.inr q.1,f q.2),nH.mpr #[q,r,rfl],by simp]
  unfold Wj;rw[nj u];unfold Z2;rw[oU,oU];refine AE λq _=>?_
  by_cases h:q.1=x
  ·simp[h]
  ·have:¬(Sum.inr q.1:nI)=Sum.inr x:=λy=>h<|wl y
   simp[h,this]
 ·rw[ng y];show Lj y
def yA{z:Type}(s:lX (lY×z))(x:lY)(v:z):(pH s x v).map fst=if x∈s.map fst then s.map fst else s.map fst++[x]:=by
 unfold pH
 by_cases y:x∈s.map fst
 ·rw[nj y,nj y,oU];refine AE λq _=>?_
  by_cases u:q.1=x
  ·simp[u]
  ·simp[u]
 ·rw[ng y,ng y,nJ]
  rfl
def Vm{z:Type}{s:lX (lY×z)}{x:lY}{v:z}(h:(s.map fst).Nodup):((pH s x v).map fst).Nodup:=by
 rw[yA]
 by_cases y:x∈s.map fst
 ·rw[nj y];show h
 ·rw[ng y,qu];show#[h,by simp,λa r b q=>by rw[pK]at q;rw[q];intro u;rw[u]at r;show y r]
def ug(z:lX (lY×lY)):lX Zv->lX (lY×lY)
 | []=>z
 | s ::y=>ug (if s.2.2.2 ="" then z else pH z s.1 s.2.2.2) y
def GW{z:Type}{P:lY×z->Prop}{s:lX (lY×z)}{x:lY}{v:z}(h:∀p∈s,P p)(k:P (x,v)):∀p∈pH s x v,P p:=λp u=>by
 unfold pH at u;split at u
 ·obtain⟨q,y,rfl⟩:=nH.mp u;split
  ·show k
  ·show h q y
 ·rcases oO.mp u with y|y
  ·show h p y
  ·rw[pK.mp y];show k
theorem MG{P:lY×lY->Prop}:∀{ss:lX Zv}{z:lX (lY×lY)},(∀p∈z,P p)->(∀s∈ss,P (s.1,s.2.2.2))->∀p∈ug z ss,P p
 | [],_,h,_=>h
 | s ::ss,z,h,k=>by
  change ∀p∈ug (if s.2.2.2 ="" then z else pH z s.1 s.2.2.2) ss,P p;refine MG ?_ λq y=>k q<|oZ _ y
  split
  ·show h
  ·show GW h<|k s oN
theorem Bc:∀{l m:lX lY},l.Nodup->(∀x∈l,x∈m)->l.length<=m.length
 | [],_,_,_=>rR _
 | a ::l,m,y,h=>by
  rw[pZ]at y;have u:=h a oN;have:=Bc (m:=m.erase a) y.2 λx s=>(Ri (λz:x=a=>y.1<|z ▸ s)).mpr (h x<|oZ _ s)
  rw[Rb u]at this;have:=List.length_pos_of_mem u;rw[pJ];lia
def yL.mono{H y:Hp}{v:V}{a:me (lY×lY)}(e:mK H y)(h:yL H v a):yL y v a:=by
 cases a with
 | none=>show h
 | some z=>obtain⟨p,x,u⟩:=h;show#[p,x,e.at u]
def vH(g:Gd)(x:lY):me (lY×lY):=if(g.stiff.lookup x).getD false=true then some (("stiff":lY),x)else none
def xb(H:Hp)(f:lZ)(x:lY):Prop:=∃c,Clo H T.ba f (~~~"rule_stiff") (Bw<|pj Yy) (AA<|pj Yy) (vD<|pj Yy) [("part",c)]/\CellAt H c (.str x)
def xb.mono{T:Tx K mg}{H z:Hp}{f:lZ}{x:lY}(e:mK H z)(h:xb T H f x):xb T z f x:=let⟨c,y,u⟩:=h;#[c,y.mono e,u.mono e]
def Mi:T.dh.O P w mg mM 1 (DT T<|xb T):=by
 refine T.dh.F.okM T.dZ RK (λz H Q E h=>?_) λy A u s H z Q E r h=>?_
 ·obtain⟨x,rfl,_⟩:=h
  rfl
 ·obtain⟨x,rfl,y,q⟩:=h;show uQ.last #[rfl,y.rule_stiff,_,rfl,λu s r p o n=>q u s r p #[_,o,(n 0 "part" (.str x) _ rfl rfl rfl rfl).2]]
def KS{H:Hp}{f l dl ds d a:lZ}{x:lY}{Y:lX (lY×lZ)}{g:Gd}(R:xb T H f x)(G:sN T H l Y g dl ds d a):uK P w K mg mM 4 H f l (vH g x):=by
 intro U j;obtain⟨c,i,N⟩:=R.mono j;have L:rK U (vD<|pj Yy) [("part",c)] ["part"] [.str x]:=#[.cons #[rfl,c,rfl,N] .nil,by simp,by simp,by simp]
 refine#[i.fn,λQ q=>?_];refine BK (g :="ground") i L (λ_ _ _ _=>rfl) rfl (by lk) (by left) (by left) rfl rfl rfl λE A D s M=>?_
 have z:=(G.mono j).soft λb o e n=>L.soft e n
 obtain⟨p,J⟩:=z.at_;refine rM (W6 (Y7<|xP (Xv M) (Z8 (pv 0) rfl) (pv 1) rC #[rfl,rfl,rfl,rfl]) (Zi<|Zb Zg<|Zb (pv 1) Za) sZ) #[J,T.dI,T.cY,rfl,ds,rfl,.inl #[_,.inl z.four.stiff],_,Wc.k (k:=Sum.inr x) z.four.stiff,?_];rw[CW];have e:(Option.map V.bl<|g.stiff.lookup x).getD (V.bl false)=V.bl ((g.stiff.lookup x).getD false):=by cases g.stiff.lookup x<;>rfl
 rw[e];refine(Yl (λy=>?_) λy=>?_)
 ·refine#[mY,λp C Q B I=>#[Q,λu h r=>q _ u r ?_]];unfold vH;rw[nj y];show#[p,rfl,h.at I]
 ·refine#[qy _,λu h r=>q _ u r ?_];unfold vH;rw[ng y];show rfl
def yh(H z:Hp):Prop:=∀b o,H b=some o->(∀y,o≠.lst y)->z b=some o
def _root_.L2.mK.fix(e:mK H z):yh H z:=λb _ h _=>e b _ h
def _root_.L2.Clo.fix(e:yh H x)(h:Clo H Pt u q s r p y):Clo x Pt u q s r p y:=by
 obtain⟨o,n,c,l,j,i,g,d,a,Y,U,Q,N⟩:=h;show#[o,n,c,l,j,i,g,e _ _ d (λ_ z=>nomatch z),e _ _ a (λ_ z=>nomatch z),Y,U,e _ _ Q (λ_ z=>nomatch z),N]
def _root_.L2.CellAt.fix(e:yh H y)(h:CellAt H c v):CellAt y c v:=by
 obtain⟨o,u,x,s⟩:=h;show#[o,u,e _ _ x (λ_ z=>nomatch z),s]
def Yi5(H:Hp)(f:lZ)(x:lY)(c:lZ):Prop:=Clo H T.ba f (~~~"rule_stiff") (Bw<|pj Yy) (AA<|pj Yy) (vD<|pj Yy) [("part",c)]/\CellAt H c (.str x)
def Ho(H:Hp)(f:lZ)(x l:lY):Prop:=∃(z y u fs s:lZ),Clo H T.bW f (~~~"rule_lies") (Bw<|pj Xt) (AA<|pj Xt) (vD<|pj Xt) [("stiff",u),("part",z),("lie",y)]/\
 CellAt H z (.str x)/\CellAt H y (.str l)/\CellAt H u (.ref fs)/\[u,z,y].Nodup/\Yi5 T H fs x s/\s∉[u,z,y]
inductive Rl where|held (x:Str)|taken (x:Str)|lies (x l:Str)
def vw(H:Hp)(f:lZ):Rl->Prop
 | .held x=>yx T H f x
 | .taken x=>ym T H f x
 | .lies x l=>Ho T H f x l
def vw.fix{T:Tx K mg}{H u:Hp}{f:lZ}{r:Rl}(e:yh H u)(h:vw T H f r):vw T u f r:=by
 cases r with
 | held x=>obtain⟨c,z,y⟩:=h;show#[c,z.fix e,y.fix e]
 | taken x=>obtain⟨c,z,y⟩:=h;show#[c,z.fix e,y.fix e]
 | lies x l=>obtain⟨s,q,p,fs,o,z,y,n,j,i,⟨g,d⟩,a⟩:=h;show#[s,q,p,fs,o,z.fix e,y.fix e,n.fix e,j.fix e,i,#[g.fix e,d.fix e],a]
def YO(n:Nat):[n+1+1+1,n+1,n+1+1].Nodup:=by
 rw[pZ,pZ];refine#[?_,?_,by simp]<;>simp only[oh,uV,qU,sU]<;>lia
def Vr:Sp:=λy H Q _=>∃x l:lY,y=[.str x,.str l]/\qx T H/\∀f z,mK H z->H f=none->Ho T z f x l->Q (.ref f) z
def Zqn:T.dC.O P w mg mM 2 (Vr T):=by
 refine T.dC.F.okM T.eO Oc (λe H Q E h=>?_) λz A y s H e Q E d h=>?_
 ·obtain⟨x,l,rfl,_⟩:=h
  rfl
 ·obtain⟨x,l,rfl,j,q⟩:=h;refine uQ.step (λz s=>∃f,z=[some (.str x),some<|.str l,some<|.ref f]/\mK H s/\xb T s f x) (qo (nG 2 Oc<|Zx (Mi T) d<|Zb (pv 0) Za) #[x,rfl,j,λf c y i u=>#[f,rfl,y,u]]) ?_;rintro z c ⟨f,rfl,y,a,Y,g⟩;refine uQ.last #[rfl,(j.mono y).rule_lies,_,rfl,λu s r o U p=>q u s (y.trans r) (y.free o) ?_];obtain⟨i,N⟩:=p 0 "part" (.str x) _ rfl rfl rfl rfl;obtain⟨M,L⟩:=p 1 "lie" (.str l) _ rfl rfl rfl rfl;obtain⟨J,I⟩:=p 2 "stiff" (.ref f) _ rfl rfl rfl rfl;obtain⟨o,u,n,_⟩:=id g;have G:=Ze n i;have D:=Ze n M;have C:=Ze n J;refine#[_,_,_,f,a,U,N,L,I,?_,#[Y.mono r,CellAt.mono r g],?_]
  ·show YO _
  ·simp only[oh,uV,qU,wH,sU];show#[C,G,D]
def wB(g:Gd)(x l:lY):me (lY×lY):=if(g.lies.lookup x).getD ""=l then none else vH g x
def Zyt{H:Hp}{f gr dl ds dp dt:lZ}{x l:lY}{es:lX (lY×lZ)}{g:Gd}(R:Ho T H f x l)(G:sN T H gr es g dl ds dp dt):uK P w K mg mM 5 H f gr (wB g x l):=by
 intro I j;obtain⟨h,d,a,fs,c',Y,U,N,M,nd,⟨E,D⟩,C⟩:=R
 replace Y:=Y.mono j
 replace U:=U.mono j
 replace N:=N.mono j
 replace M:=M.mono j
 replace E:=E.mono j
 replace D:=D.mono j
 have L:rK I (vD<|pj Xt) [("stiff",a),("part",h),("lie",d)] ["lie","stiff","part"] [.str l,.ref fs,.str x]:=#[.cons #[rfl,d,rfl,N]<|.cons #[rfl,a,rfl,M]<|.cons #[rfl,h,rfl,U] .nil,by simp,by change(["stiff","part","lie"]:lX lY).Nodup;decide,nd]
 have isC:∀b∈[a,h,d],∃o u,I b=some (Fz o)/\o.data=.cell (some u):=by
  intro b hb;simp only[oh,uV,qU,sU]at hb;rcases hb with rfl|rfl|rfl
  ·obtain⟨o,u,z,r,_⟩:=M;show#[o,u,z,r]
  ·obtain⟨o,u,z,r,_⟩:=U;show#[o,u,z,r]
  ·obtain⟨o,u,z,r,_⟩:=N;show#[o,u,z,r]
 refine#[Y.fn,λQ q=>?_];refine BK (g :="ground") Y L (λ_ _ _ _=>rfl) rfl (by lk) (by left) (by left) rfl rfl rfl λd6 A mJ s B=>?_
 have J:=(G.mono j).soft λb o e n=>L.soft e n
 have RS:xb T (offL I [("stiff",a),("part",h),("lie",d)]) fs x:=by
  refine#[c',?_,?_]
  ·obtain⟨pm,B2,c,oc,vs,tt,Pn,z,r,z3,z4,z5,z6⟩:=E;refine#[pm,B2,c,oc,vs,tt,Pn,?_,?_,z3,z4,?_,z6]
   ·rw[uo]
    ·show z
    ·intro y;obtain⟨o,u,p,Q⟩:=isC _ y;rw[z]at p;cases p;cases Q
   ·rw[uo]
    ·show r
    ·intro y;obtain⟨o,u,p,Q⟩:=isC _ y;rw[r]at p;cases p
   ·rw[uo]
    ·show z5
    ·intro y;obtain⟨o,u,p,Q⟩:=isC _ y;rw[z5]at p;cases p
  ·obtain⟨o,u,z,r⟩:=D;show#[o,u,by rw[uo C];show z,r]
 have AS:=KS (P:=P) (w:=w) (mM:=mM) T RS J;obtain⟨y,hg⟩:=J.at_;refine rM (W6 (Wu B (xP (Xv B) (Z8 (pv 0) rfl) (pv 3) Zg #[rfl,rfl,rfl,rfl])<|pv 1) sZ<|QN (k:=4) B (pv 2)<|Zb (pv 0) Za) #[hg,T.dI,T.dJ,rfl,dl,rfl,.inl #[_,.inl J.four.lies],_,Wc.k (k:=Sum.inr x) J.four.lies,?_];rw[CW];have e:(Option.map V.str<|g.lies.lookup x).getD (V.str "")=V.str ((g.lies.lookup x).getD ""):=by cases g.lies.lookup x<;>rfl
 rw[e];refine(.inl #[rfl,Yl (λi=>?_) λi=>?_])
 ·have i:(g.lies.lookup x).getD ""=l:=by simpa using i
  refine#[qy _,λH4 s4 s5=>q _ H4 s5 ?_];unfold wB;rw[nj i];show rfl
 ·have i:¬(g.lies.lookup x).getD ""=l:=by simpa using i
  obtain⟨y,run⟩:=AS _<|qy _;refine#[fs,rfl,y,y,run _ λv Q p c=>#[p,λH4 s4 s5=>q _ H4 s5 ?_]];unfold wB;rw[ng i];show c.mono s4
def sI:lX Zv->lX Rl
 | []=>[]
 | s ::z=>(if s.2.2.2 ="" then[.held s.1,.taken s.1]else[.held s.1,.taken s.1,.lies s.1 s.2.2.2])++sI z
theorem OG:∀(ss:lX Zv)(s:Zv),sI (ss++[s])=sI ss++(if s.2.2.2 ="" then[.held s.1,.taken s.1]else[.held s.1,.taken s.1,.lies s.1 s.2.2.2])
 | [],s=>by change _++[]=[]++_;rw[pO,AC]
 | r ::ss,s=>by
  change _++sI (ss++[s])=(_++sI ss)++_;rw[OG ss s,pp]
theorem Qd:∀ss:lX Zv,(sI ss).length<=3 * ss.length
 | []=>nK _
 | s ::ss=>by
  have:=Qd ss;change(_++sI ss).length<=_;rw[oj,pJ];split<;>simp<;>lia
def xU(z:lX lY)(g:Gd):Rl->me (lY×lY)
 | .held x=>Xw z g x
 | .taken x=>Xr g x
 | .lies x l=>wB g x l
def Ygb{H:Hp}{f z dl ds u s:lZ}{r:Rl}{y:lX (lY×lZ)}{g:Gd}(R:vw T H f r)(G:sN T H z y g dl ds u s):uK P w K mg mM 5 H f z (xU (y.map fst) g r):=by
 cases r with
 | held x=>show(Hy T R G).up (by lk)
 | taken x=>show(FJ T R G).up (by lk)
 | lies x l=>show Zyt T R G
def tY(H:Hp)(fs:lX lZ)(z:lX Rl):Prop:=Paired (λf r=>vw T H f r) fs z
def tY.fix{T:Tx K mg}{H z:Hp}{fs:lX lZ}{y:lX Rl}(e:yh H z)(h:tY T H fs y):tY T z fs y:=nX h λ_ _ r=>r.fix e
def tY.ans{T:Tx K mg}{H:Hp}{fs:lX lZ}{z:lX Rl}{y dl ds u s:lZ}{x:lX (lY×lZ)}{g:Gd}(h:tY T H fs z)(G:sN T H y x g dl ds u s):Paired (λf a=>uK P w K mg mM 5 H f y a) fs (z.map<|xU (x.map fst) g):=by
 unfold tY at h
 induction h with
 | nil=>show .nil
 | cons r _ q=>show .cons (Ygb T r G) q
inductive Jk:Sp
 | mk (r) (ns:lX Zh) (sig:lY) (ss:lX S4):vs=[.ref r]->qx T H->qh ns H r sig ss->ss.length<=100->(∀(l:lZ)(fs:lX lZ)(H':Hp),mK H H'->H l=none->H' l=some (.lst<|fs.map V.ref)->tY T H' fs (sI ss)->Q (.ref l) H')->Jk vs H Q E
def Ui:T.fJ.O P w mg mM 3 (Jk T):=by
 refine T.fJ.F.okW Fa ?_;rfl'
 ·obtain⟨r,ns,x,j,rfl,ht,⟨d,J8,A0⟩,u,q⟩:=h;intro X D;refine mW (nG 1 Fa<|Zm Za) #[mY,λl x s1 n1 e1=>?_];refine mW (Xk pM rfl (zH<|Wm (r:=tT K) uA (pv 0) (tQ Zf) ut) (oE 2 Fa) Zo)<|.inl #[nw<|s1.at J8,Iy _ _,λp x s2 n2 e2=>?_];rw[Gr]at e2;have L:=A0.mono<|s1.trans s2;have M6:d.length=j.length:=A0.len;have npl:p≠l:=λy=>by rw[y,e1]at n2;cases n2
  let I22:IF:=λi z M=>(∃o2,z=[some (.ref r),some<|.ref l,o2])/\mK H M/\M p=some (.tup<|d.map V.ref)/\pq ns M d j/\∃fs,M l=some (.lst<|fs.map V.ref)/\tY T M fs (sI<|j.take i)
  refine#[nw e2,LR (xs:=d.map V.ref) I22 #[#[none,rfl],s1.trans s2,e2,L,[],s2.at e1,.nil] ?_ ?_ ?_]
  ·rintro i z M _ ⟨_,_,e,_⟩;show nw e
  ·rintro i v z H3 hi ⟨⟨o2,rfl⟩,s3,e3,c,fs,J,I⟩;rw[nU]at hi;obtain⟨t,T9,rfl⟩:=oo.mp hi;obtain⟨st,hs,rt,_⟩:=c.get T9;have D5:i<j.length:=(pz.mp hs).1;have P9:fs.length<=300:=by
    have h1:=Qd<|j.take i;have h2:=nW I;rw[oF]at h1;lia
   have tk:sI (j.take<|i+1)=sI (j.take i)++(if st.2.2.2 ="" then[.held st.1,.taken st.1]else[.held st.1,.taken st.1,.lies st.1 st.2.2.2]):=by rw[oH,hs];show OG _ _
   have put:∀{U g:Hp}{f:lZ}{e:lX lZ}{rs:lX Rl}{r':Rl},mK H U->U p=some (.tup<|d.map V.ref)->pq ns U d j->U l=some (.lst<|e.map V.ref)->tY T U e rs->mK U g->vw T g f r'->
     mK H (mT g l<|.lst<|e.map V.ref++[.ref f])/\mT g l (.lst<|e.map V.ref++[.ref f]) p=some (.tup<|d.map V.ref)/\pq ns (mT g l<|.lst<|e.map V.ref++[.ref f]) d j/\mT g l (.lst<|e.map V.ref++[.ref f]) l=some (.lst<|(e++[f]).map V.ref)/\tY T (mT g l<|.lst<|e.map V.ref++[.ref f]) (e++[f]) (rs++[r']):=by
    intro U g f e rs r' G a2 C a a5 u B;have nt:∀xs,g l≠some (.tup xs):=λxs y=>by rw[u.at a]at y;cases y
    have fx:yh g (mT g l<|.lst<|e.map V.ref++[.ref f]):=λb o y n=>(Zd λx=>by rw[x,u.at a]at y;cases y;show n _ rfl).trans y
    refine#[λb o y=>?_,?_,(C.mono u).off (u.at a),by rw[Zc,nJ];rfl,pQ (tY.fix fx<|a5.fix u.fix)<|.cons (B.fix fx) .nil]
    ·rw[Zd (Ze y n1)];show u.at<|G.at y
    ·rw[Zd npl];show u.at a2
   refine mW (Z1<|rD (pv 1)<|Zx (Es T) hr<|Zb (nQ (pv 2) Zf) Za) #[.inl #[rfl,_,mZ J],.inr<|.inl #[nw rt,rfl,st.1,rfl,ht.mono s3,λf1 H4 s4 x r4=>#[s4.at J,by rw[mV];show Zp (by lia),?_]]];obtain⟨G,a2,C,a,a5⟩:=put s3 e3 c J I s4 (show vw T H4 f1 (.held st.1)from r4);have t5:qx T (mT H4 l<|.lst<|fs.map V.ref++[.ref f1]):=ht.mono G;generalize mT H4 l (.lst<|fs.map V.ref++[.ref f1])=H5 at G a2 C a a5 t5;obtain⟨C2,J5,rt5,_⟩:=C.get T9;rw[hs]at J5;cases J5;refine mW (Z1<|rD (pv 1)<|Zx (HU T) hr<|Zb (nQ (pv 2) Zf) Za) #[.inl #[rfl,_,mZ a],.inr<|.inl #[nw rt5,rfl,st.1,rfl,t5,λf2 H6 s6 x r6=>#[s6.at a,by rw[mV];show Zp (by rw[oj];simp;lia),?_]]];obtain⟨u,B,b3,b4,b5⟩:=put G a2 C a a5 s6 (show vw T H6 f2 (.taken st.1)from r6);have t7:qx T (mT H6 l<|.lst<|(fs++[f1]).map V.ref++[.ref f2]):=ht.mono u;generalize mT H6 l (.lst<|(fs++[f1]).map V.ref++[.ref f2])=H7 at u B b3 b4 b5 t7;obtain⟨C2,J5,N,_⟩:=b3.get T9;rw[hs]at J5;cases J5;rw[pp (sI<|j.take i)]at b5;refine mX (Zt (tZ hr (nQ (pv 2) Zf) Zg) Zo Zl)<|.inr<|.inl #[nw N,rfl,.inl #[rfl,Yl (λY=>?_) λY=>?_]]
   ·have Y:st.2.2.2≠ "":=λy=>by rw[y]at Y;simp at Y
    refine mX (Z1<|rD (pv 1)<|Zx (Zqn T) hr<|Zb (nQ (pv 2) Zf)<|Zb (nQ (pv 2) Zf) Za) #[.inl #[rfl,_,mZ b4],.inr<|.inl #[nw N,rfl,.inr<|.inl #[nw N,rfl,st.1,st.2.2.2,rfl,t7,λf3 H8 x n8 r8=>#[x.at b4,by rw[mV];show Zp (by rw[oj,oj];simp;lia),?_]]]];obtain⟨c1,c2,c3,c4,c5⟩:=put u B b3 b4 b5 x (show vw T H8 f3 (.lies st.1 st.2.2.2)from r8);refine#[#[_,rfl],c1,c2,c3,_,c4,?_];rw[tk,ng Y];rw[pp (sI<|j.take i)]at c5;show c5
   ·have Y:st.2.2.2 ="":=GP λy=>Y (by simp[y])
    refine#[#[_,rfl],u,B,b3,_,b4,?_];rw[tk,nj Y];show b5
  ·rintro z H3 ⟨⟨o2,rfl⟩,s3,_,_,fs,J,I⟩;rw[mV,M6,pD]at I;show mX (Zk<|pv 1)<|q l fs H3 s3 n1 J I
def rY(ss:lX Zv):lX (lY×lY):=(ss.filter λs:Zv=>decide<|s.2.2.2≠("":lY)).map λs=>(s.1,s.2.2.2)
def Rf(ss:lX Zv):(rY ss).length<=ss.length:=by unfold rY;rw[mV];show wW ..
def yc(H:Hp)(tps:lX lZ)(z:lX (lY×lY)):Prop:=Paired (λt (q:lY×lY)=>H t=some (.tup [.str q.1,.str q.2])) tps z
def yc.mono{H z:Hp}{tps:lX lZ}{y:lX (lY×lY)}(e:mK H z)(h:yc H tps y):yc z tps y:=nX h λ_ _ r=>e.at r
inductive LU:Sp
 | mk (r) (ns:lX Zh) (sig:lY) (ss:lX S4):vs=[.ref r]->qh ns H r sig ss->ss.length<=100->(∀(l:lZ)(tps:lX lZ)(H':Hp),mK H H'->H l=none->H' l=some (.lst<|tps.map V.ref)->yc H' tps (rY ss)->Q (.ref l) H')->LU vs H Q E
def Zuc:T.gn.O P w mg mM 1 LU:=by
 refine T.gn.F.okA ?_;rfl'
 ·obtain⟨r,z,y,d,rfl,⟨J,B,I⟩,x,q⟩:=h;intro X D;refine mX (Zk<|pT ["step"] (pr 1 [] rfl) (zH<|Wm (r:=tT K) uA (pv 0) (tQ Zf) ut) (oJ 0) (sS<|Yd (r:=sV K) (ur hr) (rc (K:=K) rfl (pv 0) Zf) Zg<|Yo _) (Zi<|Zb (rc (K:=K) rfl (pv 0) Zf)<|Zb (rc (K:=K) rfl (pv 0) Zf) Za))<|.inl #[nw B,Iy _ _,λp H1 a z Y=>#[nw Y,λD U=>?_]];rw[Gr]at Y;have S8:=I.mono a;have M6:J.length=d.length:=I.len;refine Gq (xs:=J.map V.ref) (λi n g=>(∃u,n=u.map V.ref/\yc g u (rY<|d.take i))/\g D=some (.lst n)/\mK H1 g) #[#[[],rfl,.nil],Zc,pC U] ?_ ?_ ?_
  ·rintro i n g _ ⟨_,_,l⟩;show nw<|l.at Y
  ·rintro k v n g G ⟨⟨u,rfl,j⟩,N,l⟩;rw[nU]at G;obtain⟨t,ht,rfl⟩:=oo.mp G;obtain⟨st,C,M,_⟩:=S8.get ht;have g8:u.length<=100:=by
    rw[nW j];have:=Rf<|d.take k;rw[oF]at this;lia
   refine#[pA rfl,.inr<|.inl #[nw<|l.at M,rfl,.inl #[rfl,Yl (λr=>?_) λr=>?_]]]
   ·have r:st.2.2.2≠ "":=λz=>by rw[z]at r;simp at r
    refine(.inr<|.inl #[nw<|l.at M,rfl,.inr<|.inl #[nw<|l.at M,rfl,mY,λx L p y e2=>#[p.at N,by rw[mV];show Zp (by lia),#[u++[x],by rw[nJ];rfl,?_],Zc,λb o e=>?_]]])
    ·have x:∀n,L D≠some (.tup n):=λn z=>by rw[p.at N]at z;cases z
     have off:∀{c:lZ}{n:lX V}{o:HO},L c=some (.tup n)->mT L D o c=some (.tup n):=λ{c n o} z=>by rw[Zd (show c≠D from λy=>x n (by rw[<-y];show z))];show z
     rw[oH,C];unfold rY;rw[uM,nJ,show(some st).toList=[st]from rfl,rB,nj<|og r];show pQ (nX (j.mono p) λ_ _ z=>off z)<|.cons (off e2) .nil
    ·rw[Zd (Ze e U)];show p.at<|l.at e
   ·have r:st.2.2.2 ="":=GP λz=>r (by simp[z])
    refine#[#[u,rfl,?_],N,l];rw[oH,C];unfold rY;rw[uM,nJ,show(some st).toList=[st]from rfl,rB,ng (by simp[r]),yd,uS,pO];show j
  ·rintro n z ⟨⟨u,rfl,j⟩,y,x⟩;rw[mV,M6,pD]at j;show q D u z (a.trans x) (a.free U) y j
theorem GL:∀(ss:lX Zv)(y:lX (lY×lY)),yK (Z2 V.str y) ((rY ss).map λq=>(Sum.inr q.1,V.str q.2))=Z2 V.str (ug y ss)
 | [],_=>rfl
 | s ::ss,y=>by
  by_cases z:s.2.2.2 =""
  ·rw[show rY (s ::ss)=rY ss by unfold rY;rw[rB,ng<|by simp[z]],show ug y (s ::ss)=ug y ss by change ug (if s.2.2.2 ="" then y else _) ss=_;rw[nj z]];show GL ss y
  ·rw[show rY (s ::ss)=(s.1,s.2.2.2) ::rY ss by unfold rY;rw[rB,nj<|by simp[z]];rfl,show ug y (s ::ss)=ug (pH y s.1 s.2.2.2) ss by change ug (if s.2.2.2 ="" then y else _) ss=_;rw[ng z]];change yK (Wj (Z2 V.str y) (Sum.inr s.1)<|V.str s.2.2.2) _=_;rw[zT];show GL ss _
def Zwx{H:Hp}:∀{tps:lX lZ}{z:lX (lY×lY)},yc H tps z->Paired (λt (q:nI×V)=>H t=some (.tup [kV q.1,q.2])) tps (z.map λq=>(Sum.inr q.1,V.str q.2)):=by
 intro tps z h
 induction h with
 | nil=>show .nil
 | cons r _ y=>show .cons r y
inductive Qj:Sp
 | mk (d r) (ls:lX (lY×lY)) (ns:lX Zh) (sig:lY) (ss:lX S4):vs=[.ref d,.ref r]->H d=some (.dK<|Z2 V.str ls)->(ls.map fst).Nodup->ls.length<=100->qh ns H r sig ss->ss.length<=100->(∀(d':lZ)(H':Hp),mK H H'->H d'=none->H' d'=some (.dK<|Z2 V.str<|ug ls ss)->Q (.ref d') H')->Qj vs H Q E
def VM:T.iA.O P w mg mM 2 Qj:=by
 refine T.iA.F.okW Li ?_;rfl'
 ·obtain⟨d,r,p,c,a,y,rfl,hd,o,u,x,Y,q⟩:=h;intro X D;refine mW (nG 2 Li<|Yw (r:=Ct) HS (by rfl) T.ei wR<|Zb (pv 0) Za) #[.inl hd,λn u j i g=>?_];refine mW (Z1<|UJ rfl (pv 2) (Zx (Zuc T) hr<|Zb (pv 1) Za) #[rfl,rfl,rfl,rfl]) #[n,rfl,.inl #[_,.inl g],r,c,a,y,rfl,x.mono j,Y,λl u d e N o U=>#[l,u,_,(rY y).map λq=>(Sum.inr q.1,V.str q.2),rfl,e.at g,o,?_,?_,?_]]
  ·show Zwx U
  ·have:=Rf y;rw[mV,show(Z2 V.str p).length=p.length from mV ..];show pU (Zp<|by lia)
  refine mX (Zk<|pv 2) (q n _ (λb o z=>?_) i<|by rw[Zc,GL]);rw[Zd (Ze z i)];show e.at<|j.at z
def DD:("":lY)∈rE/\("a":lY)∈rE/\("left":lY)∈rE:=by left
set_option genInjectivity false in
set_option genSizeOf false in
structure pb where
 dx:Addr
 ld:Addr
 sd:Addr
 nd:Addr
 pd:Addr
 es:List (Str×Addr)
 st:List (Str×Bool)
 ns:List Zh
def wN(z:lX (lY×Nat)):lX (nI×V):=Z2 (λn:Nat=>V.int (n:Int)) z
def zj(ad:pb)(z:lZ):HO:=.ins T.aH ad.dx [("tracks",.ref z),("lie_of",.ref ad.ld),("stiff_ones",.ref ad.sd),("length_of",.ref ad.nd),("path_of",.ref ad.pd)]
def zN{ns:lX Zh}(h:∀n∈ns,Xf n.2)(z:n∈ns.map snd):Xf n:=let⟨p,y,e⟩:=nH.mp z;e ▸ h p y
structure KX(H0:Hp)(ad:pb)(lw:List (Str×Str))(val:Str->List Zv):Prop where
 s0:H0 ad.sd=none
 sl:ad.sd≠ad.ld/\H0 ad.ld=none
 nok:ad.ns.length<=40/\∀n∈ad.ns,Xf n.2
 sok:(ad.st.map fst).Nodup/\∀p∈ad.st,p.1∈ad.ns.map snd/\p.2=true
 lok:(lw.map fst).Nodup/\∀p∈lw,p.1∈ad.ns.map snd/\p.2∈rE
 pok:∀t,(∀q∈val t,uO ad.ns q)/\((val t).map fst).Nodup
 lpt:PyProof.Rows.sortedS (lw.map fst)=true/\∀n,n∈lw.map fst↔(("points",n):Zh)∈ad.ns
structure nV(T:Tx K mg)(H0 H:Hp)(F:Addr->Prop)(x tr:Addr)(ad:pb)(lw:List (Str×Str))(val:Str->List Zv)(ln:List (Str×Nat)):Prop where
 obj:H x=some (zj T ad tr)
 lies:H ad.ld=some (.dK<|Z2 V.str lw)
 sti:H ad.sd=some (.dK<|Z2 V.bl ad.st)
 lens:H ad.nd=some (.dK<|wN ln)
 pth:Yv H ad.pd ad.es val
 nm:ad.es.map fst=ln.map fst
 lnd:(ln.map fst).Nodup
 len:ln.length<=10
 vl:∀t,(val t).length<=100
 ok:∀p∈ln,Xf p.1
 fx:F x
 fn:F ad.nd
 fp:F ad.pd
 ne:ad.nd≠ad.pd
 nl:¬F ad.ld
 ns:¬F ad.sd
 ni:∀e∈ad.es,¬F e.2
 free:∀b,F b->H0 b=none
 same:mK H0 H
 live:∀b,F b->∃o,H b=some o/\∀xs,o≠.tup xs
 kx:KX H0 ad lw val
def nV.mono{F:lZ->Prop}{val:lY->lX Zv}(e:mK H y)(h:nV U u H F x s ad lw val r):nV U u y F x s ad lw val r :=
 #[e.at h.obj,e.at h.lies,e.at h.sti,e.at h.lens,h.pth.mono e,h.nm,h.lnd,h.len,h.vl,h.ok,h.fx,h.fn,h.fp,h.ne,h.nl,h.ns,h.ni,h.free,h.same.trans e,(λb f=>let⟨o,z,n⟩:=h.live b f;#[o,e.at z,n]),h.kx]
inductive EF:Sp
 | mk (H0 x dx tr ps js sg):vs=[.ref x,.ref tr]->H0 x=none->mK H0 H->H x=some (.ins T.aH dx [])->Zz T H0 tr ps js sg->Y4 ps js sg->(∀(H':Hp)(F:lZ->Prop)(ad:pb)(lw:lX (lY×lY)),ad.ns=ps->lw.length<=100->nV T H0 H' F x tr ad lw (λ_=>[]) []->Q .non H')->EF vs H Q E
def Sz:T.bO.O P w mg mM 5 (EF T):=by
 refine T.bO.F.okA ?_;rfl'
 ·obtain⟨j,x,dx,d,ps,js,sg,rfl,h0,sm,hx,ht,yv,q⟩:=h;intro X D;have up:∀{U:Hp}{o:HO},mK j U->mK j (mT U x o):=λs b o e=>by rw[Zd (Ze e h0)];show s.at e
  refine mW (Wq (pv 0) (pv 1) rfl) #[hx,T.ae,T.ay,by simp,?_];refine mW (Wq (pv 0) (Zx (ZG T) hr<|Zb (pv 1) Za) rfl) #[d,ps,js,sg,rfl,ht.mono<|up sm,yv,λgs c hg p ld U s1 n1 N=>SF.mk (fs:=[("tracks",.ref d)]) (s1.at Zc) T.ae T.bo (by simp) ?_];have m1:mK j U:=(up sm).trans s1;refine mW (Wq (pv 0) Wf rfl) λM H2 a L e2=>SF.mk (fs:=[("tracks",.ref d),("lie_of",.ref ld)]) (a.at Zc) T.ae T.aV (by simp) ?_
  have m2:mK j H2:=(up m1).trans a;refine mW (Wq (pv 0) Wf rfl) λJ H3 i I e3=>SF.mk (fs:=[("tracks",.ref d),("lie_of",.ref ld),("stiff_ones",.ref M)]) (i.at Zc) T.ae T.cG (by simp) ?_
  have m3:mK j H3:=(up m2).trans i;refine mX (Wq (pv 0) Wf rfl) λpd H4 Y g e4=>SF.mk (fs:=[("tracks",.ref d),("lie_of",.ref ld),("stiff_ones",.ref M),("length_of",.ref J)]) (Y.at Zc) T.ae T.aF (by simp) ?_
  have m4:mK j H4:=(up m3).trans Y;have C:∀{G:Hp}{b:lZ}{o:HO},mT G x o b=none->b≠x:=λh z=>by rw[z,Zc]at h;cases h
  have y:∀{G G':Hp}{b:lZ}{o u:HO},G b=some u->b≠x->mK (mT G x o) G'->G' b=some u:=λh n s=>s.at (by rw[Zd n];show h)
  have r:=C n1;have l:=C L;have B:=C I;have px:=C g;have l4:=y (y (y N r a) r i) r Y;have d4:=y (y e2 l i) l Y;have k4:=y e3 B Y;refine q _ (λb=>b=x\/b=J\/b=pd) #[dx,ld,M,J,pd,[],[],ps] (gs.map λn=>(n,("left":lY))) rfl (by rw[mV];lia) #[Zc,by rw[Zd r];show l4,by rw[Zd l];show d4,by rw[Zd B];show k4,#[by rw[Zd px];show e4,λ_ z=>nomatch z],rfl,.nil,rR _,λ_=>rR _,(λ_ z=>nomatch z),.inl rfl,.inr<|.inl rfl,.inr<|.inr rfl,λz=>?_,?_,?_,(λ_ z=>nomatch z),?_,up m4,?_,#[(up m1).free L,#[?_,(up sm).free n1],#[yv.len,yv.name],#[.nil,(λ_ z=>nomatch z)],#[?_,λp hp=>?_],(λ_=>#[(λ_ z=>nomatch z),.nil]),by rw[show(gs.map λn:lY=>(n,("left":lY))).map fst=gs by rw[oU];show Ig _];show#[c.2,hg]]]
  ·have z:J=pd:=z;rw[<-z,Zd B,e3]at g;cases g
  ·rintro(z|z|z)
   ·show r z
   ·have:=I;rw[<-z,Zd r,y N r a]at this;cases this
   ·have:=g;rw[<-z,Zd r,y (y N r a) r i]at this;cases this
  ·rintro(z|z|z)
   ·show l z
   ·have:=I;rw[<-z,Zd l,e2]at this;cases this
   ·have:=g;rw[<-z,Zd l,y e2 l i]at this;cases this
  ·rintro b (rfl|rfl|rfl)
   ·show h0
   ·show(up m2).free I
   ·show(up m3).free g
  ·rintro b (rfl|rfl|rfl)
   ·show#[_,Zc,λ_ z=>nomatch z]
   ·show#[.dK _,by rw[Zd B];show k4,λ_ z=>nomatch z]
   ·show#[.dK _,by rw[Zd px];show e4,λ_ z=>nomatch z]
  ·intro z;have z:M=ld:=z;rw[z,Zd r,N]at L;cases L
  ·rw[oU,show((λx:lY×lY=>x.1) ∘ λn:lY=>(n,("left":lY)))=id from rfl,Ig];show c.1
  ·obtain⟨n,p,rfl⟩:=nH.mp hp;show#[nH.mpr #[_,(hg n).mp p,rfl],DD.2.2]
def PQ:lX V->Hp->VK->Prop:=λp H Q=>∃(z:lZ)(y:lX Zh)(u:lX (Zh×Zh)) (s:lX (lY×lY×lY)),p=[.ref z]/\Zz T H z y u s/\Y4 y u s/\
 ∀(x:lZ)(r:Hp)(F:lZ->Prop)(ad:pb)(q:lX (lY×lY)),H x=none->ad.ns=y->q.length<=100->nV T H r F x z ad q (λ_=>[]) []->Q (.ref x) r
def RU:∀vs H Q,PQ T vs H Q->
  ∀x z,H x=none->H z=none->z≠x->EF T (.ref x ::(vs++[])) (mT (mT H z<|.own x) x<|.ins T.aH z []) (λv s=>v=.non/\Q (.ref x) s) E0:=by
 rintro vs H Q ⟨r,p,n,l,rfl,j,i,q⟩ x z y u Y;refine#[H,x,z,r,p,n,l,rfl,y,λb o e=>?_,Zc,j,i,λg F ad d c a h=>#[rfl,q x g F ad d y c a h]];rw[Zd (Ze e y),Zd<|Ze e u];show e
inductive JQ:Sp
 | mk (H0) (F:lZ->Prop) (x tr ad lw) (val:lY->lX Zv) (ln:lX (lY×Nat)):vs=[.ref x]->nV T H0 H F x tr ad lw val ln->(∀ss:lX lY,ss.Perm (ln.map fst)->PyProof.Rows.sortedS ss=true->pG H (.lst<|ss.map V.str) Q)->JQ vs H Q E
def Fx{z:Type}{f:z->V}(l:lX (lY×z)):((Z2 f l).map λp=>kV p.1)=(l.map fst).map V.str:=by
 rw[show Z2 f l=l.map λq=>(Sum.inr q.1,f q.2)from rfl,oU,oU]
 rfl
def X4:T.aK.O P w mg mM 1 (JQ T):=by
 refine T.aK.F.okA ?_;rfl'
 ·obtain⟨u,F,x,p,ad,o,val,y,rfl,z,q⟩:=h;intro X D;have n:=z.len;refine mX (Zk<|Z6 (r:=BO) (EI rfl) (by rfl) T.cP wb<|Zb (Z8 (pv 0) rfl) Za) #[z.obj,T.ae,T.aF,rfl,ad.pd,_,y.map fst,rfl,.inl z.pth.1,?_,by rw[mV];lia,q];have:=Fx (f:=V.ref) ad.es;rw[z.nm]at this;show this
inductive MU:Sp
 | mk (H0) (F:lZ->Prop) (x tr ad lw) (val:lY->lX Zv) (ln:lX (lY×Nat)) (nm):vs=[.ref x,.str nm]->nV T H0 H F x tr ad lw val ln->nm∈ln.map fst->(∀H',mK H H'->Q .non H')->MU vs H Q E
def W1:T.aB.O P w mg mM 2 (MU T):=by
 refine T.aB.F.okA ?_;rfl'
 ·obtain⟨y,F,x,u,ad,r,val,p,nm,rfl,z,o,q⟩:=h;intro X D;refine mX (Zt (tI hr (pv 1)<|Yk (pv 0) T.ae T.bH (X4 T) hr.m T.aK.b .nil Z0) Zo Zl) #[z.obj,rfl,y,F,x,u,ad,r,val,p,rfl,z,λe n d l j i c g=>.inl #[.inl<|mZ g,rfl,Xg _,?_]];rw[nj rfl,X1,og<|n.mem_iff.mpr o];show(q j i)
def nV.get{T:Tx K mg}{s H:Hp}{F:lZ->Prop}{x r:lZ}{ad:pb}{lw:lX (lY×lY)}{val:lY->lX Zv}{y:lX (lY×Nat)}{nm:lY}(h:nV T s H F x r ad lw val y)(u:nm∈y.map fst):∃l,(nm,l)∈ad.es/\Xe (Z2 V.ref ad.es) (Xn nm)=some (.ref l)/\Xc H l (val nm):=by
 rw[<-h.nm]at u;obtain⟨⟨n,l⟩,z,rfl⟩:=nH.mp u;have q:(ad.es.map fst).Nodup:=by rw[h.nm];show h.lnd
 show#[l,z,xZ q z,h.pth.2 _ z]
inductive Od:Sp
 | mk (H0) (F:lZ->Prop) (x tr ad lw) (val:lY->lX Zv) (ln:lX (lY×Nat)) (nm):vs=[.ref x,.str nm]->nV T H0 H F x tr ad lw val ln->nm∈ln.map fst->(∀l H',mK H H'->H l=none->Xc H' l (val nm)->Q (.ref l) H')->Od vs H Q E
def BS:T.bg.O P w mg mM 3 (Od T):=by
 refine T.bg.F.okA ?_;rfl'
 ·obtain⟨n,F,x,j,ad,i,val,g,nm,rfl,z,p,q⟩:=h;intro X D;refine mW (Z1<|Yf (pv 0) T.ae T.cp (W1 T) hr.m T.aB.b .nil Z0<|Zb (pv 1) Za) #[z.obj,rfl,n,F,x,j,ad,i,val,g,nm,rfl,z,p,λo y=>?_];have u:=z.mono y;obtain⟨l,o,e,d,c,a⟩:=u.get p;show mX (Zk<|Yw (r:=Ak K) Dd (by rfl) T.eU xN<|Zb (vB (Xv hr) (Z8 (pv 0) rfl) (pv 1) λ_ _=>rfl) Za) #[u.obj,T.ae,T.aF,rfl,by rw[<-e];show Wc.k (k:=Xn nm) u.pth.1,.inl<|mZ c,λl Y o U N=>q l Y (y.trans o) (y.free U) #[d,N,a.mono o]]
inductive Mz:Sp
 | mk (H0) (F:lZ->Prop) (x tr ad lw) (val:lY->lX Zv) (ln) (p:lY×Nat):vs=[.ref x,.str p.1]->nV T H0 H F x tr ad lw val ln->p∈ln->(∀H',mK H H'->Q (.int (p.2:Int)) H')->Mz vs H Q E
def Zi1:T.cq.O P w mg mM 3 (Mz T):=by
 refine T.cq.F.okA ?_;rfl'
 ·obtain⟨n,F,x,l,ad,j,val,y,p,rfl,z,u,q⟩:=h;intro X D;refine mW (Z1<|Yf (pv 0) T.ae T.cp (W1 T) hr.m T.aB.b .nil Z0<|Zb (pv 1) Za) #[z.obj,rfl,n,F,x,l,ad,j,val,y,p.1,rfl,z,nH.mpr #[p,u,rfl],λi r=>?_];have o:=z.mono r;have g:Xe (wN y) (Xn p.1)=some (.int (p.2:Int)):=xZ z.lnd u;show mX (Zk<|vB (Xv hr) (Z8 (pv 0) rfl) (pv 1) λ_ _=>rfl) #[o.obj,T.ae,T.cG,rfl,Cv.mk (v:=.int (p.2:Int)) (by rw[<-g];show Wc.k (k:=Xn p.1) o.lens)<|q i r]
inductive KG:Sp
 | mk (H0) (F:lZ->Prop) (x tr dt) (ad:pb) (lw) (val:lY->lX Zv) (ln td):vs=[.ref x,.ref dt]->nV T H0 H F x tr ad lw val ln->H dt=some (.dK<|Z2 V.bl td)->(∀g H',mK H H'->H g=none->sN T H' g ad.es #[lw,ad.st,val,td] ad.ld ad.sd ad.pd dt->Q (.ref g) H')->KG vs H Q E
def Eh:T.aZ.O P w mg mM 3 (KG T):=by
 refine T.aZ.F.okA ?_;rfl'
 ·obtain⟨z,F,x,o,u,ad,n,val,r,l,rfl,y,hd,q⟩:=h;intro X D;refine mX (Zk<|wy (Pr T) T.iE (Zgl T) hr.m rfl T.iQ T.bN.b .nil Z0 (VG T)<|Zb (Z8 (pv 0) rfl)<|Zb (Z8 (pv 0) rfl)<|Zb (Z8 (pv 0) rfl)<|Zb (pv 1) Za) #[y.obj,T.ae,T.bo,rfl,y.obj,T.ae,T.aV,rfl,y.obj,T.ae,T.aF,rfl,ad.ld,ad.sd,ad.pd,u,rfl,λg o x n l=>q g o x n #[l,#[x.at y.lies,x.at y.sti,y.pth.mono x,x.at hd],y.vl,(λp z=>(y.kx.sok.2 p z).2),by rw[y.nm];show y.lnd,?_,λe j=>?_]]
  ·have:=oY List.length y.nm;rw[mV,mV]at this;have:=y.len;lia
  ·obtain⟨p,z,x⟩:=nH.mp (show e.1∈r.map fst by rw[<-y.nm];show nH.mpr #[e,j,rfl]);rw[<-x];show yF<|y.ok p z
inductive PM:Sp
 | mk (H0) (F:lZ->Prop) (x tr ad lw) (val:lY->lX Zv) (ln:lX (lY×Nat)):vs=[.ref x]->nV T H0 H F x tr ad lw val ln->(∀ss D i9 H',ss.Perm (ln.map fst)->PyProof.Rows.sortedS ss=true->mK H H'->H D=none->Yv H' D i9 val->i9.map fst=ss->(∀e∈i9,H e.2=none)->Q (.ref D) H')->PM vs H Q E
def ZO:T.cE.O P w mg mM 4 (PM T):=by
 refine T.cE.F.okA ?_;rfl'
 ·obtain⟨H0,F,x,tr,ad,lw,val,ln,rfl,a,q⟩:=h;intro X D;have hl:=a.len;refine mX (Zk<|Yw (r:=BY) (HW rfl) (by rfl) T.ei wR<|Zb (pT ["train","self"] (pr 1 [0] rfl) (Yi<|Yk (pv 0) T.ae T.bH (X4 T) hr.m T.aK.b .nil Z0) (oJ 0) Wi (Zi<|Zb (pv 0)<|Zb (Yf (pv 1) T.ae T.cO (BS T) hr.m T.bg.b .nil Z0<|Zb (pv 0) Za) Za)) Za) #[a.obj,rfl,H0,F,x,tr,ad,lw,val,ln,rfl,a,λY M hs l z L y e1=>#[mZ e1,λD hD=>Yz (xs:=Y.map V.str) (Qr z z D Y val) #[pC hD,Zc,[],[],rfl,rfl,uw,by simp,.nil] ?_ ?_ ?_]]
  ·rintro i ys z _ b;show mZ<|b.same.at e1
  ·rintro i v ys H2 hi b;rw[nU]at hi;obtain⟨n,B,rfl⟩:=oo.mp hi;obtain⟨o,p,rfl,g,U,N,j⟩:=b.all;have D5:i<Y.length:=(pz.mp B).1;have K5:Y.length<=10:=by rw[M.length_eq,mV];show hl
   have hel':p.length=i:=by
    have:=oY List.length g;rw[mV,oF]at this;lia
   have M6:o.length=i:=by
    have:=nW j;rw[show(Z2 V.ref p).length=p.length from mV ..]at this;lia
   have K1:=a.mono<|L.trans b.same;unfold qB;refine#[pA rfl,K1.obj,rfl,H0,F,x,tr,ad,lw,val,ln,n,rfl,K1,M.mem_iff.mp<|pi B,λJ u I G p4=>#[mY,λt H5 e n5 e5=>#[e.at<|I.at b.at',?_,?_,Zc,o++[t],p++[(n,J)],?_,?_,?_,?_,?_]]]
   ·rw[mV];show Zp (by lia)
   ·intro c u z;rw[Zd (Ze z hD)];show e.at<|I.at<|b.same.at z
   ·rw[nJ];rfl
   ·rw[nJ,g,oH,B];rfl
   ·rw[nJ,qu];refine#[U,by simp,?_];rintro c hc c' u rfl;simp at u;obtain⟨q5,S3,hb⟩:=nH.mp hc;obtain⟨_,C,_⟩:=(N q5 S3).2.2;rw[hb,u,G]at C;cases C
   ·have d:=I.trans e;have offD:∀{c:lZ}{l:lX Zv}{o':HO},c≠D->Xc H5 c l->Xc (mT H5 D o') c l:=λ{c l o'} nc z=>z.off nc λws y=>by rw[d.at b.at']at y;cases y
    intro q5 S3;rcases oO.mp S3 with z|z
    ·obtain⟨h0,u,C⟩:=N q5 z;show#[h0,u,offD u<|C.mono d]
    ·simp at z;subst z;have u:J≠D:=λy=>by rw[y,b.at']at G;cases G
     show#[b.same.free G,u,offD u<|p4.mono e]
   ·have d:=I.trans e;have u:∀{c:lZ}{l:lX V},H5 c=some (.tup l)->c≠D:=λ{c l} z y=>by
     rw[y,d.at b.at']at z;cases z
    rw[show Z2 V.ref (p++[(n,J)])=Z2 V.ref p++[(Sum.inr n,V.ref J)]from nJ ..];refine pQ (nX j λt q z=>?_)<|.cons ?_ .nil
    ·have z5:=d.at z;rw[Zd (u z5)];show z5
    ·rw[Zd (u e5)];show e5
  ·rintro ys H2 b;obtain⟨o,p,rfl,g,U,N,j⟩:=b.all;rw[mV,pD]at g;refine#[D,o,Z2 V.ref p,rfl,b.at',j,?_,λd u y n l=>q Y d p u M hs (L.trans<|b.same.trans y) (L.free<|b.same.free n) #[l,λe z=>(N e z).2.2.mono y] g λe z=>L.free (N e z).1];rw[show(Z2 V.ref p).map fst=(p.map fst).map Sum.inr from by rw[show Z2 V.ref p=p.map λq=>(Sum.inr q.1,V.ref q.2)from rfl,oU,oU];rfl,g];show Ma xL<|M.nodup_iff.mpr a.lnd
def Zin:T.bv.O P w mg mM 1 (wC T.bq "part"):=by
 refine T.bv.F.okA ?_;rfl'
 ·obtain⟨e,t,v,rfl,z,q⟩:=h;intro X D;show mX (Fu (pv 0) (pv 1) rfl) #[e,T.bq,T.au,t,rfl,z,T.fT.cls,T.fT.sa,T.fT.na,q]
def Rv(h:1<=k:=by lk):T.bv.O P w mg mM k (wC T.bq "part"):=(Zin T).mono h
def AK(F:lZ->Prop)(H z:Hp):Prop:=∀b o,¬F b->H b=some o->z b=some o
def Ob{F:lZ->Prop}(s:mK H z):AK F H z:=λ_ _ _ e=>s.at e
def Yv.offC{val:lY->lX Zv}(h:Yv H d x val)(hd:d≠c)(s:∀e∈x,e.2≠c)(r:H c=some u)(q:∀xs,u≠.tup xs):Yv (mT H c o) d x val :=
 #[by rw[Zd hd];show h.1,λe z=>(h.2 e z).off (s e z) λxs y=>q xs<|pc<|r.symm.trans y]
def RF{z:Type}{f:z->V}{l:lX (lY×z)}{a:z}(h:n∉l.map fst):Wj (Z2 f l) (Xn n) (f a)=Z2 f (l++[(n,a)]):=by
 unfold Wj;rw[Bg,show Xe (Z2 f l) (Xn n)=none from W4 h,show Z2 f (l++[(n,a)])=Z2 f l++[(Xn n,f a)]from nJ ..]
 rfl
def Yak{z:Type}{f:z->V}{l:lX (lY×z)}:wA (Z2 f l) (Xn n)=Z2 f (l.filter λp=>decide<|p.1≠n):=by
 unfold wA;rw[show Z2 f l=l.map λq=>(Sum.inr q.1,f q.2)from rfl,List.filter_map];refine oY (List.map _)<|List.filter_congr λp _=>?_;change decide (¬Xn p.1=Xn n)=decide (p.1≠n);show IG.mpr<|not_congr #[λy=>xL _ _ y,λy=>by rw[y]]
section
variable {U:Tx K mg} {F:lZ->Prop} {val:lY->lX Zv}
def nV.xn(h:nV U y H F x u ad lw val s):x≠ad.nd:=λz=>by have:=h.obj;rw[z,h.lens]at this;cases this
def nV.xp(h:nV U y H F x u ad lw val s):x≠ad.pd:=λz=>by have:=h.obj;rw[z,h.pth.1]at this;cases this
def nV.neF(h:nV U y H F x u ad lw val s)(z:H b=none):¬F b:=λf=>by
 obtain⟨o,e,_⟩:=h.live b f;rw[z]at e;cases e
def nV.move{j:lY->lX Zv}(s:nV U I H F x a ad lw val G)(Y:mK H i)(hd:H d=none)(g:Yv i d h j)(E:h.map fst=ln'.map fst)(Q:∀e∈h,H e.2=none)(D:(ln'.map fst).Nodup)(C:ln'.length<=10)(N:∀p∈ln',Xf p.1)(B:∀t,(j t).length<=100)(M:∀t,(∀q∈j t,uO ad.ns q)/\((j t).map fst).Nodup) :
  nV U I (mT (mT i x<|zj U #[ad.dx,ad.ld,ad.sd,ad.nd,d,h,ad.st,ad.ns] a) ad.nd<|.dK<|wN ln') (λb=>F b\/b=d) x a #[ad.dx,ad.ld,ad.sd,ad.nd,d,h,ad.st,ad.ns] lw j ln':=by
 have c:=s.mono Y;have fr:∀{b:lZ},H b=none->b≠x/\b≠ad.nd:=λ{b} z=>#[λy=>s.neF z<|y ▸ s.fx,λy=>s.neF z<|y ▸ s.fn]
 have L:∀{b:lZ},¬F b->b≠x/\b≠ad.nd:=λ{b} z=>#[λy=>z<|y ▸ s.fx,λy=>z<|y ▸ s.fn]
 have r:∀{b:lZ}{o u v:HO},(b≠x/\b≠ad.nd)->i b=some o->mT (mT i x u) ad.nd v b=some o:=λz e=>by rw[Zd z.2,Zd z.1];show e
 have A:mT i x (zj U #[ad.dx,ad.ld,ad.sd,ad.nd,d,h,ad.st,ad.ns] a) ad.nd=some (.dK<|wN G):=by rw[Zd s.xn.symm];show c.lens
 refine#[by rw[Zd s.xn,Zc],r (L s.nl) c.lies,r (L s.ns) c.sti,Zc,(g.offC (fr hd).1 (λe l=>(fr<|Q e l).1) c.obj (λ_ z=>nomatch z)).offC (fr hd).2 (λe l=>(fr<|Q e l).2) A (λ_ z=>nomatch z),E,D,C,B,N,.inl s.fx,.inl s.fn,.inr rfl,(fr hd).2.symm,?_,?_,λe l=>?_,?_,λb o e=>?_,λb f=>?_,#[s.kx.s0,s.kx.sl,s.kx.nok,s.kx.sok,s.kx.lok,M,s.kx.lpt]]
 ·rintro(z|z)
  ·show s.nl z
  ·have:=s.lies;rw[show ad.ld=d from z,hd]at this;cases this
 ·rintro(z|z)
  ·show s.ns z
  ·have:=s.sti;rw[show ad.sd=d from z,hd]at this;cases this
 ·rintro(z|z)
  ·show s.neF (Q e l) z
  ·obtain⟨ts,J,_⟩:=g.2 e l;rw[z,g.1]at J;cases J
 ·rintro b (z|z)
  ·show s.free b z
  ·rw[z];show s.same.free hd
 ·have n:=s.free x s.fx;have J:=s.free ad.nd s.fn;show r #[Ze e n,Ze e J]<|Y.at<|s.same.at e
 ·by_cases y:b=ad.nd
  ·show#[.dK _,by rw[y];show Zc,λ_ z=>nomatch z]
  rw[Zd y]
  by_cases J:b=x
  ·show#[.ins _ _ _,by rw[J];show Zc,λ_ z=>nomatch z]
  rw[Zd J];rcases f with f|f
  ·obtain⟨o,e,n⟩:=s.live b f;show#[o,Y.at e,n]
  ·show#[.dK _,by rw[f];show g.1,λ_ z=>nomatch z]
def Zzh(h:H c=some o):mT H c o=H:=by
 funext b
 by_cases z:b=c
 ·rw[z,Zc,h]
 ·rw[Zd z]
end
def pb.on(H:Hp)(ad z:pb):Prop:=z.ld=ad.ld/\z.sd=ad.sd/\z.st=ad.st/\z.ns=ad.ns/\∀e∈z.es,e∈ad.es\/H e.2=none
def SH(s:Y4 ps r y)(h:((nm,e)∈qS y/\Xf nm/\e∈y.map snd)\/(nm =""/\e∉y.map snd)):decide (V.str nm=V.str "")=!decide (e∈y.map snd):=by
 rcases h with⟨_,x,u⟩|⟨x,u⟩
 ·rw[og u,ow λz=>yF x<|V.str.inj z];rfl
 ·rw[x,og rfl,ow u];rfl
def Fm(H:Hp)(z:me lZ):Prop:=∀d,z=some d->∃fs,H d=some (.xd fs)
def uB(K:mf):lX V->Hp->VK->Prop:=λy H Q=>∃e C z c b,y=[.ref e,c]/\H e=some (qR e C z)/\Fm H z/\XG K C/\((∃n,c=.ty n/\kitOne K (.ref C) (.type n)=some b)\/(∃a,c=.ref a/\kitOne K (.ref C) (.ref a)=some b))/\Q (.bl b) H
def Wg:Y5 X (.builtin "isinstance") (uB X.K):=by
 rintro y s z H x u Q I r ⟨e,C,n,c,b,p,o,l,g,k,q⟩;cases n with
 | none=>show Zwh y s z H x u Q I r #[e,C,c,b,p,o,g,k,q]
 | some d =>
  obtain⟨fs,hd⟩:=l d rfl;show Tn y s z H x u Q I r #[e,C,d,fs,c,b,p,o,hd,g,k.imp id .inl,q]
def rT(r:Nat):lZ:=if r=0 then T.aq else if r=1 then T.az else if r=2 then T.aI else if r=3 then T.bq else if r=4 then T.aX else T.aR
def oA(r:Nat):Nat:=if r=0 then 0 else if r<3 then r+2 else if r=3 then 7 else if r=4 then 6 else 8
def qg(r:Nat):lY:=if r=0 then "name" else if r=1 then "train" else if r=2 then "way" else if r=3 then "taken" else if r=4 then "held" else "stiff"
structure K9(T:Tx K mg)(C:Addr)(b:Nat->Bool):Prop where
 g:XG K C
 i0:kB K C T.aq (b 0)
 i1:kB K C T.cH (b 1)
 i2:kB K C T.bU (b 2)
 i3:kB K C T.az (b 3)
 i4:kB K C T.aI (b 4)
 i5:kB K C T.cI (b 5)
 i6:kB K C T.aX (b 6)
 i7:kB K C T.bq (b 7)
 i8:kB K C T.aR (b 8)
 v:kitOne K (.ref C) (.type "ValueError")=some true
theorem k9:∀r,r<6->K9 T (rT T r) (λi=>decide<|i=oA r)/\PySem.W.kitCls K (.ref<|rT T r) (.ref T.au)=some true
 | 0,_=>#[#[T.iy,T.kq,T.kr,T.kt,T.ku,T.ky,T.kz,T.kE,T.kG,T.kH,T.v0],T.c0]
 | 1,_=>#[#[T.iz,T.jd,T.iY,T.jT,T.je,T.iw,T.kg,T.jz,T.jU,T.kI,T.v1],T.c1]
 | 2,_=>#[#[T.iL,T.kJ,T.kK,T.kL,T.kM,T.kN,T.kO,T.kP,T.kQ,T.kR,T.v2],T.c2]
 | 3,_=>#[#[T.jy,T.kS,T.kT,T.kU,T.kW,T.kX,T.kY,T.kZ,T.lh,T.li,T.v3],T.c3]
 | 4,_=>#[#[T.jx,T.lq,T.lu,T.ly,T.lz,T.lB,T.lC,T.lD,T.lE,T.lF,T.v4],T.c4]
 | 5,_=>#[#[T.iZ,T.lG,T.lH,T.lI,T.lJ,T.lK,T.lL,T.lM,T.lN,T.lO,T.v5],T.c5]
 | _+6,h=>absurd h (by lia)
def uU(H:Hp)(z:me lZ):me lY->Prop
 | none=>z=none
 | some p=>∃d,z=some d/\H d=some (.xd [("part",.str p)])
def uU.mono(e:mK H y)(h:uU H x z):uU y x z:=by
 cases z with
 | none=>show h
 | some p=>obtain⟨d,u,s⟩:=h;show#[d,u,e.at s]
def uU.xd(h:uU H z y):Fm H z:=λd e=>by
 cases y with
 | none=>rw[show z=none from h]at e;cases e
 | some p=>obtain⟨s,x,u⟩:=h;rw[x]at e;cases e;show#[_,u]
def CU(H:Hp)(r:Nat)(y:me lY)(Q:VK):Prop:=∀z,mK H z->(y=none->Q (.str<|qg r) z)/\∀p,y=some p->∀t,z t=some (.tup [.str (qg r),.str p])->Q (.ref t) z
inductive IH(P:mn)(w:mj)(mM:mi)(T:Tx K mg):Sp
 | mk (f):vs=[.ref f]->wf H f->Hw P w K mg mM 10 f H (λ_ H'=>Q (.str "done") H') (λcls dx H'=>∃r po,r<6/\cls=.ref (rT T r)/\uU H' dx po/\(po.isSome=decide (3<=r))/\CU H' r po Q)->IH P w mM T vs H Q E
def X5:T.af.O P w mg mM 11 (IH P w mM T):=by
 refine T.af.F.okW Xq ?_;rfl'
 ·obtain⟨f,rfl,hf,hd⟩:=h;intro X D;let G:IC:=λ_ j=>Q (.str "done") j
  refine qz G (WS.tryAs (x :="YardError") (n :="e") (B:=T.au) (i:=1) (Ex:=λcls l j=>∃r u,r<6/\cls=.ref (rT T r)/\uU j l u/\(u.isSome=decide (3<=r))/\CU j r u Q) (R:=λC l j=>∃r u,r<6/\C=rT T r/\uU j l u/\(u.isSome=decide (3<=r))/\CU j r u Q) T.ig (To T.lP rfl) rfl Xq.nd rfl rfl rfl rfl rfl rfl rfl ?_ ?_ ?_) ?_
  ·rintro cls l j ⟨r,u,o,rfl,z⟩;show#[_,rfl,(k9 T r o).2,r,u,o,rfl,z]
  ·intro x q z;show mX (Z1<|Ub (k:=10) hr (pv 0) z) #[f,rfl,hf,hd]
  ·rintro z C l σ' I hl ⟨r,u,o,rfl,M,L,q⟩ hn;obtain⟨k,x⟩:=k9 T r o;obtain⟨x,p,i,o3,o4,rfl⟩:=Yju hl;have g:(mT I z<|qR z (rT T r) l) z=some (qR z (rT T r) l):=Zc;have s2:mK I (mT I z<|qR z (rT T r) l):=pC hn;generalize mT I z (qR z (rT T r) l)=H2 at g s2;have J:=(M.mono s2).xd;have xm:∀{H3:Hp},mK H2 H3->Fm H3 l:=λs d e=>let⟨fs,y⟩:=J d e;#[fs,s.at y]
   refine mW (nG 2 Xq<|Zm<|Zb (Z6 (r:=uB K) Wg (by rfl) T.ak se<|Zb (pv 1)<|Zb (Xz (v:=.ref T.aq) (by rfl) T.iG rfl) Za)<|Zb (Z6 (r:=uB K) Wg (by rfl) T.ak se<|Zb (pv 1)<|Zb (Xz (v:=.ref T.cH) (by rfl) T.iS rfl) Za)<|Zb (Z6 (r:=uB K) Wg (by rfl) T.ak se<|Zb (pv 1)<|Zb (Xz (v:=.ref T.bU) (by rfl) T.iH rfl) Za)<|Zb (Z6 (r:=uB K) Wg (by rfl) T.ak se<|Zb (pv 1)<|Zb (Xz (v:=.ref T.az) (by rfl) T.iI rfl) Za) Za) #[z,_,_,_,_,rfl,g,J,k.g,.inr<|qf rfl k.i0,z,_,_,_,_,rfl,g,J,k.g,.inr<|qf rfl k.i1,z,_,_,_,_,rfl,g,J,k.g,.inr<|qf rfl k.i2,z,_,_,_,_,rfl,g,J,k.g,.inr<|qf rfl k.i3,mY,λx H3 s3 p e3=>?_];have c:=s3.at g;have a:=xm s3;refine mW (nG 2 Xq<|Zn Wl (pv 2)<|Zm<|Zb (Z6 (r:=uB K) Wg (by rfl) T.ak se<|Zb (pv 1)<|Zb (Xz (v:=.ref T.aI) (by rfl) T.iT rfl) Za)<|Zb (Z6 (r:=uB K) Wg (by rfl) T.ak se<|Zb (pv 1)<|Zb (Xz (v:=.ref T.cI) (by rfl) T.iU rfl) Za)<|Zb (Z6 (r:=uB K) Wg (by rfl) T.ak se<|Zb (pv 1)<|Zb (Xz (v:=.ref T.aX) (by rfl) T.ir rfl) Za)<|Zb (Z6 (r:=uB K) Wg (by rfl) T.ak se<|Zb (pv 1)<|Zb (Xz (v:=.ref T.bq) (by rfl) T.jc rfl) Za) Za) #[z,_,_,_,_,rfl,c,a,k.g,.inr<|qf rfl k.i4,z,_,_,_,_,rfl,c,a,k.g,.inr<|qf rfl k.i5,z,_,_,_,_,rfl,c,a,k.g,.inr<|qf rfl k.i6,z,_,_,_,_,rfl,c,a,k.g,.inr<|qf rfl k.i7,mY,λp i s4 n4 x=>.inr<|.inr #[s4.at e3,x,mY,λl5 H5 s5 n5 e5=>?_]];have B3:=s3.trans<|s4.trans s5;refine mW (nG 2 Xq<|Zn Wl (pv 2)<|Zm<|Zb (Z6 (r:=uB K) Wg (by rfl) T.ak se<|Zb (pv 1)<|Zb (Xz (v:=.ref T.aR) (by rfl) T.iJ rfl) Za) Za) #[z,_,_,_,_,rfl,B3.at g,xm B3,k.g,.inr<|qf rfl k.i8,mY,λp i s6 n6 x=>.inr<|.inr #[s6.at e5,x,mY,λl7 H7 s7 n7 e7=>?_]];refine mW (nG 3 Xq<|Zm<|Zb Zg<|Zb Zg<|Zb Zg<|Zb Zg<|Zb Zg<|Zb Zg<|Zb Zg<|Zb Zg<|Zb Zg Za) #[mY,λx p s8 i e8=>?_];have Y:=B3.trans<|s6.trans<|s7.trans s8;have U:=s8.at e7;let bs:lX Bool:=[decide (0=oA r),decide<|1=oA r,decide<|2=oA r,decide<|3=oA r,decide<|4=oA r,decide<|5=oA r,decide<|6=oA r,decide<|7=oA r,decide<|8=oA r]
   have at9:∀r,r<6->[decide (0=oA r),decide<|1=oA r,decide<|2=oA r,decide<|3=oA r,decide<|4=oA r,decide<|5=oA r,decide<|6=oA r,decide<|7=oA r,decide<|8=oA r][oA r]? =some true/\(∀i,i<oA r->[decide (0=oA r),decide<|1=oA r,decide<|2=oA r,decide<|3=oA r,decide<|4=oA r,decide<|5=oA r,decide<|6=oA r,decide<|7=oA r,decide<|8=oA r][i]? ≠some true)/\[decide (0=oA r),decide<|1=oA r,decide<|2=oA r,decide<|3=oA r,decide<|4=oA r,decide<|5=oA r,decide<|6=oA r,decide<|7=oA r,decide<|8=oA r].countP (λx=>x ==true)=1/\[V.str "name",V.str "end",V.str "many",V.str "train",V.str "way",V.str "turn",V.str "held",V.str "taken",V.str "stiff"][oA r]? =some (.str<|qg r)/\sr (qg r) 1=qg r/\(qg r).length<=10/\oA r<10/\tL (.str<|qg r) [.str "held",.str "taken",.str "stiff"]=decide (3<=r):=by left
   obtain⟨a1,a2,a3,a4,a5,x,p,a8⟩:=at9 r o;refine mW (nG 4 Xq<|Zn LH (nQ (pv 3)<|zK xR PySem.F.slot_list_index PySem.F.type_list_index Us (pv 2)<|Zb rC Za)<|Yw KY (by rfl) T.iK Hi<|Zb (vQ (vT PC (zK xR PySem.F.slot_list_count PySem.F.type_list_count TF (pv 2)<|Zb rC Za) Zf<|Yo _)<|wG<|Z6 (r:=uB K) Wg (by rfl) T.ak se<|Zb (pv 1)<|Zb (JR (v:=.ty "ValueError") (by rfl) T.gN Sa rfl) Za) Za) #[.inl #[rfl,_,mZ U],l7,bs,true,oA r,rfl,rfl,U,by lia,a1,a2,.inl #[mZ e8,Zq a4,.inl #[rfl,_,mZ U],l7,bs,true,rfl,rfl,U,?_]];rw[a3];refine#[rfl,#[z,_,_,_,_,rfl,Y.at g,xm Y,k.g,.inl #[_,rfl,k.v],.inr #[_,rfl,qg r,1,rfl,rfl,by lia,by lia,?_]]];rw[a5];refine mW (Zt (Yd (r:=An K false) Jb (pv 4) (Zi<|Zb Zg<|Zb Zg<|Zb Zg Za)<|by with_unfolding_all rfl) Zo Zl) #[mY,λp H9 s9 i x=>#[.inr<|nw x,rfl,rfl,?_]];rw[show(if false=true then !tL (V.str<|qg r) [V.str "held",V.str "taken",V.str "stiff"]else tL (V.str<|qg r) [V.str "held",V.str "taken",V.str "stiff"])=decide (3<=r)from a8,<-L];have N:=s2.trans<|Y.trans s9;cases u with
   | none=>show(mX (Zk<|pv 4)<|(q H9 N).1 rfl)
   | some p =>
    obtain⟨d,rfl,x⟩:=M.mono N;obtain⟨fI,i⟩:∃fI,XI K (rT T r) T.au fI "part":=by
     have:=show 3<=r from by simpa using L
     obtain rfl|rfl|rfl:r=3\/r=4\/r=5:=by lia
     ·show#[_,T.fT]
     ·show#[_,T.ej]
     ·show#[_,T.eM]
    show(mX (Zk<|Zi<|Zb (pv 4)<|Zb (Ycg (pv 1) rfl) Za) #[z,_,_,d,_,_,rfl,(Y.trans s9).at g,x,i.cls,i.xa,i.na,rfl,mY,λt HA sA nA eA=>(q HA<|N.trans sA).2 p rfl t eA])
  ·intro z j y;show mX (Zk Zg) y
structure Bk(H H' H3:Hp):Prop where
 old:∀b u o,H b=some u->H' b=some o->H3 b=some o
 soft:∀b o,H' b=some o->(∀ob,o≠Fz ob)->H3 b=some o
def Xc.soft(y:∀b o,H b=some o->(∀x,o≠Fz x)->u b=some o)(h:Xc H l ss):Xc u l ss :=
 let⟨s,q,p⟩:=h;#[s,y _ _ q (λ_ z=>nomatch z),nX p λ_ _ r=>y _ _ r λ_ z=>nomatch z]
def nV.back{F:lZ->Prop}{val:lY->lX Zv}(h:nV U r H F x j ad lw val i)(b:Bk G H q)(s:mK r G):nV U r q (λa=>F a/\∃o,H a=some o/\q a=some o) x j ad lw val i :=
 have k:=b.soft _ _ h.obj λ_ z=>nomatch z
 have p:=b.soft _ _ h.lens λ_ z=>nomatch z
 have l:=b.soft _ _ h.pth.1 λ_ z=>nomatch z
 #[k,b.soft _ _ h.lies (λ_ z=>nomatch z),b.soft _ _ h.sti (λ_ z=>nomatch z),p,#[l,λe u=>(h.pth.2 e u).soft b.soft],h.nm,h.lnd,h.len,h.vl,h.ok,#[h.fx,_,h.obj,k],#[h.fn,_,h.lens,p],#[h.fp,_,h.pth.1,l],h.ne,λz=>h.nl z.1,λz=>h.ns z.1,λe u z=>h.ni e u z.1,λa z=>h.free a z.1,λa o e=>b.old a o o (s.at e)<|h.same.at e,(λa z=>let⟨o,g,d⟩:=z.2;#[o,d,λc e=>let⟨Y,y,n⟩:=h.live a z.1;n c (pc (y.symm.trans g) ▸ e)]),h.kx]
def WE.imp(h:WE X e z H Q)(i:∀v y,Q v y->x v y):WE X e z H x:=#[λp s I=>ny (h.run p s I) λu o ⟨v,y,J,r,q⟩=>#[v,y,J,r,i _ _ q]]
def xV(cl:Clo H Pt I B la lb Y h)
  (hp:Paired (λx v=>∃(i:Nat)(a:lZ),X.N[i]? =some x/\z[i]? =some (some v)/\X.env.scope.names.lookup x=some .cell/\X.env.cells.lookup x=some a/\Y.names.lookup x=some .free/\h.lookup x=some a) fs fvs) (x0:∀p∈h,p.1∈fs) (one:(h.map fst).Nodup) (apart:(h.map snd).Nodup)
  (hb:∀(pm d6 B2:ma),bindArgs (PySem.W.kla_fn "<lambda>" B la lb Y h pm d6 B2) #[[],[]]=pure []) (z9:∀y∈Y.names,y.2=.free->y.1∈fs) (hnc:∀y∈Y.names,y.2≠.cell)
  (hk:Y.kind=.function) (hco:Y.isCoroutine=false) (Q8:Y.isGenerator=false)
  (body:∀(G:Hp)(c:lZ)(A:mo)(mJ:lX Env)(s:md)(E:XK),mK H G->(∀r M dx U,r<6->M.isSome=decide (3<=r)->mK G U->uU U dx M->CU H r M Q->E (.ref<|rT T r) dx U)->Y0 9 (A.deeper<|PySem.W.envX B Y #v[s] I (.ref c) h)->WE (CV P w K mg mM fs B Y I (.ref c) h A mJ s G E) lb (fvs.map some) G (λ_ U=>∀d,Bk H U d->Q (.str "done") d)) :
  Ek X z H (λD Q2=>IH P w mM T [.ref I] D Q2 E0) Q:=by
 intro D s2 cs;have nn:∀p∈h,H p.2=none:=λp C=>by
  obtain⟨j,hj,e⟩:=AR<|x0 p C;obtain⟨v,_,i,a,h1,h2,h3,h4,h5,N⟩:=pE hp (i:=j) (a:=p.1) (by rw[oR hj,e]);rw[zY one C]at N;cases N;show(cs i _ _ _ h1 h2 h3 h4).1
 have L:rK D Y h fs fvs:=#[nX hp λx v ⟨i,a,h1,h2,h3,h4,h5,N⟩=>#[h5,a,N,(cs i _ _ _ h1 h2 h3 h4).2],x0,one,apart]
 have sG:mK H (offL D h):=λb o e=>by
  rw[uo]
  ·show s2.at e
  ·intro u;obtain⟨p,C,rfl⟩:=nH.mp u;rw[nn p C]at e;cases e
 refine#[I,rfl,(cl.mono s2).fn,UL (cl.mono s2) L hb z9 hnc hk hco Q8 λc A mJ s hr=>WE.imp (body _ c A mJ s _ sG (λr M dx U N l s' hd ht C0 J _=>#[r,M,N,rfl,hd.mono J,l,λH5 s5=>?_]) hr) λv U q C0 J _ d _ g soft=>q d #[λb n o u y=>g b n o u<|J.at y,λb o y l=>soft b o (J.at y) l]];have T6:=sG.trans<|s'.trans<|J.trans s5;have s3:∀{d:Hp},(∀b n o,H b=some n->H5 b=some o->d b=some o)->mK H d:=λg b n u=>g b n n u<|T6.at u
 show#[λu d _ g _=>(ht d<|s3 g).1 u,λp u t e d _ g soft=>(ht d<|s3 g).2 p u t (soft _ _ e λ_ u=>nomatch u)]
def W0:T.ag.O P w mg mM 4 (FH T "points"):=by
 refine T.ag.F.okW KN ?_;rfl'
 ·obtain⟨x,g,z,y,u,rfl,r,p,o,q⟩:=h;intro X D;refine mX (Zt (tI hr (pv 1)<|Zx (Hr T) hr<|Zb (pv 0) Za) Zo Zl) #[x,z,y,u,rfl,r,p,λd c n a l j i Y e=>.inl #[.inl<|mZ e,rfl,Xg _,?_]];rw[nj rfl,X1,og<|(n g).mpr o];show(q j i)
section
variable {U:Tx K mg} {F:lZ->Prop} {val:lY->lX Zv}
def nV.stl(z:nV U s H F x r ad lw val q):ad.st.length<=40:=by
 have:=Bc z.kx.sok.1 λn y=>by
  obtain⟨p,u,rfl⟩:=nH.mp y;show(z.kx.sok.2 p u).1
 simp only[mV]at this;show oy this z.kx.nok.1
def nV.lwl(z:nV U s H F x r ad lw val q):lw.length<=40:=by
 have:=Bc z.kx.lok.1 λn y=>by
  obtain⟨p,u,rfl⟩:=nH.mp y;show(z.kx.lok.2 p u).1
 simp only[mV]at this;show oy this z.kx.nok.1
def nV.setS{st:lX (lY×Bool)}(s:nV U l H F x j ad lw val i)(h:(st.map fst).Nodup/\∀p∈st,p.1∈ad.ns.map snd/\p.2=true):nV U l (mT H ad.sd<|.dK<|Z2 V.bl st) F x j #[ad.dx,ad.ld,ad.sd,ad.nd,ad.pd,ad.es,st,ad.ns] lw val i:=by
 have q:∀{b:lZ},F b->b≠ad.sd:=λf z=>s.ns<|z ▸ f
 have r:∀{b:lZ}{o u:HO},b≠ad.sd->H b=some o->mT H ad.sd u b=some o:=λn e=>by rw[Zd n];show e
 refine#[r (q s.fx) s.obj,r s.kx.sl.1.symm s.lies,Zc,r (q s.fn) s.lens,s.pth.offC (q s.fp) (λe g z=>?_) s.sti (λ_ z=>nomatch z),s.nm,s.lnd,s.len,s.vl,s.ok,s.fx,s.fn,s.fp,s.ne,s.nl,s.ns,s.ni,s.free,λb o e=>r (Ze e s.kx.s0)<|s.same.at e,λb f=>?_,#[s.kx.s0,s.kx.sl,s.kx.nok,h,s.kx.lok,s.kx.pok,s.kx.lpt]]
 ·obtain⟨d,y,_⟩:=s.pth.2 e g;rw[z,s.sti]at y;cases y
 ·obtain⟨o,e,n⟩:=s.live b f;show#[o,r (q f) e,n]
end
inductive Kz:Sp
 | mk (H0) (F:lZ->Prop) (x tr) (ad:pb) (lw) (val:lY->lX Zv) (ln ps js sg nm):vs=[.ref x,.str nm]->nV T H0 H F x tr ad lw val ln->Zz T H0 tr ps js sg->Y4 ps js sg->(("points",nm):Zh)∈ps->ad.ns=ps->(∀(H':Hp)(E3:pb),(∀b o,b≠ad.sd->H b=some o->H' b=some o)->E3.sd=ad.sd->E3.ns=ad.ns->E3=#[ad.dx,ad.ld,ad.sd,ad.nd,ad.pd,ad.es,pH ad.st nm true,ad.ns]->nV T H0 H' F x tr E3 lw val ln->Q .non H')->Kz vs H Q E
def Km:T.ar.O P w mg mM 5 (Kz T):=by
 refine T.ar.F.okW Oo ?_;rfl'
 ·obtain⟨z,F,x,l,ad,o,val,n,j,i,g,nm,rfl,y,d,c,r,a,q⟩:=h;intro X D;refine mW (Z1<|Zx (W0 T) hr<|Zb (Z8 (pv 0) rfl)<|Zb (pv 1) Za) #[y.obj,T.ae,T.ay,rfl,l,nm,j,i,g,rfl,d.mono y.same,c,r,λz p=>?_];have u:=y.mono p;have Y:=y.stl;refine mX (tS (Xv hr) (Z8 (pv 0) rfl) (pv 1) rC rfl) #[u.obj,T.ae,T.aV,rfl,qL.k (k:=Xn nm) u.sti ?_,?_]
  ·rw[show(Z2 V.bl ad.st).length=ad.st.length from mV ..];show Zp (by lia)
  have e:Wj (Z2 V.bl ad.st) (Xn nm) (V.bl true)=Z2 V.bl (pH ad.st nm true):=zT _ _ _;rw[e];refine q _ _ (λb o n z=>by rw[Zd n];show p.at z) ?_ ?_ ?_ (u.setS #[Vm y.kx.sok.1,GW y.kx.sok.2 #[by rw[a];show nH.mpr #[_,r,rfl],rfl]])<;>rfl
inductive IY:Sp
 | mk (H0) (F:lZ->Prop) (x tr ad lw) (val:lY->lX Zv) (ln):vs=[.ref x]->nV T H0 H F x tr ad lw val ln->pG H (.dK<|Z2 V.str lw) Q->IY vs H Q E
def X6:T.aN.O P w mg mM 1 (IY T):=by
 refine T.aN.F.okA ?_;rfl'
 ·obtain⟨y,F,x,u,ad,p,val,o,rfl,z,q⟩:=h;intro X D;show mX (Zk<|Yw (r:=Ct) HS (by rfl) T.ei wR<|Zb (Z8 (pv 0) rfl) Za) #[z.obj,T.ae,T.bo,rfl,.inl z.lies,q]
inductive Jh:Sp
 | mk (H0) (F:lZ->Prop) (x tr ad lw) (val:lY->lX Zv) (ln):vs=[.ref x]->nV T H0 H F x tr ad lw val ln->(∀ss:lX lY,ss.Perm (ad.st.map fst)->PyProof.Rows.sortedS ss=true->pG H (.lst<|ss.map V.str) Q)->Jh vs H Q E
def Xh:T.aD.O P w mg mM 1 (Jh T):=by
 refine T.aD.F.okA ?_;rfl'
 ·obtain⟨y,F,x,u,ad,p,val,o,rfl,z,q⟩:=h;intro X D;have n:=z.stl;show mX (Zk<|Z6 (r:=BO) (EI rfl) (by rfl) T.cP wb<|Zb (Z8 (pv 0) rfl) Za) #[z.obj,T.ae,T.aV,rfl,ad.sd,_,ad.st.map fst,rfl,.inl z.sti,Fx _,by rw[mV];lia,q]
def TR:T.bi.O P w mg mM 1 (wC T.aR "part"):=by
 refine T.bi.F.okA ?_;rfl'
 ·obtain⟨e,t,v,rfl,z,q⟩:=h;intro X D;show mX (Fu (pv 0) (pv 1) rfl) #[e,T.aR,T.au,t,rfl,z,T.eM.cls,T.eM.sa,T.eM.na,q]
def YL{k:Nat}(h:1<=k:=by lk):T.bi.O P w mg mM k (wC T.aR "part"):=(TR T).mono h
inductive DJ(T:Tx K mg):Sp
 | no:vs=[.non]->Q .non H->DJ T vs H Q E
 | up (r:Nat) (t p):vs=[.ref t]->3<=r->r<6->H t=some (.tup [.str (qg r),.str p])->(∀dx H',mK H H'->H' dx=some (.xd [("part",.str p)])->E (.ref<|rT T r) (some dx) H')->DJ T vs H Q E
def Sx:Xm P w K mg mM (ou P w) 3 T.ao.f T.ao.fd ["told"] (DJ T):=by
 refine T.ao.F.okX Zgz ?_;rfl'
 ·intro X D;rcases h with⟨rfl,q⟩|⟨r,t,p,rfl,u,o,z,q⟩
  ·show mW (Zt (Yd zt (pv 0) sZ<|Yo _) Zo Zl) #[rfl,mX Um q]
  refine mW (Zt (Yd zt (pv 0) sZ<|Yo _) Zo Zl) #[rfl,?_];obtain rfl|rfl|rfl:r=4\/r=3\/r=5:=by lia
  ·show mW (Zt (Wu hr (nQ (pv 0) Zf) Zg) Zo Zl)<|.inr<|.inl #[nw z,Zq (j:=0) rfl,.inl #[rfl,oB.t (by left)<|mX (Ap T.ej T.cQ (GG T) T.aS.b hr rfl T.ir<|Zb (nQ (pv 0) Zf) Za)<|.inr<|.inl #[nw z,Zq (j:=1) rfl,_,rfl,λy x=>q y _ (pC x) Zc]]]
  all_goals refine mW (Zt (Wu hr (nQ (pv 0) Zf) Zg) Zo Zl)<|.inr<|.inl #[nw z,Zq (j:=0) rfl,.inl #[rfl,oB.f (by left) ?_]]
  ·show mW (Zt (Wu hr (nQ (pv 0) Zf) Zg) Zo Zl)<|.inr<|.inl #[nw z,Zq (j:=0) rfl,.inl #[rfl,oB.t (by left)<|mX (Ap T.fT T.cQ (Rv T) T.bv.b hr rfl T.jc<|Zb (nQ (pv 0) Zf) Za)<|.inr<|.inl #[nw z,Zq (j:=1) rfl,_,rfl,λy x=>q y _ (pC x) Zc]]]
  ·refine mW (Zt (Wu hr (nQ (pv 0) Zf) Zg) Zo Zl)<|.inr<|.inl #[nw z,Zq (j:=0) rfl,.inl #[rfl,oB.f (by left) ?_]];show mX (Ap T.eM T.cQ (YL T) T.bi.b hr rfl T.iJ<|Zb (nQ (pv 0) Zf) Za)<|.inr<|.inl #[nw z,Zq (j:=1) rfl,_,rfl,λy x=>q y _ (pC x) Zc]
def GY{k:Nat}(h:3<=k:=by lk):Xm P w K mg mM (ou P w) k T.ao.f T.ao.fd ["told"] (DJ T):=(Sx T).mono h
section
variable {U:Tx K mg} {F:lZ->Prop} {val:lY->lX Zv}
def nV.path{y:lY->lX Zv}(z:nV U l H F x s ad lw val r)(n:mK H p)(hd:H d=none)(j:Yv p d u y)(i:u.map fst=r.map fst)(h:∀e∈u,H e.2=none)(g:∀t,(y t).length<=100)(o:∀t,(∀q∈y t,uO ad.ns q)/\((y t).map fst).Nodup):nV U l (mT p x<|zj U #[ad.dx,ad.ld,ad.sd,ad.nd,d,u,ad.st,ad.ns] s) (λb=>F b\/b=d) x s #[ad.dx,ad.ld,ad.sd,ad.nd,d,u,ad.st,ad.ns] lw y r:=by
 have:=z.move n hd j i h z.lnd z.len z.ok g o;rw[Zzh (show mT p x (zj U #[ad.dx,ad.ld,ad.sd,ad.nd,d,u,ad.st,ad.ns] s) ad.nd=some (.dK<|wN r) by rw[Zd z.xn.symm];show n.at z.lens)]at this;show this
def nV.lay{r:lX (lY×lY)}(s:nV U g H F x h ad lw val c)(a:mK H l)(hd:H d=none)(e:l d=some (.dK<|Z2 V.str r))(Y:(r.map fst).Nodup/\∀p∈r,p.1∈ad.ns.map snd/\p.2∈rE)(j:PyProof.Rows.sortedS (r.map fst)=true/\∀n,n∈r.map fst↔(("points",n):Zh)∈ad.ns):nV U g (mT l x<|zj U #[ad.dx,d,ad.sd,ad.nd,ad.pd,ad.es,ad.st,ad.ns] h) F x h #[ad.dx,d,ad.sd,ad.nd,ad.pd,ad.es,ad.st,ad.ns] r val c:=by
 have q:=s.mono a;have i:∀{b:lZ},¬F b->b≠x:=λz y=>z<|y ▸ s.fx
 have u:∀{b:lZ}{o v:HO},b≠x->l b=some o->mT l x v b=some o:=λn z=>by rw[Zd n];show z
 refine#[Zc,u (i<|s.neF hd) e,u (i s.ns) q.sti,u s.xn.symm q.lens,q.pth.offC s.xp.symm (λe Q=>i<|s.ni e Q) q.obj (λ_ z=>nomatch z),s.nm,s.lnd,s.len,s.vl,s.ok,s.fx,s.fn,s.fp,s.ne,s.neF hd,s.ns,s.ni,s.free,λb o z=>u (Ze z<|s.free x s.fx)<|q.same.at z,λb z=>?_,#[s.kx.s0,#[λz=>?_,s.same.free hd],s.kx.nok,s.kx.sok,Y,s.kx.pok,j]]
 ·by_cases y:b=x
  ·show#[.ins _ _ _,by rw[y];show Zc,λ_ z=>nomatch z]
  ·obtain⟨o,Q,N⟩:=q.live b z;show#[o,u y Q,N]
 ·have:=s.sti;rw[show ad.sd=d from z,hd]at this;cases this
end
def Ybu{ns:lX Zh}{y:lX lY}{val:lY->lX Zv}{nm:lY}{qs:lX S4}(s:nm∈y)(h:∀t,(∀q∈val t,uO ns q)/\((val t).map fst).Nodup)(r:∀q∈qs,uO ns q)(z:As (vA y val) (qs.map fst) qs.length)(t:lY):(∀q∈qH y val nm qs t,uO ns q)/\((qH y val nm qs t).map fst).Nodup:=by
 unfold qH;split
 ·refine#[λq u=>(oO.mp u).elim ((h nm).1 q) (r q),?_];rw[nJ,qu];refine#[(h nm).2,?_,λa p b o e=>?_]
  ·rw[List.nodup_iff_pairwise_ne]at *;rw[List.pairwise_iff_getElem];intro i j x u n e;have:=(z j _ (by simpa using u)<|oR u).1;show this<|List.mem_take_iff_getElem.mpr #[i,by lia,e]
  ·obtain⟨i,x⟩:=At o;have u:=(pz.mp x).1;rw[mV]at u;show(z i b u x).2 #[nm,s,e ▸ p]
 ·show h t
def RW{l:lX (me<|lY×lY)}:(∀a∈l,a=none\/∃p,a=some (("held":lY),p)\/a=some (("stiff":lY),p))->Wt l=none\/∃p,Wt l=some (("held":lY),p)\/Wt l=some (("stiff":lY),p):=by
 induction l with
 | nil=>show λ_=>.inl rfl
 | cons a l z =>
  intro h;rcases h a oN with rfl|⟨p,rfl|rfl⟩
  ·show z λb y=>h b<|oZ _ y
  ·show .inr #[p,.inl rfl]
  ·show .inr #[p,.inr rfl]
def Yau{z:lX lY}{g:Gd}(y:g.told=[])(r:Rl):xU z g r=none\/∃p,xU z g r=some (("held":lY),p)\/xU z g r=some (("stiff":lY),p):=by
 cases r with
 | held x =>
  change Xw z g x=_\/∃p,Xw z g x=_\/Xw z g x=_;unfold Xw;split
  ·show .inr #[x,.inl rfl]
  ·show .inl rfl
 | taken x =>
  change Xr g x=_\/∃p,Xr g x=_\/Xr g x=_;unfold Xr;rw[y];show .inl rfl
 | lies x l =>
  change wB g x l=_\/∃p,wB g x l=_\/wB g x l=_;unfold wB vH;split
  ·show .inl rfl
  ·split
   ·show .inr #[x,.inr rfl]
   ·show .inl rfl
def pq.steps(h:pq ns H us qs):ub H us qs:=let⟨h,_⟩:=h;h
def So{qs:lX S4}{lw:lX (lY×lY)}(h:∀q∈qs,q.2.2.2≠ ""->q.1∈lw.map fst):(ug lw qs).map fst=lw.map fst:=by
 induction qs generalizing lw with
 | nil=>rfl
 | cons q qs z =>
  have e:(if q.2.2.2 ="" then lw else pH lw q.1 q.2.2.2).map fst=lw.map fst:=by
   split
   ·rfl
   ·rename_i y;rw[yA,nj<|h q oN y]
  refine(z (lw:=if q.2.2.2 ="" then lw else pH lw q.1 q.2.2.2) λp x c=>?_).trans e;rw[e];show h p (oZ _ x) c
inductive JP(T:Tx K mg):Sp
 | mk (H0) (F:lZ->Prop) (x tr a dt ad) (lw:lX (lY×lY)) (val:lY->lX Zv) (ln:lX (lY×Nat)) (ps js) (sg:lX (lY×lY×lY)) (nm) (g:lY×Zh) (qs):vs=[.ref x,.str nm,.ref a,.ref dt]->nV T H0 H F x tr ad lw val ln->ad.ns=ps->Zz T H0 tr ps js sg->Y4 ps js sg->qx T H0->nm∈ln.map fst->val nm≠[]->(g:lY×lY×lY)∈sg->qh ps H a g.1 qs->xt qs->H dt=some (.dK<|Z2 V.bl [])->
  (∀(H':Hp)(F':lZ->Prop)(E3:pb)(E8:lX (lY×lY)) (val':lY->lX Zv),(∀b,F' b->F b\/H b=none)->AK F H H'->E3.ns=ad.ns->E3.sd=ad.sd->(∀t,val t≠[]->val' t≠[])->nV T H0 H' F' x tr E3 E8 val' ln->Q .non H')->
  (∀r po dx H',r<6->po.isSome=decide (3<=r)->mK H H'->uU H' dx po->E (.ref<|rT T r) dx H')->JP T vs H Q E
def Zhy:Xm P w K mg mM (ou P w) 7 T.bn.f T.bn.fd ["self","train","route","seen"] (JP T):=by
 refine T.bn.F.okX Lu ?_;rfl'
 ·obtain⟨H0,F,x,tr,a,dt,ad,lw,val,ln,ps,js,sg,nm,⟨sig,e⟩,d,rfl,u,A7,ht,yv,tb,hm,w6,hg,⟨us,M,G⟩,okr,O3,q,qe⟩:=h;intro X D;have M:H a=some (.tup<|V.str sig ::us.map V.ref):=M;obtain⟨y,_,_,_,_,_,_,_,_,ht1,_⟩:=(ht.mono u.same).ex;have hql:d.length<=12:=okr.2;refine mW (nG 4 Lu<|Yf (pv 0) T.ae T.cO (BS T) hr.m T.bg.b .nil Z0<|Zb (pv 1) Za) #[u.obj,rfl,H0,F,x,tr,ad,lw,val,ln,nm,rfl,u,hm,λl y s1 o P1=>?_];have y7:=u.mono s1;refine mW (Zt (rO<|Y7<|Zx (RD T) hr<|Zb (Z8 (pv 0) rfl)<|Zb (pv 2) Za) Zo Zl) #[y7.obj,T.ae,T.ay,rfl,tr,a,(sig,e),d,ps,js,sg,rfl,ht.mono y7.same,yv,hg,#[us,s1.at M,G.mono s1],okr,λb y s2=>Yl (λ_=>mX (DA T.hZ Af rfl<|Zb Zg Za) #[mY,qe 2 none none y (by lk) rfl (s1.trans s2) rfl]) λ_=>?_];have S5:=s1.trans s2;have K1:=y7.mono s2;obtain⟨ts,hl,u0⟩:=P1.mono s2;obtain⟨ws,C,rfl⟩:∃ws C,ts=ws++[C]:=by
   have:ts≠[]:=λz=>by
    rw[z]at u0;have:=nW u0;show w6<|ui.mp this.symm
   show#[ts.dropLast,ts.getLast this,(Ej _).symm]
  obtain⟨qq,_,rq⟩:=pE u0 (i:=ws.length) (a:=C) (by simp);have la:oP ((ws++[C]).map V.ref) (-1)=some (.ref C):=by
   rw[nJ];show Hu _ _
  refine mW (Zt (tZ hr (Yf (Z8 (pv 0) rfl) T.am T.dz (NZ T) hr.m T.bw.b .nil Z0<|Zb (nQ (pv 2) Zf) Za)<|Zx (HN T) hr<|Zb (nQ (pv 4)<|DX Cz Zf) Za) Zo Zl) #[K1.obj,T.ae,T.ay,rfl,S5.at ht1,rfl,.inr<|.inl #[nw<|S5.at M,Zq (j:=0) rfl,tr,(sig,e),ps,js,sg,rfl,ht.mono K1.same,yv,hg,λl g s3 y=>.inl #[mZ<|s3.at hl,la,C,qq,rfl,s3.at rq,λc o s4 Y n=>.inr<|.inl #[1,pR e,pR (qq.1,qq.2.2.1),by lk,.inl #[_,_,rfl,rfl],Dc<|s4.at y,Dc n,Yl (λ_=>mX (DA T.hZ Af rfl<|Zb Zg Za) #[mY,qe 2 none none o (by lk) rfl (S5.trans<|s3.trans s4) rfl]) λ_=>?_]]]];have T5:=S5.trans<|s3.trans s4;have L:=u.mono T5;refine mW (Z1<|Xa (GY T) hr rfl T.ao.m T.ao.F.kp T.ao.b .nil Ws<|Zb (Zx (EB T) hr<|Zb (Zx (Ui T) hr<|Zb (pv 2) Za)<|Zb (Yf (pv 0) T.ae T.cS (Eh T) hr.m T.aZ.b .nil Z0<|Zb (pv 3) Za) Za) Za) #[a,_,sig,d,rfl,tb.mono L.same,#[us,T5.at M,G.mono T5],by lia,λy fs c s5 Y o n=>#[s5.at L.obj,rfl,H0,F,x,tr,dt,ad,lw,val,ln,[],rfl,L.mono s5,(T5.trans s5).at O3,λl N s6 J g=>#[y,l,fs,_,rfl,mZ<|s6.at o,tY.ans (n.fix s6.fix) g,λI H7 s7 B=>?_]]];have F2:=T5.trans<|s5.trans<|s6.trans s7;rcases RW (l:=(sI d).map (xU (ad.es.map fst) #[lw,ad.st,val,[]])) (λb y=>by
   obtain⟨r,_,rfl⟩:=nH.mp y;show Yau rfl r)with z|⟨p,z|z⟩
  ·rw[z]at B;refine .no (oY (λv=>[v]) B) ?_;have hw7:=u.mono F2;have C5:=u.nm;refine mW (Wq (pv 0) (Xa (Qh T) hr.m rfl T.ck.m T.ck.F.kp T.ck.b .nil Ws<|Zb (Z8 (pv 0) rfl)<|Zb (pv 1)<|Zb (Wm (r:=tT K) uA (pv 2) (tQ Zf) ut) Za) rfl) #[hw7.obj,T.ae,T.aF,rfl,.inl #[nw<|F2.at M,Iy _ _,λp8 H8 s8 n8 e8=>?_]];rw[Gr]at e8;have N9:=F2.trans s8;have hw8:=u.mono N9;refine#[ad.pd,p8,nm,ad.es,val,d,rfl,hw8.pth,by rw[C5];show u.lnd,?_,u.vl,λt C7=>?_,#[us,.inr e8,(G.mono N9).steps],by lia,λd' H9 i9 Y s9 n9 pB eB _ fB=>?_,λU H9 y s9 n9 _ e9=>qe 4 (some y) (some U) H9 (by lk) rfl (N9.trans s9) #[U,rfl,e9]]
   ·have:=oY List.length C5;rw[mV,mV]at this;have:=u.len;lia
   ·rw[C5]at C7;obtain⟨p',E5,rfl⟩:=nH.mp C7;show yF<|u.ok p' E5
   rw[C5]at eB Y;have B8:i9.map fst=ln.map fst:=by rw[eB];show nj hm
   have J:=Ybu (ns:=ad.ns) hm u.kx.pok (by rw[A7];intro g N;obtain⟨_,o⟩:=G;show o g N) Y;rw[C5]at pB;have l:=N9.trans s9;have n09:H d'=none:=N9.free n9;have Q6:∀t,(qH (ln.map fst) val nm d t).length<=100:=λt=>by
    have:=Bc (J t).2 λn hn=>by
     obtain⟨g,N,rfl⟩:=nH.mp hn;show((J t).1 g N).1
    simp only[mV]at this;have:=u.kx.nok.1;lia
   have k1:=u.path l n09 pB B8 (λe' he'=>N9.free<|fB e' he') Q6 J;have rtx:∀{o:HO},qh ps (mT H9 x o) a sig d:=λ{o}=>by
    have n:∀{c:lZ}{xs:lX V},H9 c=some (.tup xs)->mT H9 x o c=some (.tup xs):=λ{c xs} z=>(Zd λy=>by rw[y,l.at u.obj]at z;cases z).trans z
    obtain⟨E5,ok'⟩:=G.mono l;show#[us,n<|l.at M,nX E5 λ_ _ r=>n r,ok']
   refine SF.mk (l.at u.obj) T.ae T.aF (by change 5<1000;decide) ?_;have hlw:=u.lwl;refine mX (Wq (pv 0) (Zx (VM T) hr<|Zb (Z8 (pv 0) rfl)<|Zb (pv 2) Za) rfl) #[Zc,T.ae,T.bo,rfl,ad.ld,a,lw,_,sig,d,rfl,k1.lies,u.kx.lok.1,by lia,rtx,by lia,λd5 HC sC nC eC=>SF.mk (sC.at Zc) T.ae T.bo (by change 5<1000;decide) ?_];obtain⟨_,I⟩:=G;have lf:=So λg N c=>(u.kx.lpt.2 g.1).mpr (by rw[A7];show(I g N).2.2.2.2 c)
   have k2:=k1.lay sC nC eC #[by rw[lf];show u.kx.lok.1,MG u.kx.lok.2 λg N=>#[by rw[A7];show(I g N).1,(I g N).2.2.2.1]] (by rw[lf];show u.kx.lpt);refine q _ _ _ _ _ ?_ (λb o nb z=>?_) ?_ ?_ (λt C7=>?_) k2
   ·show λb z=>z.imp id λy=>by rw[y];show n09
   ·have nx:b≠x:=λy=>nb<|y ▸ u.fx
    rw[Zd nx];show sC.at (by rw[Zd nx];show l.at z)
   ·rfl
   ·rfl
   ·unfold qH;split
    ·show λz=>w6 (Pe.mp z).1
    ·show C7
  ·rw[z]at B;obtain⟨t,rfl,wt⟩:=B;show .up 4 t p rfl (by lk) (by lk) wt λU H8 s8 e8=>qe 4 (some p) (some U) H8 (by lk) rfl (F2.trans s8) #[U,rfl,e8]
  ·rw[z]at B;obtain⟨t,rfl,wt⟩:=B;show .up 5 t p rfl (by lk) (by lk) wt λU H8 s8 e8=>qe 5 (some p) (some U) H8 (by lk) rfl (F2.trans s8) #[U,rfl,e8]
structure Yit(ln:List (Str×Nat))(ps:List Zh)(sg:List (Str×Str×Str))(nm g:Str)(n:Nat):Prop where
 nv:Xf nm
 new:nm∉ln.map fst
 gt:(("gate",g):Zh)∈ps
 sg:((g,"a"):Zh)∈sg.map snd
 n1:1<=n
 n4:n<=4
 ll:ln.length<10
inductive IJ:Sp
 | mk (H0) (F:lZ->Prop) (x tr dt) (ad:pb) (lw) (val:lY->lX Zv) (ln:lX (lY×Nat)) (td ps js sg nm g) (n:Nat):vs=[.ref x,.str nm,.int (n:Int),.str g,.ref dt]->nV T H0 H F x tr ad lw val ln->ad.ns=ps->Zz T H0 tr ps js sg->Y4 ps js sg->qx T H0->H dt=some (.dK<|Z2 V.bl td)->¬F dt->Yit ln ps sg nm g n->(∀(H':Hp)(F':lZ->Prop)(E3:pb),(∀b,F b->F' b)->(∀b,F' b->F b\/H b=none)->AK F H H'->nV T H0 H' F' x tr E3 lw (qH (ln.map fst) val nm [(g,"","a","")]) (ln++[(nm,n)])->ad.on H E3->Q .non H')->(∀r,3<=r->r<6->∀dx H',mK H H'->H' dx=some (.xd [("part",.str g)])->E (.ref<|rT T r) (some dx) H')->IJ vs H Q E
def yi(z:lX (lY×Nat))(g:Gd)(x:lY):lX (me<|lY×lY):=[Xw (z.map fst) g x,Xr g x]
def Tq:Xm P w K mg mM (ou P w) 7 T.bf.f T.bf.fd ["self","train","length","gate","seen"] (IJ T):=by
 refine T.bf.F.okX SX ?_;rfl'
 ·obtain⟨H0,F,x,tr,dt,ad,lw,val,j,td,ps,js,sg,nm,g,n,rfl,u,A7,U,yv,tb,hd,o,l,q,qe⟩:=h;intro X D;have C5:nm∉ad.es.map fst:=by rw[u.nm];show l.new
  obtain⟨o,i,e,a,B,kp,ks,kj,ko,h1,_⟩:=(U.mono u.same).ex;refine mW (Z1<|Zx (Fc T) hr<|Zb (pv 1)<|Zb (Z8 (pv 0) rfl) Za) #[u.obj,T.ae,T.aF,rfl,nm,ad.pd,_,rfl,l.nv,u.pth.1,W4 C5,λo s1=>?_];have y7:=u.mono s1;refine mW (Z1<|Zx (Zk8 T) hr<|Zb (Z8 (pv 0) rfl)<|Zb (pv 3) Za) #[y7.obj,T.ae,T.ay,rfl,tr,g,ps,js,sg,rfl,U.mono y7.same,yv,l.gt,λo s2=>?_];have K1:=y7.mono s2;refine mW (Zt (Wu hr (Yf (Z8 (pv 0) rfl) T.am T.br (Xy T) hr.m T.aG.b .nil Z0<|Zb (Zi<|Zb (pv 3)<|Zb Zg Za) Za) Zg) Zo Zl) #[K1.obj,T.ae,T.ay,rfl,(s1.trans s2).at h1,rfl,mY,λt i s3 e o=>#[tr,t,(g,"a"),ps,js,sg,rfl,U.mono<|K1.same.trans s3,yv,o,λa hs=>.inl #[rfl,?_]]];rw[SH yv hs,og l.sg];refine ?_;have C3:=K1.mono s3;have L:=s1.trans<|s2.trans s3;refine mW (Z1<|Zx (RI T) hr<|Zb (pv 2) Za) #[n,rfl,l.n1,l.n4,?_];have J:=tb.mono C3.same;refine mW (Z1<|Xa (GY T) hr rfl T.ao.m T.ao.F.kp T.ao.b .nil Ws<|Zb (Zx (EB T) hr<|Zb (Zm<|Zb (Zx (Es T) hr<|Zb (pv 3) Za)<|Zb (Zx (HU T) hr<|Zb (pv 3) Za) Za)<|Zb (Yf (pv 0) T.ae T.cS (Eh T) hr.m T.aZ.b .nil Z0<|Zb (pv 4) Za) Za) Za) #[g,rfl,J,λo H4 I n4 R4=>#[g,rfl,J.mono I,λi H5 G n5 R5=>#[mY,λe H6 N n6 a=>#[(I.trans<|G.trans N).at C3.obj,rfl,H0,F,x,tr,dt,ad,lw,val,j,td,rfl,C3.mono<|I.trans<|G.trans N,(L.trans<|I.trans<|G.trans N).at hd,λB H7 s7 n7 G7=>#[e,B,[o,i],yi j #[lw,[],val,td] g,rfl,mZ<|s7.at a,?_,λv8 H8 s8 wd=>?_]]]]]
  ·unfold yi;rw[<-u.nm];show .cons ((Hy T (R4.mono<|G.trans<|N.trans s7) G7).up (by lk))<|.cons ((FJ T (R5.mono<|N.trans s7) G7).up (by lk)) .nil
  have hn:Wt (yi j #[lw,[],val,td] g)=none\/∃r,3<=r/\r<6/\Wt (yi j #[lw,[],val,td] g)=some (qg r,g):=by
   unfold yi Xw Xr;split
   ·show .inr #[4,by lk,by lk,rfl]
   split
   ·show .inr #[3,by lk,by lk,rfl]
   ·show .inl rfl
  have d:=I.trans<|G.trans<|N.trans<|s7.trans s8;rcases hn with zn|⟨r,h3,h6,z⟩
  rotate_left
  ·rw[z]at wd;obtain⟨o,rfl,wt⟩:=wd;show .up r o g rfl h3 h6 wt λdx H9 c e9=>qe r h3 h6 dx H9 (L.trans<|d.trans c) e9
  rw[zn]at wd;refine .no (oY (λv=>[v]) wd) ?_;have Y:=C3.mono d;have C:ad.es.length<=100:=by
   have:=oY List.length u.nm;rw[mV,mV]at this;have:=u.len;lia
  refine mW (Wq (pv 0) (Xa (Qh T) hr.m rfl T.ck.m T.ck.F.kp T.ck.b .nil Ws<|Zb (Z8 (pv 0) rfl)<|Zb (pv 1)<|Zb (Zm<|Zb (Zi<|Zb (pv 3)<|Zb Zg<|Zb Zg<|Zb Zg Za) Za) Za) rfl) #[Y.obj,T.ae,T.aF,rfl,mY,λo H9 c B e9=>#[mY,λi HA M nA e=>#[ad.pd,i,nm,ad.es,val,[(g,"","a","")],rfl,Y.pth.mono<|c.trans M,by rw[u.nm];show u.lnd,C,u.vl,?_,#[[o],.inl e,.cons (M.at e9) .nil],by simp,λd' a i9 gt sB nB pB eB Aa fB=>#[(c.trans<|M.trans sB).at Y.obj,T.ae,T.aF,(by change 5<1000;decide),?_],λdx a y sB nB fb eB=>?_]]]
  ·intro t U;rw[u.nm]at U;obtain⟨p,hp,rfl⟩:=nH.mp U;show yF<|u.ok p hp
  ·have i:=L.trans<|d.trans<|c.trans<|M.trans sB;have B:∀e∈i9,H e.2=none:=λe he=>(L.trans<|d.trans<|c.trans M).free (fB e he)
   have B1:H d'=none:=(L.trans<|d.trans<|c.trans M).free nB;have B8:i9.map fst=j.map fst++[nm]:=by
    rw[eB,u.nm];show ng l.new
   have hL:qH (ad.es.map fst) val nm [(g,"","a","")]=qH (j.map fst) val nm [(g,"","a","")]:=by rw[u.nm]
   rw[hL]at pB;have xn:=u.xn;refine mX (tS (Xv hr) (Z8 (pv 0) rfl) (pv 1) (pv 2) rfl) #[Zc,T.ae,T.cG,rfl,qL.k (k:=Xn nm) (by rw[Zd xn.symm];show i.at u.lens) ?_,?_]
   ·rw[show(wN j).length=j.length from mV ..];show Zp (by have:=u.len;lia)
   rw[show wN j=Z2 (λn:Nat=>V.int (n:Int)) j from rfl,RF (f:=λn:Nat=>V.int (n:Int)) l.new];refine q _ (λb=>F b\/b=d') #[ad.dx,ad.ld,ad.sd,ad.nd,d',i9,ad.st,ad.ns] (λ_ z=>.inl z) (λb z=>z.imp id λy=>by rw[y];show B1) (λb o nb e=>?_) (u.move (ln':=j++[(nm,n)]) i B1 pB (by rw[B8,nJ];rfl) B ?_ (by rw[oj];show l.ll) (λp hp=>?_) (λt=>?_) λt=>#[λq' E4=>?_,?_]) #[rfl,rfl,rfl,rfl,λe he=>.inr<|B e he]
   ·rw[Zd (λz=>nb (by rw[z];show u.fn)),Zd (λz=>nb (by rw[z];show u.fx))];show i.at e
   ·rw[nJ,qu];show#[u.lnd,Ou _ _,λa o b hb e=>by rw[e,pK.mp hb]at o;show l.new o]
   ·rcases oO.mp hp with z|z
    ·show u.ok p z
    ·rw[pK.mp z];show l.nv
   ·unfold qH;split
    ·rw[ng l.new];simp
    ·show u.vl t
   ·unfold qH at E4;split at E4
    ·rw[ng l.new]at E4;rw[pK.mp E4];show#[by rw[A7];show nH.mpr #[_,l.gt,rfl],DD.1,DD.2.1,DD.1,λz=>absurd rfl z]
    ·show(u.kx.pok t).1 q' E4
   ·unfold qH;split
    ·rw[ng l.new];simp
    ·show(u.kx.pok t).2
  ·obtain⟨i,o,hb,_⟩:=fb;have e:i=0:=by
    have:=(pz.mp o).1;simp at this;show this
   subst e;have:y=g:=by simpa using o.symm
   rw[this]at hb;rcases hb with z|⟨t,a,B⟩
   ·simp at z
   ·unfold yi Xw at zn;rw[nj #[t,by rw[<-u.nm];show a,B]]at zn;cases zn
def ZF{k:Nat}(h:7<=k:=by lk):Xm P w K mg mM (ou P w) k T.bf.f T.bf.fd ["self","train","length","gate","seen"] (IJ T):=(Tq T).mono h
def HR(e:mK H u)(h:Rp H d v):Rp u d v:=Rp.rec (motive_1:=λd v _=>Rp u d v) (motive_2:=λx s _=>qM u x s) (λx=>.str x) (λb=>.bl b) (λi=>.int i) (λz _ y=>.lst (e.at z) y) (λz _ y=>.tup (e.at z) y) (λz _ y=>.dk (e.at z) y) .nil (λ_ _ a b=>.cons a b) h
def Yc(n k:Nat)(d:PyData):Prop:=d.showable=true/\d.leavesShort 8=true/\d.depth<=k/\d.weight<=n
def Yc.shown(h:Yc n k d)(z:n<=100000):d.shown.length<=sizeLine:=by
 have:=PyData.shown_le 8 (by lk) d h.2.1;have:=h.2.2.2;have e:sizeLine=16777216:=rfl;lia
def Yc.str(z:x.cps.toList.all pV=true)(y:x.length<=6):Yc 6 0 (.str x):=by
 refine#[by simp[PyData.showable],?_,by simp[PyData.depth],by simp only[PyData.weight];show y];simp only[PyData.leavesShort,wo,vo];show λc u=>uq (LB<|wo.mp z c u) (by lk)
theorem Yc.all:∀{ds:lX PyData},(∀d∈ds,Yc n k d)->PyData.showableAll ds=true/\PyData.leavesShortAll 8 ds=true/\PyData.depthAll ds<=k/\PyData.weightAll ds<=(n+1) * ds.length
 | [],_=>#[by simp[PyData.showableAll],by simp[PyData.leavesShortAll],by simp[PyData.depthAll],by simp[PyData.weightAll]]
 | d ::ds,h=>by
  obtain⟨z,y,r,q⟩:=h d oN;obtain⟨x,u,r,q⟩:=Yc.all λc s=>h c<|oZ _ s
  refine#[by simp[PyData.showableAll,z,x],by simp[PyData.leavesShortAll,y,u],by simp only[PyData.depthAll];lia,?_];simp only[PyData.weightAll,pJ,Nat.mul_add];lia
theorem Yc.kv:∀{ds:lX (PyData×PyData)},(∀d∈ds,Yc n k d.1/\Yc n k d.2)->PyData.showableKv ds=true/\PyData.leavesShortKv 8 ds=true/\PyData.depthKv ds<=k/\PyData.weightKv ds<=(2 * n+2) * ds.length
 | [],_=>#[by simp[PyData.showableKv],by simp[PyData.leavesShortKv],by simp[PyData.depthKv],by simp[PyData.weightKv]]
 | (x,y) ::ds,h=>by
  obtain⟨⟨s,r,q,z⟩,p,o,l,u⟩:=h (x,y) oN;obtain⟨j,i,g,a⟩:=Yc.kv λc e=>h c<|oZ _ e
  refine#[by simp[PyData.showableKv,show x.showable=true from s,show y.showable=true from p,j],by simp[PyData.leavesShortKv,show x.leavesShort 8=true from r,show y.leavesShort 8=true from o,i],by simp only[PyData.depthKv];show Nat.max_le.mpr #[Nat.max_le.mpr #[q,l],g],?_];simp only[PyData.weightKv,pJ,Nat.mul_add];have z:x.weight<=n:=z;have u:y.weight<=n:=u;lia
def Yc.list(h:∀d∈ds,Yc n k d)(z:ds.length<=m):Yc ((n+1) * m) (k+1) (.list ds):=by
 obtain⟨y,x,s,u⟩:=Yc.all h;show#[by simp only[PyData.showable];show y,by simp only[PyData.leavesShort];show x,by simp only[PyData.depth];lia,by simp only[PyData.weight];show oy u<|GE _ z]
def Yc.tuple(h:∀d∈ds,Yc n k d)(z:ds.length<=m):Yc ((n+1) * m) (k+1) (.tuple ds):=by
 obtain⟨y,x,s,u⟩:=Yc.all h;show#[by simp only[PyData.showable];show y,by simp only[PyData.leavesShort];show x,by simp only[PyData.depth];lia,by simp only[PyData.weight];show oy u<|GE _ z]
def Yc.dict(h:∀d∈ds,Yc n k d.1/\Yc n k d.2)(z:ds.length<=m):Yc ((2 * n+2) * m) (k+1) (.dict ds):=by
 obtain⟨y,x,s,u⟩:=Yc.kv h;show#[by simp only[PyData.showable];show y,by simp only[PyData.leavesShort];show x,by simp only[PyData.depth];lia,by simp only[PyData.weight];show oy u<|GE _ z]
def Yc.up(h:Yc n k d)(z:n<=m)(y:k<=j):Yc m j d:=#[h.1,h.2.1,oy h.2.2.1 y,oy h.2.2.2 z]
def d4(q:Zv):PyData:=.tuple [.str q.1,.str q.2.1,.str q.2.2.1,.str q.2.2.2]
def Dr(ss:lX lY)(val:lY->lX Zv):PyData:=.dict<|(ss.map PyData.str).zip (ss.map λt=>.list<|(val t).map d4)
def ub.rps(h:Paired (λt (q:Zv)=>Gw H t q.1 q.2) ts ss):qM H (ss.map d4) (ts.map V.ref):=by
 induction h with
 | nil=>show .nil
 | cons z _ y=>show .cons (.tup z<|.cons (.str _)<|.cons (.str _)<|.cons (.str _)<|.cons (.str _) .nil) y
def Yv.rp{val:lY->lX Zv}(h:Yv H d z val):Rp H (Dr (z.map fst) val) (.ref d):=by
 have r:qM H (z.map λe=>.list<|(val e.1).map d4) ((Z2 V.ref z).map snd):=by
  have y:=h.2;clear h
  induction z with
  | nil=>show .nil
  | cons e z u =>
   obtain⟨x,s,q⟩:=y e oN;show .cons (.lst s<|ub.rps q)<|u λx p=>y x<|oZ _ p
 have:=Rp.dk h.1 r;rw[show(Z2 V.ref z).map (λp=>kD p.1)=(z.map fst).map PyData.str from by rw[show Z2 V.ref z=z.map λq=>(Sum.inr q.1,V.ref q.2)from rfl,oU,oU];rfl]at this;unfold Dr;rw[show(z.map fst).map (λt=>PyData.list<|(val t).map d4)=z.map λe=>.list ((val e.1).map d4)from by rw[oU];rfl];show this
def Yc.half(h:Yc n k d)(z:n<=100000):d.shown.length<=1000008:=by
 have:=PyData.shown_le 8 (by lk) d h.2.1;have:=h.2.2.2;lia
def Wh:∀x∈rE,x.cps.toList.all pV=true/\x.length<=6:=by left
def Ac{x:lY}(z:Xf x):Yc 6 0 (.str x):=.str z.2.2.2 z.2.1
def XF:∀n<5,(PyData.int ((n:Nat):Int)).showable=true/\(PyData.int ((n:Nat):Int)).leavesShort 8=true/\(PyData.int ((n:Nat):Int)).depth<=0/\(PyData.int ((n:Nat):Int)).weight<=6:=by left
def Fd{ss:lX lY}{m:Nat}(h:∀x∈ss,Xf x)(z:ss.length<=m):Yc (7 * m) 1 (.list<|ss.map PyData.str):=Yc.list (n:=6) (k:=0) (λd hd=>by
 obtain⟨x,y,rfl⟩:=nH.mp hd;show Ac<|h x y) (by rw[mV];show z)
def Zw6{ss:lX lY}{val:lY->lX Zv}{ns:lX Zh}(o:∀t∈ss,Xf t)(e:ss.length<=10)(l:ns.length<=40/\∀n∈ns,Xf n.2)(y:∀t,(∀q∈val t,uO ns q)/\((val t).map fst).Nodup):Yc 24000 3 (Dr ss val):=by
 refine(Yc.dict (n:=1160) (k:=2) (m:=10) (λd hd=>?_)<|by rw[GA,mV];lia).up (by lk) (by lk);obtain⟨a,b⟩:=d;obtain⟨j,i⟩:=tW hd;obtain⟨t,h,rfl⟩:=nH.mp j;obtain⟨u,s,rfl⟩:=nH.mp i;refine#[(Ac<|o t h).up (by lk) (by lk),Yc.list (n:=28) (k:=1) (m:=40) (λc z=>?_) ?_]
 ·obtain⟨q,x,rfl⟩:=nH.mp z;obtain⟨g,s,r,p,_⟩:=(y u).1 q x;refine Yc.tuple (n:=6) (k:=0) (m:=4) (λc z=>?_)<|nK 4;simp only[oh,sU,qU]at z;rcases z with rfl|rfl|rfl|rfl
  ·show Ac<|zN l.2 g
  ·show .str (Wh _ s).1 (Wh _ s).2
  ·show .str (Wh _ r).1 (Wh _ r).2
  ·show .str (Wh _ p).1 (Wh _ p).2
 ·have:=Bc (y u).2 λn s=>by
   obtain⟨q,x,rfl⟩:=nH.mp s;show((y u).1 q x).1
  simp only[mV]at this ⊢;lia
def DM(ss:lX lY)(lw:lX (lY×lY))(sts:lX lY)(val:lY->lX Zv):PyData:=.list [.list (ss.map PyData.str),.dict<|(lw.map λp=>PyData.str p.1).zip (lw.map λp=>PyData.str p.2),.list<|sts.map PyData.str,Dr ss val]
def Fe(z:lX (lY×Nat))(ss:lX lY):PyData:=.list<|ss.map λt=>.int (((z.lookup t).getD 0:Nat):Int)
def AN(ad:pb)(lw:lX (lY×lY))(val:lY->lX Zv)(x:lX (lY×Nat))(z:lY):Prop:=∃y sts,y.Perm (x.map fst)/\PyProof.Rows.sortedS y=true/\sts.Perm (ad.st.map fst)/\PyProof.Rows.sortedS sts=true/\z=(DM y lw sts val).shown++(Fe x y).shown
def AN.one{ad y:pb}{val:lY->lX Zv}(h:AN ad lw val s z)(h':AN y lw val s r)(e:y.st=ad.st):z=r:=by
 obtain⟨x,sts,q,p,o,n,rfl⟩:=h;obtain⟨g,x,l,j,u,i,rfl⟩:=h';rw[e]at u;rw[Wo p j (q.trans l.symm),Wo n i<|o.trans u.symm]
def CM{ss:lX lY}(h:H l=some (.lst<|ss.map V.str)):Rp H (.list<|ss.map PyData.str) (.ref l):=by
 refine .lst h ?_;clear h
 induction ss with
 | nil=>show .nil
 | cons x ss z=>show .cons (.str x) z
def YN{f:lY->Int}{ss:lX lY}(h:H l=some (.lst<|ss.map λt=>V.int<|f t)):Rp H (.list<|ss.map λt=>PyData.int<|f t) (.ref l):=by
 refine .lst h ?_;clear h
 induction ss with
 | nil=>show .nil
 | cons x ss z=>show .cons (.int _) z
def Gb{lw:lX (lY×lY)}(h:H l=some (.dK<|Z2 V.str lw)):Rp H (.dict<|(lw.map λp=>PyData.str p.1).zip (lw.map λp=>PyData.str p.2)) (.ref l):=by
 have r:qM H (lw.map λp=>PyData.str p.2) ((Z2 V.str lw).map snd):=by
  clear h
  induction lw with
  | nil=>show .nil
  | cons e y z=>show .cons (.str _) z
 have:=Rp.dk h r;rw[show(Z2 V.str lw).map (λp=>kD p.1)=lw.map λp=>PyData.str p.1 from by rw[show Z2 V.str lw=lw.map λq=>(Sum.inr q.1,V.str q.2)from rfl,oU];rfl]at this;show this
open Classical in
def uL(Z:lZ->Prop)(H:Hp):Hp:=λb=>if Z b then none else H b
def II{Z:lZ->Prop}(e:H b=some o)(n:¬Z b):uL Z H b=some o:=(ng n).trans e
def Nc{Z:lZ->Prop}(e:uL Z H b=some o):H b=some o/\¬Z b:=by
 unfold uL at e
 by_cases z:Z b
 ·rw[nj z]at e;cases e
 ·rw[ng z]at e;show#[e,z]
def Po{Z x:lZ->Prop}(k:∀b o,H b=some o->¬Z b->r b=some o)(z:∀b,x b->Z b\/H b=none):mK (uL Z H) (uL x r):=λb o e=>by
 obtain⟨u,s⟩:=Nc e;refine II (k b o u s) λy=>?_
 rcases z b y with w|w
 ·show s w
 ·rw[u]at w;cases w
def zy(H:Hp)(Z:lZ->Prop)(y:lZ)(n:Nat):Prop:=∃z:lX lZ,H y=some (.lst<|z.map V.ref)/\z.length<=n/\∀u∈z,∃(l:lZ)(d:PyData),uL Z H u=some (.tup [.ref l,.str d.shown])/\Rp (uL Z H) d (.ref l)/\Yc 24000 3 d
def zy.on{Z x:lZ->Prop}(h:zy H Z y n)(k:∀b o,H b=some o->¬Z b->r b=some o)(z:∀b,x b->Z b\/H b=none)(e:r y=H y):zy r x y n:=by
 obtain⟨q,p,j,i⟩:=h;have s:=Po k z;refine#[q,e.trans p,j,λu g=>?_];obtain⟨l,d,c,a,Y⟩:=i u g;show#[l,d,s.at c,HR s a,Y]
inductive Ei:Sp
 | mk (H0) (F:lZ->Prop) (x tr ad lw) (val:lY->lX Zv) (ln:lX (lY×Nat)):vs=[.ref x]->nV T H0 H F x tr ad lw val ln->(∀p∈ln,p.2<=4)->(∀z H',mK H H'->AN ad lw val ln z->Q (.str z) H')->Ei vs H Q E
def HK(hb:∃mm,mM.Ns sysModules mm):T.eG.O P w mg mM 5 (Ei T):=by
 refine T.eG.F.okW JT ?_;rfl'
 ·obtain⟨G,F,x,B,ad,L,val,g,rfl,z,h4,q⟩:=h;intro X D;have g8:=z.len;have y:∀{l:lX lY},l.Perm (g.map fst)->(∀t∈l,Xf t)/\l.length<=10:=λ{l} p=>#[λt Y=>by
   obtain⟨U,N,rfl⟩:=nH.mp<|p.mem_iff.mp Y;show z.ok U N,by rw[p.length_eq,mV];show g8]
  refine mW (nG 1 JT<|Zm<|Zb (Yk (pv 0) T.ae T.bH (X4 T) hr.m T.aK.b .nil Z0)<|Zb (Yk (pv 0) T.ae T.bK (X6 T) hr.m T.aN.b .nil Z0)<|Zb (Yk (pv 0) T.ae T.aW (Xh T) hr.m T.aD.b .nil Z0)<|Zb (Yk (pv 0) T.ae T.fR (ZO T) hr.m T.cE.b .nil Z0) Za) #[z.obj,rfl,G,F,x,B,ad,L,val,g,rfl,z,λl c p2 u o J j e1=>#[(z.mono J).obj,rfl,G,F,x,B,ad,L,val,g,rfl,z.mono J,λe a s2 n2 e2=>#[(z.mono<|J.trans s2).obj,rfl,G,F,x,B,ad,L,val,g,rfl,z.mono<|J.trans s2,λsts p3 p4 l3 H3 s3 n3 e3=>#[(z.mono<|J.trans<|s2.trans s3).obj,rfl,G,F,x,B,ad,L,val,g,rfl,z.mono<|J.trans<|s2.trans s3,λD4 l4 i9 H4 p5 p6 s4 n4 e4 f4 _=>#[mY,λl5 H5 s5 n5 e5=>?_]]]]];obtain rfl:=Wo p2 p6<|c.trans p5.symm;have T6:=J.trans<|s2.trans<|s3.trans<|s4.trans s5;have I:=z.mono T6;have d1:Yc 96004 4 (DM l L sts val):=by
   unfold DM;refine Yc.up (Yc.list (n:=24000) (k:=3) (m:=4) (λd hd=>?_) (by show nK 4)) (by lk) (by lk);simp only[oh,sU,qU]at hd;rcases hd with rfl|rfl|rfl|rfl
   ·show(Fd (y c).1 (y c).2).up (by lk) (by lk)
   ·refine(Yc.dict (n:=6) (k:=0) (m:=40) (λd hd=>?_) (by rw[GA,mV,mV];have:=z.lwl;lia)).up (by lk) (by lk);obtain⟨a,b⟩:=d;obtain⟨j,hb⟩:=tW hd;obtain⟨t,Y,rfl⟩:=nH.mp j;obtain⟨u,e,rfl⟩:=nH.mp hb;have o:=(z.kx.lok.2 u e).2;show#[Ac<|zN z.kx.nok.2 (z.kx.lok.2 t Y).1,.str (Wh _ o).1 (Wh _ o).2]
   ·refine(Fd (m:=40) (λt Y=>?_) (by rw[p3.length_eq,mV];show z.stl)).up (by lk) (by lk);obtain⟨U,N,rfl⟩:=nH.mp<|p3.mem_iff.mp Y;show zN z.kx.nok.2 (z.kx.sok.2 U N).1
   ·show Zw6 (y c).1 (y c).2 z.kx.nok z.kx.pok
  have d2:Yc 70 1 (Fe g l):=by
   refine Yc.list (n:=6) (k:=0) (m:=10) (λd hd=>?_) (by rw[mV];show(y c).2);obtain⟨t,Y,rfl⟩:=nH.mp hd;obtain⟨U,N,rfl⟩:=nH.mp<|c.mem_iff.mp Y;rw[zY z.lnd N];have:=h4 U N;show XF U.2 (by lia)
  have z1:=d1.half (by lk);have z2:=d2.half (by lk);have e0:sizeLine=16777216:=rfl;have r1:Rp H5 (DM l L sts val) (.ref l5):=.lst e5<|.cons (CM<|(s2.trans<|s3.trans<|s4.trans s5).at e1)<|.cons (Gb<|(s3.trans<|s4.trans s5).at e2)<|.cons (CM<|(s4.trans s5).at e3)<|.cons (f4 ▸ (e4.mono s5).rp) .nil;refine mX (Zk<|Zn Wl (Z6 (r:=yZ) (Ax hb hr.gd hr.units) (by rfl) T.fS AF<|Zb (pv 1) Za)<|Z6 (r:=yZ) (Ax hb hr.gd hr.units) (by rfl) T.fS AF<|Zb (pT ["_law_name","_law_keeper"] (pr 1 [0] rfl) (Yi<|Yk (pv 0) T.ae T.bH (X4 T) hr.m T.aK.b .nil Z0) (oJ 0) Wi (Yf (pv 1) T.ae T.ft (Zi1 T) hr.m T.cq.b .nil Z0<|Zb (pv 0) Za)) Za) #[l5,_,rfl,r1,d1.1,oy d1.2.2.1 (by lk),by lia,I.obj,rfl,G,F,x,B,ad,L,val,g,rfl,I,λD4 p7 p8 u H6 s6 o e6=>?_];obtain rfl:=Wo p2 p8<|c.trans p7.symm;refine#[mZ e6,λC hC=>Yz (xs:=l.map V.str) (λi ys H'=>ys=((l.take i).map λt=>V.int (((g.lookup t).getD 0:Nat):Int))/\H' C=some (.lst ys)/\mK H6 H') #[rfl,Zc,pC hC] ?_ ?_ ?_]
  ·rintro i ys H' _ ⟨_,_,u⟩;show mZ<|u.at e6
  ·rintro j v ys H7 a ⟨rfl,M,s7⟩;rw[nU]at a;obtain⟨t,Y,rfl⟩:=oo.mp a;obtain⟨U,N,rfl⟩:=nH.mp<|c.mem_iff.mp<|pi Y;have u:=I.mono<|s6.trans s7;have K5:=(y c).2;unfold qB;refine#[pA rfl,u.obj,rfl,G,F,x,B,ad,L,val,g,U,rfl,u,N,λH8 s8=>#[s8.at M,?_,?_,Zc,λb o e=>?_]]
   ·rw[mV,oF];show Zp (by lia)
   ·rw[oH,Y,nJ];change _=_++[V.int (((g.lookup U.1).getD 0:Nat):Int)];rw[zY z.lnd N]
    rfl
   ·rw[Zd (Ze e hC)];show s8.at<|s7.at e
  ·rintro ys H7 ⟨rfl,M,s7⟩;rw[mV,pD]at M;have u:Rp H7 (Fe g l) (.ref C):=YN M;show#[C,_,rfl,u,d2.1,oy d2.2.2.1 (by lk),by lia,.inr<|.inl #[_,_,rfl,rfl,by lia,q _ H7 (T6.trans<|s6.trans s7) #[l,sts,c,p2,p3,p4,rfl]]]
def Ia(sn:lY)(qs:lX S4):Tr:=.tup<|.str sn ::qs.map Av
def qh.im{qs:lX S4}(h:qh ns H t sn qs):Im K H 2 (Ia sn qs) (.ref t):=by
 obtain⟨x,z,y⟩:=h;show vt (n:=1) (nw z)<|.cons (.str _) y.im
def Ux{ts:lX lZ}{z:lX (lX S4)}(h:Paired (λt ss=>qh ns H t sn ss) ts z):Paired (Im K H 2) (z.map<|Ia sn) (ts.map V.ref):=by
 induction h with
 | nil=>show .nil
 | cons r _ y=>show .cons r.im y
inductive Qw(T:Tx K mg):Sp
 | mk (H0) (F:lZ->Prop) (x tr dt ad) (lw:lX (lY×lY)) (val:lY->lX Zv) (ln:lX (lY×Nat)) (ps js) (sg:lX (lY×lY×lY)) (nm) (cell:Int):vs=[.ref x,.ref tr,.str nm,.int cell,.ref dt]->nV T H0 H F x tr ad lw val ln->ad.ns=ps->Zz T H0 tr ps js sg->Y4 ps js sg->qx T H0->nm∈ln.map fst->val nm≠[]->H dt=some (.dK<|Z2 V.bl [])->
  (∀v (H':Hp) (F':lZ->Prop) (E3:pb) (E8:lX (lY×lY)) (val':lY->lX Zv),(∀b,F' b->F b\/H b=none)->AK F H H'->E3.ns=ad.ns->E3.sd=ad.sd->(∀t,val t≠[]->val' t≠[])->nV T H0 H' F' x tr E3 E8 val' ln->Q v H')->Qw T vs H Q E
def Ve:T.ef.O P w mg mM 12 (Qw T):=by
 refine T.ef.F.okL T.fm zg λcdc A mJ s H vs Q E hL I h=>?_
 ·obtain⟨H0,F,x,tr,dt,ad,lw,val,ln,ps,js,sg,nm,cell,rfl,Y,A7,ht,yv,tb,hm,w6,O3,q⟩:=h;intro X D;obtain⟨o,_,_,_,_,_,_,_,_,ht1,_⟩:=(ht.mono Y.same).ex;refine mW (nG 5 zg<|nQ (Yf (pv 0) T.ae T.cO (BS T) I.m T.bg.b .nil Z0<|Zb (pv 2) Za)<|DX Cz Zf) #[Y.obj,rfl,H0,F,x,tr,ad,lw,val,ln,nm,rfl,Y,hm,λl H1 s1 o ⟨ts,hl,u0⟩=>?_];obtain⟨ws,tq,rfl⟩:∃ws tq,ts=ws++[tq]:=by
   have:ts≠[]:=λy=>by
    rw[y]at u0;show w6<|ui.mp (nW u0).symm
   show#[ts.dropLast,ts.getLast this,(Ej _).symm]
  obtain⟨N,_,rq⟩:=pE u0 (i:=ws.length) (a:=tq) (by simp);have rq:tM H1 tq N:=rq;have la:oP ((ws++[tq]).map V.ref) (-1)=some (.ref tq):=by
   rw[nJ];show Hu _ _
  refine .inl #[mZ hl,la,?_];refine mW (nG 6 zg<|Yf (pv 1) T.am T.br (Xy T) I.m T.aG.b .nil Z0<|Zb (Zi<|Zb (nQ (pv 5) Zf)<|Zb (nQ (pv 5) Zf) Za) Za) #[s1.at ht1,rfl,.inr<|.inl #[nw rq,Zq (j:=0) rfl,.inr<|.inl #[nw rq,Zq (j:=2) rfl,mY,λo g s2 c l=>#[tr,o,(N.1,N.2.2.1),ps,js,sg,rfl,ht.mono (Y.mono<|s1.trans s2).same,yv,l,λM hn=>?_]]]];refine mW (nG 7 zg<|Zm Za) #[mY,λl3 o s3 l e3=>?_];have C4:=s1.trans<|s2.trans s3;have C3:=Y.mono C4;let I24:IC:=λz H'=>∃(l4:lZ)(C:lX (lX S4)),z=[some (.ref x),some<|.ref tr,some<|.str nm,some<|.int cell,some<|.ref dt,some<|.ref tq,some<|.str M,some<|.ref l4,none]/\mK H H'/\qI ps H' l4 M C/\(∀r∈C,xt r)/\(C≠[]->∃e:Zh,((M,e):lY×lY×lY)∈sg)
  refine qz I24 (qo (Zt (tZ I (pv 6) Zg) Zo Zl)<|.inl #[rfl,Yl (λy=>?_) λ_=>#[l3,[],rfl,C4,#[[],e3,.nil],(λ_ y=>nomatch y),λy=>absurd rfl y]]) ?_
  ·have y:M≠ "":=λu=>by
    rw[u]at y;show absurd y (by left)
   rcases hn with⟨o,_,_⟩|⟨o,_⟩
   ·obtain⟨g,hg,l⟩:=nH.mp o;have hg:((M,(N.1,N.2.2.1)):lY×lY×lY)∈sg:=(show g=(M,N.1,N.2.2.1)from l) ▸ hg;show mX (nG 7 zg<|Zx (Zlh T) I<|Zb (pv 1)<|Zb (pv 6) Za) #[tr,(M,(N.1,N.2.2.1)),ps,js,sg,rfl,ht.mono C3.same,yv,hg,λl4 C H4 s4 c r4 G ok=>#[l4,C,rfl,C4.trans s4,r4,ok,λ_=>#[_,hg]]]
   ·show absurd o y
  rintro z H4 ⟨l4,C,rfl,s4,⟨us,e4,r4⟩,okr,hsg⟩;have O8:=nW r4;refine mW (Zt (Wu I (pv 7)<|Zm Za) Zo Zl) #[mY,λc G B n5 l=>.inr<|.inl #[3,.lst<|C.map<|Ia M,.lst [],by lk,.inr #[_,_,rfl,rfl],vW (mZ<|B.at e4)<|Ux<|nX r4 λ_ _ r=>r.mono B,vW (mZ l) .nil,Yl (λy=>mX (Zk<|Zi<|Zb Zg<|Zb Zg Za) #[mY,λt6 g o _ _=>q _ g F ad lw val (λb y=>.inl y) (Ob<|s4.trans<|B.trans o) rfl rfl (λ_ y=>y)<|Y.mono<|s4.trans<|B.trans o]) λy=>?_]];have O0:C≠[]:=λu=>y (by rw[u];show og rfl)
  obtain⟨e,hg⟩:=hsg O0;have T6:=s4.trans B;have hw5:=Y.mono T6;have B4:0<us.length:=by rw[O8];show xC λu=>O0<|ui.mp u
  obtain⟨j,hj,y4⟩:=Wy (a:=cell) (n:=us.length) B4;obtain⟨p,hu⟩:∃p,us[j]? =some p:=#[_,oR y4]
  obtain⟨qs,hqs,ru⟩:=pE r4 hu;refine mW (nG 8 zg<|nQ (pv 7)<|Zn Yh (pv 3)<|pI T.bh<|pv 7)<|.inl #[.inl<|mZ<|B.at e4,(by rw[mV];change(0:Int)<_;lia),.inl #[mZ<|B.at e4,(show oP _ (cell%(((us.map V.ref).length:Nat):Int))=some (.ref p)from by rw[mV,hj];show Zq<|by rw[nU,hu];rfl),?_]];have tb5:=tb.mono hw5.same;refine mX (Zk<|Zi<|Zb (pv 8)<|Zb (zh (X5 T) I.m (λ_=>rfl) rfl T.af.m T.af.F.kp T.af.b<|Zb (yn (Pt:=T.cw) rfl hL) Za) Za) #[_,tb5._law_led,oN,λl g s7 n7 o=>xV T o (fs:=["_law_keeper","_law_name","_law_way","_law_seen"]) (fvs:=[.ref x,.str nm,.ref p,.ref dt]) (.cons #[0,_,rfl,rfl,rfl,rfl,rfl,rfl]<|.cons #[2,_,rfl,rfl,rfl,rfl,rfl,rfl]<|.cons #[8,_,rfl,rfl,rfl,rfl,rfl,rfl]<|.cons #[4,_,rfl,rfl,rfl,rfl,rfl,rfl] .nil) ?_ ?_ ?_ (λ_ _ _=>rfl) (by left) (by left) rfl rfl rfl λG c A mJ s E sG qe I=>rM (Yf (pv 0) T.ae T.eS (Zhy T) I.m T.bn.b .nil yy<|Zb (pv 1)<|Zb (pv 2)<|Zb (pv 3) Za) ?_]
  ·simp
  ·simp;decide +kernel
  ·simp;lia
  have F2:=T6.trans s7;have L:=F2.trans sG;have hwG:=Y.mono L;refine#[hwG.obj,rfl,H0,F,x,tr,p,dt,ad,lw,val,ln,ps,js,sg,nm,(M,e),qs,rfl,hwG,A7,ht,yv,tb,hm,w6,hg,ru.mono<|B.trans<|s7.trans sG,okr _<|pi hqs,L.at O3,λc F8 ad8 lw8 val8 f8 off8 ns8 sd8 ne8 k8 H9 bk=>#[mY,λd U J _ _=>?_],λr G dx c o l s8 g=>qe r G dx c o l s8 g λH9 s9=>?_]
  ·have k9:=(k8.back bk<|Y.same.trans F2).mono J;refine q _ U _ ad8 lw8 val8 (λb y=>?_) (λb o l y=>?_) ns8 sd8 ne8 k9
   ·rcases f8 b y.1 with u|u
    ·show .inl u
    ·show .inr<|L.free u
   ·show J.at<|bk.old _ _ _ (F2.at y)<|off8 _ _ l<|L.at y
  ·have fin:∀d U,mK H9 U->Q (.ref d) U:=λd U J=>q _ U F ad lw val (λb y=>.inl y) (Ob<|F2.trans<|s9.trans J) rfl rfl (λ_ y=>y)<|Y.mono<|F2.trans<|s9.trans J
   show#[λ_=>#[mY,λd U J _ _=>fin d U J],λo _ t _=>#[mY,λd U J _ _=>fin d U J]]
def qv.offL(h:qv H C x nm)(y:H c=some (.lst xs)):qv (mT H c o) C x nm:=by
 obtain⟨u,h⟩:=h;show#[u,(Zd λz=>by rw[z,y]at h;cases h).trans h]
def Lh(H:Hp)(t:lZ)(ps:lX Zh)(u:lX (Zh×Zh))(s:lX (lY×lY×lY)):Prop:=∃z y x,H t=some (.tup [.ref z,.ref y,.ref x])/\Zw H z ps/\Yp H y u/\vc H x s
inductive IK:Sp
 | mk (t ps js sg):vs=[.ref t]->Lh H t ps js sg->Y4 ps js sg->(∀x H',mK H H'->H x=none->Zz T H' x ps js sg->Q (.ref x) H')->IK vs H Q E
def UT:T.dW.O P w mg mM 7 (IK T):=by
 refine T.dW.F.okA ?_;rfl'
 ·obtain⟨t,U,js,sg,rfl,⟨z,jl,sl,N,⟨ts,M,L⟩,y4,K5⟩,a,q⟩:=h;intro X D;have M6:=nW L;have U0:=a.len;refine mX (Zk<|wy (KQ T) T.iD (XO T) hr.m rfl T.iP T.bM.b .nil Z0 (Zxf T)<|Zb (pT ["_law_kind","_law_name"] (pr 2 [] rfl) (Yi<|nQ (pv 0) Zf) (vX (K:=K) (n:=2) rfl rfl<|Zu (oJ 0)<|Zu (oJ 1) Y8) Wi (Zx (Zqw T) hr<|Zb (pv 0)<|Zb (pv 1) Za))<|Zb (nQ (pv 0) Zf)<|Zb (nQ (pv 0) Zf) Za)<|.inr<|.inl #[nw N,Zq (j:=0) rfl,mZ M,λD J=>Yz (K:=K) (xs:=ts.map V.ref) (λi c Y=>(∃g:lX lZ,c=g.map V.ref/\Paired (PO T Y) g (U.take i))/\Y D=some (.lst c)/\mK H Y) #[#[[],rfl,.nil],Zc,pC J] ?_ ?_ ?_]
  ·rintro i c Y _ ⟨_,_,z⟩;show mZ<|z.at M
  ·rintro i v c H1 I ⟨⟨g,rfl,y⟩,r,l⟩;rw[nU]at I;obtain⟨u,hu,rfl⟩:=oo.mp I;obtain⟨p,G,e⟩:=pE L hu;have e:H u=some (.tup [.str p.1,.str p.2]):=e;have B:p∈U:=pi G;have hxl:g.length<=100:=by
    have:=nW y;rw[oF]at this;lia
   refine#[nw<|l.at e,rfl,rfl,(pA rfl).trans (pA rfl),p.1,p.2,rfl,a.net.kind p B,(a.name p B).2.1,λx C H2 d n2 hC hO=>#[d.at r,by rw[mV];show Zp (by lia),#[g++[x],by rw[nJ];rfl,?_],Zc,λb o z=>?_]]
   ·rw[oH,G];show pQ (nX y λ_ _ ⟨C,o,z2⟩=>#[C,o,(z2.mono d).offL (d.at r)])<|.cons #[C,hC,hO.offL<|d.at r] .nil
   ·rw[Zd (Ze z J)];show d.at<|l.at z
  ·rintro c H1 ⟨⟨g,rfl,y⟩,r,l⟩;rw[mV,M6,pD]at y;show(.inr<|.inl #[nw<|l.at N,Zq (j:=1) rfl,.inr<|.inl #[nw<|l.at N,Zq (j:=2) rfl,D,jl,sl,g,U,js,sg,rfl,r,y,y4.mono l,K5.mono l,a,λx H2 d n2 z=>q x H2 (l.trans d) (l.free n2) z]])
def X7(f:lY->Bool)(ps:lX Zh):lX lY:=(ps.filter λp=>f p.1).map snd
def Cp(f:lY->Bool)(ps:lX Zh):(X7 f ps).length<=ps.length:=by
 unfold X7;rw[mV];show wW _ _
def Pg{f:lY->Bool} :n∈X7 f ps↔∃k,((k,n):Zh)∈ps/\f k=true:=by
 unfold X7
 constructor
 ·intro h;obtain⟨p,x,rfl⟩:=nH.mp h;obtain⟨z,y⟩:=wO.mp x;show#[p.1,z,y]
 ·rintro⟨k,z,y⟩;show nH.mpr #[_,wO.mpr #[z,y],rfl]
def Dv{f:lY->Bool}(U:r pl=some (.lst<|ts.map V.ref))(d:Paired (Zs r) ts ps)(C:ps.length<=100)(c:r D=none)(q:∀u,mK r u->u D=some (.lst<|(X7 f ps).map V.str)->Q (.ref D) u){fr:St->St}(N:fr z=[none,none])(h:∀z H Q s,z[0]? =some (some<|V.str s)->Q (f s) H->M z H Q)(L:J=rJ 1) :
  sw (uT K pl) fr (FU K 2<|Hm (qW 0)<|Hm (qW 1) QC) M J Q z r D:=by
 refine Yz (xs:=ts.map V.ref) (λi p u=>p=(X7 f<|ps.take i).map V.str/\u D=some (.lst p)/\mK r u) #[rfl,Zc,pC c] ?_ ?_ ?_
 ·rintro i p u _ ⟨_,_,n⟩;show mZ<|n.at U
 ·rintro j v p u a ⟨rfl,Y,n⟩;rw[nU]at a;obtain⟨t,g,rfl⟩:=oo.mp a;obtain⟨⟨s,e⟩,I,G⟩:=pE d g;have E:=Cp f<|ps.take j;rw[oF]at E;have l:X7 f (ps.take<|j+1)=X7 f (ps.take j)++if f s=true then[e]else[]:=by
   unfold X7;rw[oH,I,uM,nJ,show(some ((s,e):Zh)).toList=[(s,e)]from rfl,rB];split<;>rfl
  unfold qB;rw[N,L];refine#[nw<|n.at G,rfl,rfl,(pA rfl).trans (pA rfl),h _ _ _ s rfl<|Yl (λy=>?_) λy=>?_]
  ·rw[l,nj y];refine#[Y,by rw[mV];show Zp (by lia),by rw[nJ];rfl,Zc,λb o x=>?_];rw[Zd (Ze x c)];show n.at x
  ·rw[l,ng y,pO];show#[rfl,Y,n]
 ·rintro p y ⟨rfl,x,o⟩;refine q y o ?_;rw[x,mV,nW d,pD]
def Wk{H:Hp}{l:lZ}{ss:lX lY}(h:H l=some (.lst<|ss.map V.str)):Im K H 1 (.lst<|ss.map Tr.str) (.ref l):=vW (n:=0) (mZ h)<|Paired.strs _
def sP(k:lY):Bool:=decide<|V.str k=V.str "points"
def NE:n∈X7 sP ps↔(("points",n):Zh)∈ps:=by
 rw[Pg]
 constructor
 ·rintro⟨k,z,y⟩;rw[V.str.inj (pL y)]at z;show z
 ·show λh=>#[_,h,by left]
structure Kp(Hs:Hp)(Fs:Addr->Prop)(sd:Addr)(H:Hp)(F:Addr->Prop):Prop where
 at':∀b o,Hs b=some o->¬Fs b->b≠sd->H b=some o
 fr:∀b,F b->Fs b\/Hs b=none
def Kp.on{s H q:Hp}{r F p:lZ->Prop}{x:lZ}{u:HO}(h:Kp s r x H F)(l:H x=some u)(off:AK F H q)(j:∀b,p b->F b\/H b=none):Kp s r x q p where
 at':=λb o e n i=>off b o (λf=>(h.fr b f).elim n (λz=>by rw[e]at z;cases z)) (h.at' b o e n i)
 fr:=λb f=>(j b f).elim (h.fr b) λz=>by
  cases y:s b with
  | none=>show .inr rfl
  | some o =>
   by_cases k:r b
   ·show .inl k
   ·by_cases m:b=x
    ·rw[m,l]at z;cases z
    ·rw[h.at' b o y k m]at z;cases z
def Kp.mono{z H y:Hp}{x F:lZ->Prop}{u:lZ}(h:Kp z x u H F)(s:mK H y):Kp z x u y F:=#[λb o e n r=>s.at<|h.at' b o e n r,h.fr]
structure wF(T:Tx K mg)(H0 Hs:Hp)(Fs:Addr->Prop)(sd x tr:Addr)(ps:List Zh)(i:Nat)(H:Hp)(F:Addr->Prop)(ad:pb)(lw:List (Str×Str))(val:Str->List Zv)(ln:List (Str×Nat)):Prop where
 k:nV T H0 H F x tr ad lw val ln
 kp:Kp Hs Fs sd H F
 sd':ad.sd=sd
 ns:ad.ns=ps
 ne:∀t∈ln.map fst,val t≠[]
 l4:∀p∈ln,p.2<=4
 nm:∀t∈ln.map fst,t∈([("ta":Str),"b","t2"]:List Str).take i
 ll:ln.length<=i
def wF.mono{T:Tx K mg}{z y H u:Hp}{r F:lZ->Prop}{q x p:lZ}{ps:lX Zh}{i:Nat}{ad:pb}{lw:lX (lY×lY)}{val:lY->lX Zv}{o:lX (lY×Nat)}(h:wF T z y r q x p ps i H F ad lw val o)(s:mK H u):wF T z y r q x p ps i u F ad lw val o:=#[h.k.mono s,h.kp.mono s,h.sd',h.ns,h.ne,h.l4,h.nm,h.ll]
def wF.next{T:Tx K mg}{z y H:Hp}{u F:lZ->Prop}{s x r:lZ}{ps:lX Zh}{i:Nat}{ad:pb}{lw:lX (lY×lY)}{val:lY->lX Zv}{q:lX (lY×Nat)}(h:wF T z y u s x r ps i H F ad lw val q):wF T z y u s x r ps (i+1) H F ad lw val q:=#[h.k,h.kp,h.sd',h.ns,h.ne,h.l4,λt p=>by
 have:=h.nm t p;show(List.take_subset_take_left _<|qT i) this,Nat.le_succ_of_le h.ll]
inductive OO:Sp
 | mk (t cl) (ps:lX Zh) (js) (sg:lX (lY×lY×lY)) (cs:lX Int):vs=[.ref t,.ref cl]->Lh H t ps js sg->Y4 ps js sg->qx T H->H cl=some (.lst<|cs.map V.int)->cs.length<=3->(∀(tp x tr:lZ)(H0 H':Hp)(F:lZ->Prop)(ad:pb)(lw:lX (lY×lY)) (val:lY->lX Zv) (ln:lX (lY×Nat)),mK H H0->H' tp=some (.tup [.ref x,.ref tr])->Zz T H0 tr ps js sg->nV T H0 H' F x tr ad lw val ln->ad.ns=ps->(∀t∈ln.map fst,val t≠[])->(∀p∈ln,p.2<=4)->ln.length<=3->Q (.ref tp) H')->OO vs H Q E
def TQ(i:Nat)(h:i<3):∃nm:lY,([V.str "ta",.str "b",.str "t2"])[i]? =some (.str nm)/\Xf nm/\nm∉([("ta":lY),"b","t2"]:lX lY).take i/\nm∈([("ta":lY),"b","t2"]:lX lY).take (i+1):=by
 rcases i with _|_|_|i
 iterate 3 show#[_,rfl,by unfold Xf;decide +kernel,by left,by left]
 lia
inductive Au(T:Tx K mg)(H0 Hs:Hp)(Fs:Addr->Prop)(sd x tr:Addr)(ps:List Zh)(i:Nat)(ln:List (Str×Nat))(H:Hp):Prop
 | mk (F ad lw val):wF T H0 Hs Fs sd x tr ps i H F ad lw val ln->Au T H0 Hs Fs sd x tr ps i ln H
inductive BI(T:Tx K mg)(H0 Hs:Hp)(Fs:Addr->Prop)(sd x tr:Addr)(ps:List Zh)(t cl lg lp:Addr)(i:Nat):St->Hp->Prop
 | mk (a4 a5 a7 a8 a9 a10 a11 a13 ln):Au T H0 Hs Fs sd x tr ps i ln H->BI T H0 Hs Fs sd x tr ps t cl lg lp i [some (.ref t),some<|.ref cl,some<|.ref tr,some<|.ref lg,a4,a5,some<|.ref lp,a7,a8,a9,a10,a11,some<|.ref x,a13] H
def Zm6:T.di.O P w mg mM 13 (OO T):=by
 refine T.di.F.okL T.ee Ym λcdc A mJ s H vs Q E hL J h=>?_
 ·obtain⟨t,cl,U,js,sg,cs,rfl,ya,yv,tb,w9,N0,q⟩:=h;intro X D;refine mW (nG 2 Ym<|Zx (UT T) J<|Zb (pv 0) Za) #[t,U,js,sg,rfl,ya,yv,λN I s1 n1 M=>?_];refine mW (nG 12 Ym<|wy (PQ T) T.iF (Sz T) J.m rfl T.iR T.bO.b .nil Z0 (RU T)<|Zb (pv 2) Za) #[N,U,js,sg,rfl,M,yv,λx H2 F ad lw nx A7 hlw k2=>?_];refine mW (nG 3 Ym<|Zm Za) #[mY,λC H3 s3 n3 e3=>?_];obtain⟨pl,jl,sl,y1,⟨ts,y2,y3⟩,_⟩:=ya;have M6:=nW y3;have U0:=yv.len;have x9:=k2.same.trans s3;have C4:=s1.trans x9;have g1:I C=none:=k2.same.free n3;obtain⟨dxt,_,_,_,_,_,_,_,_,ht1,_⟩:=M.ex;let I25:IF:=λi z L=>(∃o4 o5,z=[some (.ref t),some<|.ref cl,some<|.ref N,some<|.ref C,o4,o5,none,none,none,none,none,none,some<|.ref x,none])/\(∀b o,b≠C->H3 b=some o->L b=some o)/\∃B:lX lY,L C=some (.lst<|B.map V.str)/\B.length<=i/\∀g∈B,(("gate",g):Zh)∈U/\((g,"a"):Zh)∈sg.map snd
  refine mW (Xk pM rfl (Yi<|nQ (pv 0) Zf) (tD rfl<|Zu (oE 4 Ym)<|Zu (oE 5 Ym) Y8) Zo)<|.inr<|.inl #[nw<|C4.at y1,Zq (j:=0) rfl,mZ<|C4.at y2,Wp (K:=K) (xs:=ts.map V.ref) I25 #[#[none,none,rfl],λ_ _ _ y=>y,[],e3,nK _,λ_ y=>nomatch y] ?_ ?_ ?_]
  ·rintro i z L _ ⟨_,d,_⟩;show mZ<|d _ _ (λy=>by rw[y]at y2;rw[s1.at y2]at g1;cases g1)<|C4.at y2
  ·rintro i v z H4 hi ⟨⟨o4,o5,rfl⟩,d,B,eg,hgl,hgs⟩;rw[nU]at hi;obtain⟨u,hu,rfl⟩:=oo.mp hi;obtain⟨p,hp,hpu⟩:=pE y3 hu;have D5:i<ts.length:=(pz.mp hu).1;have hpm:p∈U:=pi hp;have sm:mK I H4:=λb o e=>d b o (λy=>by rw[y,g1]at e;cases e)<|x9.at e
   have hpu:H4 u=some (.tup [.str p.1,.str p.2]):=sm.at<|s1.at hpu;refine#[nw hpu,rfl,rfl,?_];refine mX (Zt (sJ<|yO (Wu J (pv 4) Zg)<|AZ<|tZ J (Yf (pv 2) T.am T.br (Xy T) J.m T.aG.b .nil Z0<|Zb (Zi<|Zb (pv 5)<|Zb Zg Za) Za) Zg) Zo Zl)<|.inl #[rfl,Yl (λy=>#[sm.at ht1,rfl,mY,λt5 H5 s5 n5 e5=>#[N,t5,(p.2,"a"),U,js,sg,rfl,M.mono<|sm.trans s5,yv,e5,λsn hn=>.inl #[rfl,Yl (λr=>?_) λ_=>#[#[_,_,rfl],λb o nb e=>s5.at<|d b o nb e,B,s5.at eg,by lia,hgs]]]]) λ_=>#[#[_,_,rfl],d,B,eg,by lia,hgs]];have hk:p.1 ="gate":=V.str.inj<|pL y;have hse:((p.2,"a"):Zh)∈sg.map snd:=by
    rcases hn with⟨_,_,m⟩|⟨m,_⟩
    ·show m
    ·rw[m]at r;show absurd r (by left)
   refine mX (Z1<|rD (pv 3)<|pv 5) #[.inl #[rfl,_,mZ<|s5.at eg],s5.at eg,?_,#[_,_,rfl],λb o nb e=>?_,B++[p.2],?_,?_,?_]
   ·rw[mV];show Zp (by lia)
   ·rw[Zd nb];show s5.at<|d b o nb e
   ·rw[Zc,nJ];rfl
   ·rw[oj,zL];lia
   ·intro g hg;rcases oO.mp hg with m|m
    ·show hgs g m
    ·rw[pK.mp m];show#[by rw[<-hk];show hpm,hse]
  rintro z H4 ⟨⟨o4,o5,rfl⟩,d,B,eg,hgl,hgs⟩;rw[mV]at hgl;have sm:mK I H4:=λb o e=>d b o (λy=>by rw[y,g1]at e;cases e)<|x9.at e
  have T5:=s1.trans sm;have y1':=T5.at y1;have y2':=T5.at y2;let I26:IC:=λz L=>∃lp,z=[some (.ref t),some<|.ref cl,some<|.ref N,some<|.ref C,o4,o5,some<|.ref lp,none,none,none,none,none,some<|.ref x,none]/\mK H4 L/\H4 lp=none/\L lp=some (.lst<|(X7 sP U).map V.str)
  refine qz I26 (qo (xx 6 ["_law_kind","_law_one"] Ym (pr 2 [] rfl) (Yi<|nQ (pv 0) Zf) (vX (K:=K) (n:=2) rfl rfl<|Zu (oJ 0)<|Zu (oJ 1) Y8) (sS<|Yd (r:=wg K) (Bl J) (pv 0) Zg<|Yo _) (pv 1))<|.inr<|.inl #[nw y1',Zq (j:=0) rfl,mZ y2',λD hD=>Dv (f:=sP) y2' (nX y3 λ_ _ n=>n.mono T5) (by lia) hD (λHD sD eD=>#[D,rfl,sD,hD,eD]) ?aa (λ_ _ _ _ e h=>oV.of e<|.inl #[rfl,h]) ?cc]) ?_
  case aa=>rfl
  case cc=>rfl
  rintro z H5 ⟨lp,rfl,s5,nlp,elp⟩;have P2:∀l∈X7 sP U,(("points",l):Zh)∈U:=λl hn=>NE.mp hn
  have m9:=Cp sP U;generalize X7 sP U=pn at elp P2 m9;have s24:mK H2 H4:=λb o e=>d b o (λy=>by rw[y,n3]at e;cases e)<|s3.at e
  have B3:=s24.trans s5;have k5:=k2.mono B3;have b5:wF T I H5 F ad.sd x N U 0 H5 F ad lw (λ_=>[]) []:=#[k5,#[λ_ _ e _ _=>e,λ_ y=>.inl y],rfl,A7,(λ_ y=>nomatch y),(λ_ y=>nomatch y),(λ_ y=>nomatch y),nK _]
  have glg:¬F C/\C≠ad.sd:=#[k2.neF n3,λy=>by rw[y,k2.sti]at n3;cases n3]
  have glp:¬F lp/\lp≠ad.sd:=#[(k2.mono s24).neF nlp,λy=>by rw[y,(k2.mono s24).sti]at nlp;cases nlp]
  have gcl:¬F cl/\cl≠ad.sd:=#[(λy=>by have:=k2.free cl y;rw[s1.at w9]at this;cases this),(λy=>by have:=k2.kx.s0;rw[<-y,s1.at w9]at this;cases this)]
  have elg:=s5.at eg;have ecl:=(T5.trans s5).at w9;refine mW (Xk pM rfl (yu rfl T.cz<|Zb (pv 1) Za) (tD rfl<|Zu (oE 7 Ym)<|Zu (oE 10 Ym) Y8) Zo) #[mZ ecl,yD (K:=K) (xs:=cs.map V.int) (BI T I H5 F ad.sd x N U t cl C lp) (.mk _ _ _ _ _ _ _ _ _<|.mk _ _ _ _ b5) ?_ ?_ ?_]
  ·rintro i z L _ ⟨_,_,_,_,_,_,_,_,_,⟨_,_,_,_,b⟩⟩;show mZ<|b.kp.at' _ _ ecl gcl.1 gcl.2
  ·rintro i v z H6 hi ⟨a4,a5,a7,a8,a9,a10,a11,a13,ln6,⟨F6,ad6,lw6,val6,b6⟩⟩ tp H7 s7 n7 e7;rw[nU]at hi;obtain⟨c,hc,rfl⟩:=oo.mp hi;have D5:i<3:=pF (pz.mp hc).1 N0;refine#[nw e7,rfl,rfl,?_];obtain⟨nm,C5,hnv,N8,hnin⟩:=TQ i D5;refine mW (nG 13 Ym<|nQ (Zm<|Zb Zg<|Zb Zg<|Zb Zg Za)<|pv 7) #[mY,λl8 H8 s8 n8 e8=>.inl #[mZ e8,Zq C5,?_]];have b8:=b6.mono<|s7.trans s8;let I27:IC:=λz L=>z=[some (.ref t),some<|.ref cl,some<|.ref N,some<|.ref C,a4,a5,some<|.ref lp,some<|.int (i:Int),a8,a9,some<|.int c,a11,some<|.ref x,some<|.str nm]/\∃ln',Au T I H5 F ad.sd x N U i ln' L
   refine qz I27 (qo (Zt (sJ<|yO (tZ J (pv 6)<|Zm Za)<|AZ<|Wu J (Zn Yh (Zn Ye (pv 10) Zf) Zf) Zf) Zo Zl) #[mY,λl9 H9 s9 n9 e9=>.inr<|.inl #[1,_,.lst [],by lk,.inr #[_,_,rfl,rfl],Wk<|(b8.mono s9).kp.at' _ _ elp glp.1 glp.2,vW (mZ e9) .nil,Yl (λw6=>#[#[by lk,by lk],(by change(0:Int)<3;decide),.inl #[rfl,Yl (λy=>?_) λ_=>#[rfl,_,.mk _ _ _ _<|b8.mono s9]]]) λ_=>#[rfl,_,.mk _ _ _ _<|b8.mono s9]]]) ?_
   ·have Y:=b8.mono s9;have ep9:=Y.kp.at' _ _ elp glp.1 glp.2;have B4:0<pn.length:=xC λr=>by
     rw[ui.mp r]at w6;simp at w6
    obtain⟨j,hj,y4⟩:=Wy (a:=c / 27) (n:=pn.length) B4;obtain⟨pt,O1⟩:∃u,pn[j]? =some u:=#[_,oR y4]
    refine mX (Z1<|Yf (pv 12) T.ae T.cJ (Km T) J.m T.ar.b .nil Z0<|Zb (nQ (pv 6)<|Zn Yh (Zn Ye (pv 10) Zf)<|pI T.bh<|pv 6) Za) #[Y.k.obj,rfl,#[by lk,by lk],.inl #[.inl<|mZ ep9,(by rw[mV];change(0:Int)<_;lia),.inl #[mZ ep9,(show oP _ ((c / 27)%(((pn.map V.str).length:Nat):Int))=some (.str pt)from by rw[mV,hj];show Zq<|by rw[nU,O1];rfl),I,F6,x,N,ad6,lw6,val6,ln6,U,js,sg,pt,rfl,Y.k,M,yv,P2 pt<|pi O1,Y.ns,λHA adA kA sA nA _ aA=>#[rfl,ln6,.mk F6 adA lw6 val6 #[aA,#[λb o e l ns=>kA b o (by rw[Y.sd'];show ns)<|Y.kp.at' b o e l ns,Y.kp.fr],sA.trans Y.sd',nA.trans Y.ns,Y.ne,Y.l4,Y.nm,Y.ll]]]]]
   rintro z HB ⟨rfl,lnB,⟨FB,adB,lwB,valB,bB⟩⟩;refine mW (nG 8 Ym Zg) ?_;have tb1:=tb.mono s1;let I28:IC:=λz L=>∃cv b11 ln',z=[some (.ref t),some<|.ref cl,some<|.ref N,some<|.ref C,a4,a5,some<|.ref lp,some<|.int (i:Int),some cv,a9,some<|.int c,b11,some<|.ref x,some<|.str nm]/\Au T I H5 F ad.sd x N U (i+1) ln' L/\(cv=.str "none"\/(cv=.str "done"/\nm∈ln'.map fst)\/∃u y p,cv=.ref u/\L u=some (.tup [y,p]))
   refine qz I28 (qo (Zt (tZ J (pv 3)<|Zm Za) Zo Zl) #[mY,λl9 H9 s9 n9 e9=>.inr<|.inl #[1,_,.lst [],by lk,.inr #[_,_,rfl,rfl],Wk<|(bB.mono s9).kp.at' _ _ elg glg.1 glg.2,vW (mZ e9) .nil,Yl (λw6=>?_) λ_=>#[_,_,_,rfl,.mk _ _ _ _ (bB.mono s9).next,.inl rfl]]]) ?_
   ·have Y:=bB.mono s9;have eg9:=Y.kp.at' _ _ elg glg.1 glg.2;have B4:0<B.length:=xC λr=>by
     rw[ui.mp r]at w6;simp at w6
    obtain⟨j,hj,y4⟩:=Wy (a:=c / 81) (n:=B.length) B4;obtain⟨g,hg⟩:∃u,B[j]? =some u:=#[_,oR y4]
    obtain⟨gp,gsg⟩:=hgs g<|pi hg;obtain⟨m,hm,hm4⟩:=Wy (a:=c) (n:=4) (by lk);have hm:(1:Int)+c%4=((m+1:Nat):Int):=by
     have:c%4=(m:Int):=hm;lia
    have hnl:nm∉lnB.map fst:=λy=>N8<|Y.nm nm y
    refine mW (nG 11 Ym<|nQ (pv 3)<|Zn Yh (Zn Ye (pv 10) Zf)<|pI T.bh<|pv 3) #[#[by lk,by lk],.inl #[.inl<|mZ eg9,(by rw[mV];change(0:Int)<_;lia),.inl #[mZ eg9,(show oP _ ((c / 81)%(((B.map V.str).length:Nat):Int))=some (.str g)from by rw[mV,hj];show Zq<|by rw[nU,hg];rfl),?_]]];have tb9:=tb1.mono Y.k.same;refine mX (nG 8 Ym<|zh (X5 T) J.m (λ_=>rfl) rfl T.af.m T.af.F.kp T.af.b<|Zb (yn (Pt:=T.bu) rfl hL) Za) #[_,tb9._law_begun,oN,λfl HL sL nL cl'=>xV T cl' (fs:=["_law_keeper","_law_name","_law_cell","_law_gate"]) (fvs:=[.ref x,.str nm,.int c,.str g]) (.cons #[12,_,rfl,rfl,rfl,rfl,rfl,rfl]<|.cons #[13,_,rfl,rfl,rfl,rfl,rfl,rfl]<|.cons #[10,_,rfl,rfl,rfl,rfl,rfl,rfl]<|.cons #[11,_,rfl,rfl,rfl,rfl,rfl,rfl] .nil) ?_ ?_ ?_ (λ_ _ _=>rfl) (by left) (by left) rfl rfl rfl λG c' A' L8 s' E' sG qe J8=>?_]
    ·simp
    ·simp;decide +kernel
    ·simp;lia
    have bL:=Y.mono sL;have bG:=bL.mono sG;refine rM (Yf (pv 0) T.ae T.gj (ZF T) J8 T.bf.b .nil yy<|Zb (pv 1)<|Zb (Zn Wl Zf<|Zn Yh (pv 2) Zf)<|Zb (pv 3)<|Zb Wf Za) #[bG.k.obj,rfl,(by change(0:Int)<4;decide),.inl λdt HD sD nD eD=>#[I,FB,x,N,dt,adB,lwB,valB,lnB,[],U,js,sg,nm,g,m+1,by rw[<-hm];rfl,bG.k.mono sD,bG.ns,M,yv,tb1,eD,bG.k.neF nD,#[hnv,hnl,gp,gsg,by lia,by lia,by have:=Y.ll;lia],λHC FC adC sub fr off kC on H3 bk=>#[_,_,_,rfl,.mk _ adC lwB _ #[kC.back bk bL.k.same,bL.kp.on (by rw[<-bL.sd'];show bL.k.sti) (λb o l y=>bk.old _ _ _ y<|off _ _ l<|(sG.trans sD).at y) λb y=>(fr b y.1).imp id λr=>(sG.trans sD).free r,on.2.1.trans bG.sd',on.2.2.2.1.trans bG.ns,λt' C7=>?_,λp hp=>?_,λt' C7=>?_,?_],.inr<|.inl #[rfl,by simp]],λn h3 h6 dx HE sE eE=>qe n (some g) (some dx) HE h6 (og h3).symm (sD.trans sE) #[dx,rfl,eE] λL s'=>#[(λy=>nomatch y),λp' _ u hu=>#[_,_,_,rfl,.mk _ _ _ _ (bL.mono s').next,.inr<|.inr #[u,_,_,rfl,hu]]]]]
    ·unfold qH;split
     ·show λy=>absurd (Pe.mp y).2 (by simp)
     ·rename_i ne;rw[nJ,oO]at C7;rcases C7 with y|y
      ·show bG.ne t' y
      ·show absurd (pK.mp y) ne
    ·rcases oO.mp hp with y|y
     ·show bG.l4 p y
     ·rw[pK.mp y];change m+1<=4;lia
    ·rw[nJ,oO]at C7;rcases C7 with y|y
     ·show Y.next.nm t' y
     ·rw[pK.mp y];show hnin
    ·rw[oj,zL];have:=Y.ll;lia
   rintro z HC ⟨cv,b11,lnC,rfl,⟨FC,adC,lwC,valC,bC⟩,hcv⟩;obtain⟨m3,hm3,hm33⟩:=Wy (a:=c / 1000) (n:=3) (by lk);have hm3:c / 1000%3=(m3:Int):=hm3;refine mX (Xk pM rfl (Ow rfl T.dM<|Zb (Zn xv (Zn Yh (Zn Ye (pv 10) Zf) Zf)<|Yw KY (by rfl) T.iK Hi<|Zb (vT (r:=Kb K) (Yjd J) (pv 8) Zg<|Yo _) Za) Za) (oE 9 Ym) Zo) #[#[by lk,by lk],(by change(0:Int)<3;decide),?_];rcases hcv with rfl|⟨rfl,A8⟩|⟨u,y,p,rfl,hu⟩
   ·refine .inl<|.inl #[rfl,.inr #[_,rfl,?_]];refine#[?cm,_,rfl,?lo,?hi,?fr]
    case fr =>
     rw[show c / 1000%3 * (if decide (V.str "none"=V.str "done")=true then 1 else 0)=((0:Nat):Int)from by rw[ng (by left)];lia];show yw (lo:=0) (n:=0) (λ_=>BI T I H5 F ad.sd x N U t cl C lp<|i+1) (.mk _ _ _ _ _ _ _ _ _<|.mk _ _ _ _ bC) (λ_ _ _ y=>absurd y<|Dx _) λ_ _ y=>y
    case cm=>show .inl #[by change -(2 ^ 64)<c / 1000%3;lia,by change c / 1000%3<2 ^ 64;lia]
    case lo=>rw[ng (by left)];lia
    case hi=>rw[ng (by left)];lia
   ·refine .inl<|.inl #[rfl,.inr #[_,rfl,?_]];refine#[?cm,_,rfl,?lo,?hi,?fr]
    case fr =>
     rw[show c / 1000%3 * (if decide (V.str "done"=V.str "done")=true then 1 else 0)=((m3:Nat):Int)from by rw[nj (by left)];lia];let I29:IF:=λ_ z L=>(∃c9,z=[some (.ref t),some<|.ref cl,some<|.ref N,some<|.ref C,a4,a5,some<|.ref lp,some<|.int (i:Int),some<|.str "done",c9,some<|.int c,b11,some<|.ref x,some<|.str nm])/\Au T I H5 F ad.sd x N U (i+1) lnC L
     refine yw (lo:=0) (n:=m3) I29 #[#[_,rfl],.mk _ _ _ _ bC] ?_ ?_
     ·rintro k z HD hk ⟨⟨c9,rfl⟩,⟨FD,adD,lwD,valD,bD⟩⟩;refine mX (Z1<|Zx (Ve T) J<|Zb (pv 12)<|Zb (pv 2)<|Zb (pv 13)<|Zb (Xa (Wx T) J rfl T.aj.m T.aj.F.kp T.aj.b .nil Z0<|Zb (pv 10)<|Zb (pv 9) Za)<|Zb Wf Za) #[_,_,rfl,λdt HE sE nE eE=>?_];have bE:=bD.mono sE;refine#[I,FD,x,N,dt,adD,lwD,valD,lnC,U,js,sg,nm,_,rfl,bE.k,bE.ns,M,yv,tb1,A8,bE.ne nm A8,eE,λv HF FF adF lwF valF frF offF nsF sdF neF kF=>#[#[_,rfl],.mk FF adF lwF valF #[kF,bE.kp.on (by rw[<-bE.sd'];show bE.k.sti) offF frF,sdF.trans bE.sd',nsF.trans bE.ns,λt' C7=>neF t'<|bE.ne t' C7,bE.l4,bE.nm,bE.ll]]]
     ·rintro z HD ⟨⟨c9,rfl⟩,bD⟩;show .mk _ _ _ _ _ _ _ _ _ bD
    case cm=>show .inl #[by change -(2 ^ 64)<c / 1000%3;lia,by change c / 1000%3<2 ^ 64;lia]
    case lo=>rw[nj (by left)];lia
    case hi=>rw[nj (by left)];lia
   ·refine .inr #[u,_,_,rfl,rfl,nw hu,.inr #[_,rfl,?_]];refine#[?cm,_,rfl,?lo,?hi,?fr]
    case fr =>
     rw[show c / 1000%3 * (if false=true then 1 else 0)=((0:Nat):Int)from by rw[ng (by left)];lia];show yw (lo:=0) (n:=0) (λ_=>BI T I H5 F ad.sd x N U t cl C lp<|i+1) (.mk _ _ _ _ _ _ _ _ _<|.mk _ _ _ _ bC) (λ_ _ _ y=>absurd y<|Dx _) λ_ _ y=>y
    case cm=>show .inl #[by change -(2 ^ 64)<c / 1000%3;lia,by change c / 1000%3<2 ^ 64;lia]
    case lo=>rw[ng (by left)];lia
    case hi=>rw[ng (by left)];lia
  ·rintro z HZ ⟨a4,a5,a7,a8,a9,a10,a11,a13,lnZ,⟨FZ,adZ,lwZ,valZ,bZ⟩⟩;rw[mV]at bZ;show mX (Zk<|Zi<|Zb (pv 12)<|Zb (pv 2) Za) #[mY,λtp HY sY nY eY=>q tp x N I HY FZ adZ lwZ valZ lnZ s1 eY M (bZ.k.mono sY) bZ.ns bZ.ne bZ.l4<|oy bZ.ll N0]
def Zhx:Xm P w K mg mM (ou P w) 4 T.ag.f T.ag.fd ["tracks","points"] (He T "points" T.aq):=by
 refine T.ag.F.okX KN ?_;rfl'
 ·obtain⟨x,v,u,r,p,rfl,o,j,y,q⟩:=h;intro X D;refine mX (Zt (tI hr (pv 1)<|Zx (Hr T) hr<|Zb (pv 0) Za) Zo Zl) #[x,u,r,p,rfl,o,j,λi n g c l e d a z=>.inl #[.inl<|mZ z,y.1,Xg _,?_]];rw[nj rfl,y.2 i λn z=>(g n).mp z];show(mX (DA T.gx Af rfl<|Zb Zg Za) #[mY,q e d])
def Gk{k:Nat}(h:4<=k:=by lk):Xm P w K mg mM (ou P w) k T.ag.f T.ag.fd ["tracks","points"] (He T "points" T.aq):=(Zhx T).mono h
def tH(n:lY):Prop:=n ="left"\/n ="right"
def PN(ps:lX Zh)(v z:V):Prop:=vh v (λn=>(("points",n):Zh)∈ps)\/∃nm,v=.str nm/\(("points",nm):Zh)∈ps/\vh z tH
inductive Iv(T:Tx K mg):Sp
 | odd (x v vl ps js sg):vs=[.ref x,v,vl]->Zz T H x ps js sg->Y4 ps js sg->PN ps v vl->(∀H',mK H H'->E (.ref T.aq) none H')->Iv T vs H Q E
 | ok (x nm m6 ps js sg):vs=[.ref x,.str nm,.str m6]->Zz T H x ps js sg->Y4 ps js sg->(("points",nm):Zh)∈ps->tH m6->(∀H',mK H H'->Q .non H')->Iv T vs H Q E
def QK:Xm P w K mg mM (ou P w) 5 T.aT.f T.aT.fd ["tracks","points","lie"] (Iv T):=by
 refine T.aT.F.okX Rx ?_;rfl'
 ·intro X D;rcases h with⟨x,v,vl,o,n,l,rfl,u,j,M|⟨nm,rfl,i,g⟩,q⟩|⟨x,nm,L,o,n,l,rfl,u,j,i,g,q⟩
  ·show mW (Z1<|Xa (Gk T) hr rfl T.ag.m T.ag.F.kp T.ag.b .nil Ws<|Zb (pv 0)<|Zb (pv 1) Za) #[x,v,o,n,l,rfl,u,j,M,q]
  ·refine mW (Z1<|Zx (W0 T) hr<|Zb (pv 0)<|Zb (pv 1) Za) #[x,nm,o,n,l,rfl,u,j,i,λJ r=>?_];obtain⟨I,_,_,_,_,_,_,_,_,e,_⟩:=(u.mono r).ex;refine mX (Zt (tI hr (pv 2)<|Yk (Yf (pv 0) T.am T.bT (Wd T) hr.m T.aQ.b .nil Z0<|Zb (pv 1) Za) T.cW T.de ((Io T).mono (by lk)) hr T.bI.b .nil Z0) Zo Zl) #[e,rfl,x,nm,"points",o,n,l,rfl,u.mono r,j,i,λy C G d c a=>?_];obtain⟨B,Y⟩:=a;rcases c with⟨_,rfl⟩|⟨z,_⟩|⟨z,_⟩|⟨z,_⟩|⟨z,_⟩
   ·refine#[Y,rfl,_,rfl,λp H3 U n3 N=>.inl #[.inl<|mZ N,g.1,Xg _,?_]];rw[nj rfl,g.2 ["left","right"] (by simp[tH])];show mX (DA T.gx Af rfl<|Zb Zg Za) #[mY,q _<|r.trans<|d.trans U]
   all_goals show absurd z (by lk)
  ·refine mW (Z1<|Zx (W0 T) hr<|Zb (pv 0)<|Zb (pv 1) Za) #[x,nm,o,n,l,rfl,u,j,i,λJ r=>?_];obtain⟨I,_,_,_,_,_,_,_,_,e,_⟩:=(u.mono r).ex;refine mX (Zt (tI hr (pv 2)<|Yk (Yf (pv 0) T.am T.bT (Wd T) hr.m T.aQ.b .nil Z0<|Zb (pv 1) Za) T.cW T.de ((Io T).mono (by lk)) hr T.bI.b .nil Z0) Zo Zl) #[e,rfl,x,nm,"points",o,n,l,rfl,u.mono r,j,i,λy C G d c a=>?_];obtain⟨B,Y⟩:=a;rcases c with⟨_,rfl⟩|⟨z,_⟩|⟨z,_⟩|⟨z,_⟩|⟨z,_⟩
   ·refine#[Y,rfl,_,rfl,λp H3 U n3 N=>.inl #[.inl<|mZ N,rfl,Xg _,?_]];rw[nj rfl,X1,og (show L∈(["left","right"]:lX lY) by rcases g with rfl|rfl<;>simp)];show q _<|r.trans<|d.trans U
   all_goals show absurd z (by lk)
def sM(z:lX lY)(g:Gd)(x:lY):lX (me<|lY×lY):=[Xw z g x,Xr g x,vH g x]
inductive IS:Sp
 | mk (gr nm es) (g:Gd) (dl ds dp dt):vs=[.str nm,.ref gr]->qx T H->sN T H gr es g dl ds dp dt->(∀v H',mK H H'->yL H' v (Wt<|sM (es.map fst) g nm)->Q v H')->IS vs H Q E
def Rr:T.df.O P w mg mM 7 (IS T):=by
 refine T.df.F.okA ?_;rfl'
 ·obtain⟨o,nm,n,g,dl,l,j,e,rfl,r,G,q⟩:=h;intro X D;refine mX (Zk<|Zx (EB T) hr<|Zb (Zm<|Zb (Zx (Es T) hr<|Zb (pv 0) Za)<|Zb (Zx (HU T) hr<|Zb (pv 0) Za)<|Zb (Zx (Mi T) hr<|Zb (pv 0) Za) Za)<|Zb (pv 1) Za) #[nm,rfl,r,λj M y L i=>#[nm,rfl,r.mono y,λe J x I R2=>#[nm,rfl,r.mono<|y.trans x,λd C u B c=>#[mY,λl H4 z n4 a=>#[l,o,[j,e,d],sM (n.map fst) g nm,rfl,mZ a,?_,λv Y U N=>q v Y (y.trans<|x.trans<|u.trans<|z.trans U) N]]]]];have p:=G.mono<|y.trans<|x.trans<|u.trans z;show .cons ((Hy T (i.mono<|x.trans<|u.trans z) p).up (by lk))<|.cons ((FJ T (R2.mono<|u.trans z) p).up (by lk))<|.cons ((KS T (c.mono z) p).up (by lk)) .nil
section
variable {U:Tx K mg} {F:lZ->Prop} {val:lY->lX Zv}
def nV.setL{l:lX (lY×lY)}(s:nV U g H F x d ad lw val c)(i:l.map fst=lw.map fst)(a:∀p∈l,p.2∈rE):nV U g (mT H ad.ld<|.dK<|Z2 V.str l) F x d ad l val c:=by
 have j:∀{b:lZ},F b->b≠ad.ld:=λf z=>s.nl<|z ▸ f
 have q:∀{b:lZ}{o u:HO},b≠ad.ld->H b=some o->mT H ad.ld u b=some o:=λn e=>by rw[Zd n];show e
 refine#[q (j s.fx) s.obj,Zc,q s.kx.sl.1 s.sti,q (j s.fn) s.lens,s.pth.offC (j s.fp) (λe Y z=>?_) s.lies (λ_ z=>nomatch z),s.nm,s.lnd,s.len,s.vl,s.ok,s.fx,s.fn,s.fp,s.ne,s.nl,s.ns,s.ni,s.free,λb o e=>q (Ze e s.kx.sl.2)<|s.same.at e,λb f=>?_,#[s.kx.s0,s.kx.sl,s.kx.nok,s.kx.sok,#[by rw[i];show s.kx.lok.1,λp h=>#[?_,a p h]],s.kx.pok,by rw[i];show s.kx.lpt]]
 ·obtain⟨r,y,_⟩:=s.pth.2 e Y;rw[z,s.lies]at y;cases y
 ·obtain⟨o,e,n⟩:=s.live b f;show#[o,q (j f) e,n]
 ·have:p.1∈lw.map fst:=by rw[<-i];show nH.mpr #[p,h,rfl]
  obtain⟨r,y,e⟩:=nH.mp this;rw[<-e];show(s.kx.lok.2 r y).1
end
def Zxb(z:lX lY)(g:Gd)(x:lY):Wt (sM z g x)=none\/∃r,3<=r/\r<6/\Wt (sM z g x)=some (qg r,x):=by
 unfold sM Xw Xr vH;split
 ·show .inr #[4,by lk,by lk,rfl]
 split
 ·show .inr #[3,by lk,by lk,rfl]
 split
 ·show .inr #[5,by lk,by lk,rfl]
 ·show .inl rfl
inductive CN(T:Tx K mg):Sp
 | odd (H0) (F:lZ->Prop) (x tr) (ad:pb) (lw) (val:lY->lX Zv) (ln ps js sg v vl dt):vs=[.ref x,v,vl,.ref dt]->nV T H0 H F x tr ad lw val ln->Zz T H0 tr ps js sg->Y4 ps js sg->PN ps v vl->(∀H',mK H H'->E (.ref T.aq) none H')->CN T vs H Q E
 | go (H0) (F:lZ->Prop) (x tr) (ad:pb) (lw) (val:lY->lX Zv) (ln ps js sg nm m6 dt td):vs=[.ref x,.str nm,.str m6,.ref dt]->nV T H0 H F x tr ad lw val ln->Zz T H0 tr ps js sg->Y4 ps js sg->qx T H0->ad.ns=ps->(("points",nm):Zh)∈ps->tH m6->H dt=some (.dK<|Z2 V.bl td)->
  (Wt (sM (ln.map fst) #[lw,ad.st,val,td] nm)=none->∀H',(∀b o,b≠ad.ld->H b=some o->H' b=some o)->nV T H0 H' F x tr ad (pH lw nm m6) val ln->Q .non H')->
  (∀r,3<=r->r<6->Wt (sM (ln.map fst) #[lw,ad.st,val,td] nm)=some (qg r,nm)->∀dx H',mK H H'->H' dx=some (.xd [("part",.str nm)])->E (.ref<|rT T r) (some dx) H')->CN T vs H Q E
def TU:Xm P w K mg mM (ou P w) 8 T.aU.f T.aU.fd ["self","points","lie","seen"] (CN T):=by
 refine T.aU.F.okX UD ?_;rfl'
 ·intro X D;rcases h with⟨G,F,x,e,ad,l,val,d,c,a,Y,v,vl,C,rfl,u,U,N,ho,q⟩|⟨G,F,x,e,ad,l,val,d,c,a,Y,nm,j,C,M,rfl,u,U,N,tb,A7,B,hl,O3,q,qe⟩
  ·show mW (Z1<|Xa (QK T) hr.m rfl T.aT.m T.aT.F.kp T.aT.b .nil Ws<|Zb (Z8 (pv 0) rfl)<|Zb (pv 1)<|Zb (pv 2) Za) #[u.obj,T.ae,T.ay,rfl,.odd e v vl c a Y rfl (U.mono u.same) N ho q]
  refine mW (Z1<|Xa (QK T) hr.m rfl T.aT.m T.aT.F.kp T.aT.b .nil Ws<|Zb (Z8 (pv 0) rfl)<|Zb (pv 1)<|Zb (pv 2) Za) #[u.obj,T.ae,T.ay,rfl,.ok e nm j c a Y rfl (U.mono u.same) N B hl λy L=>?_];have J:=u.mono L;refine mW (Z1<|Xa (GY T) hr rfl T.ao.m T.ao.F.kp T.ao.b .nil Ws<|Zb (Zx (Rr T) hr<|Zb (pv 1)<|Zb (Yf (pv 0) T.ae T.cS (Eh T) hr.m T.aZ.b .nil Z0<|Zb (pv 3) Za) Za) Za) #[J.obj,rfl,G,F,x,e,C,ad,l,val,d,M,rfl,J,L.at O3,λg p s2 o y=>#[g,nm,ad.es,#[l,ad.st,val,M],_,_,_,_,rfl,tb.mono (J.mono s2).same,y,λv n s3 i=>?_]];have I:=L.trans<|s2.trans s3;rw[u.nm]at i;rcases Zxb (d.map fst) #[l,ad.st,val,M] nm with z|⟨r,h3,h6,z⟩
  ·rw[z]at i;refine .no (oY (λv=>[v]) i) ?_;have g:=u.mono I;have hll:=u.lwl;refine mX (tS (Xv hr) (Z8 (pv 0) rfl) (pv 1) (pv 2) rfl) #[g.obj,T.ae,T.bo,rfl,qL.k (k:=Xn nm) g.lies ?_,?_]
   ·rw[show(Z2 V.str l).length=l.length from mV ..];show Zp (by lia)
   rw[show Wj (Z2 V.str l) (Xn nm) (V.str j)=Z2 V.str (pH l nm j)from zT _ _ _];have pf:(pH l nm j).map fst=l.map fst:=by rw[yA,nj ((u.kx.lpt.2 nm).mpr (by rw[A7];show B))]
   show q z _ (λb o n y=>by rw[Zd n];show I.at y)<|g.setL pf λp y=>(GW (P:=λp=>p.2∈rE) (λp y=>(u.kx.lok.2 p y).2) (show j∈rE by rcases hl with rfl|rfl<;>decide +kernel) p y)
  ·rw[z]at i;obtain⟨t,rfl,wt⟩:=i;show .up r t nm rfl h3 h6 wt λy p o n=>qe r h3 h6 z y p (I.trans o) n
def Ju{k:Nat}(h:8<=k:=by lk):Xm P w K mg mM (ou P w) k T.aU.f T.aU.fd ["self","points","lie","seen"] (CN T):=(TU T).mono h
inductive NU:Sp
 | mk (H0) (F:lZ->Prop) (x tr) (ad:pb) (lw) (val:lY->lX Zv) (ln ps js sg nm):vs=[.ref x,.str nm]->nV T H0 H F x tr ad lw val ln->Zz T H0 tr ps js sg->Y4 ps js sg->(("points",nm):Zh)∈ps->(∀H',(∀b o,b≠ad.sd->H b=some o->H' b=some o)->nV T H0 H' F x tr #[ad.dx,ad.ld,ad.sd,ad.nd,ad.pd,ad.es,ad.st.filter λp=>decide<|p.1≠nm,ad.ns] lw val ln->Q .non H')->NU vs H Q E
def JU:T.aw.O P w mg mM 5 (NU T):=by
 refine T.aw.F.okW KU ?_;rfl'
 ·obtain⟨z,F,x,l,ad,p,val,o,j,i,g,nm,rfl,y,e,d,c,q⟩:=h;intro X D;refine mW (Z1<|Zx (W0 T) hr<|Zb (Z8 (pv 0) rfl)<|Zb (pv 1) Za) #[y.obj,T.ae,T.ay,rfl,l,nm,j,i,g,rfl,e.mono y.same,d,c,λz r=>?_];have u:=y.mono r;refine mX (Z1<|ZM (Z8 (pv 0) rfl) (pv 1) #[rfl,rfl,rfl,rfl]) #[u.obj,T.ae,T.aV,rfl,ad.sd,rfl,.inl #[_,.inl u.sti],_,Xn nm,u.sti,rfl,λv=>?_];rw[Yak];refine q _ (λb o n z=>by rw[Zd n];show r.at z)<|u.setS #[?_,λp z=>y.kx.sok.2 p (wO.mp z).1];show y.kx.sok.1.sublist<|List.Sublist.map _ Js
inductive zr:Sp
 | mk (H0) (F:lZ->Prop) (x tr) (ad:pb) (lw) (val:lY->lX Zv) (ln ps js sg v):vs=[.ref x,v]->nV T H0 H F x tr ad lw val ln->Zz T H0 tr ps js sg->Y4 ps js sg->vh v (λn=>(("points",n):Zh)∈ps)->(∀H',mK H H'->E (.ref T.aq) none H')->zr vs H Q E
def Sn:Xm P w K mg mM (ou P w) 5 T.aw.f T.aw.fd ["self","points"] (zr T):=by
 refine T.aw.F.okX KU ?_;rfl'
 ·obtain⟨j,F,x,y,ad,i,val,g,u,r,p,v,rfl,z,o,n,l,q⟩:=h;intro X D;show mW (Z1<|Xa (Gk T) hr rfl T.ag.m T.ag.F.kp T.ag.b .nil Ws<|Zb (Z8 (pv 0) rfl)<|Zb (pv 1) Za) #[z.obj,T.ae,T.ay,rfl,y,v,u,r,p,rfl,o.mono z.same,n,l,q]
def RV{k:Nat}(h:5<=k:=by lk):Xm P w K mg mM (ou P w) k T.aw.f T.aw.fd ["self","points"] (zr T):=(Sn T).mono h
def Tk:Xm P w K mg mM (ou P w) 5 T.ar.f T.ar.fd ["self","points"] (zr T):=by
 refine T.ar.F.okX Oo ?_;rfl'
 ·obtain⟨j,F,x,y,ad,i,val,g,u,r,p,v,rfl,z,o,n,l,q⟩:=h;intro X D;show mW (Z1<|Xa (Gk T) hr rfl T.ag.m T.ag.F.kp T.ag.b .nil Ws<|Zb (Z8 (pv 0) rfl)<|Zb (pv 1) Za) #[z.obj,T.ae,T.ay,rfl,y,v,u,r,p,rfl,o.mono z.same,n,l,q]
def YQ{k:Nat}(h:5<=k:=by lk):Xm P w K mg mM (ou P w) k T.ar.f T.ar.fd ["self","points"] (zr T):=(Tk T).mono h
def Yah{y:Type}{ts:lX lZ}{as:lX y}{f:y->lY}(c:r pl=some (.lst<|ts.map V.ref))(g:Paired (λt a=>∃xs,r t=some (.tup<|V.str (f a) ::xs)) ts as)(G:as.length<=500)(e:r D=none)(q:∀u,mK r u->u D=some (.lst<|(as.map f).map V.str)->Q (.ref D) u){fr:St->St}(Y:fr z=[none])(l:∀z H Q,Q true H->U z H Q)(N:∀z H Q t xs s,z[0]? =some (some<|V.ref t)->H t=some (.tup<|V.str s ::xs)->Q (.str s) H->M z H Q) :
  sw (uT K pl) fr (qW 0) U M Q z r D:=by
 refine Yz (xs:=ts.map V.ref) (λi p u=>p=((as.take i).map f).map V.str/\u D=some (.lst p)/\mK r u) #[rfl,Zc,pC e] ?_ ?_ ?_
 ·rintro i p u _ ⟨_,_,n⟩;show mZ<|n.at c
 ·rintro j v p u d ⟨rfl,L,n⟩;rw[nU]at d;obtain⟨t,h,rfl⟩:=oo.mp d;obtain⟨a,J,xs,I⟩:=pE g h;unfold qB;rw[Y];refine#[pA rfl,l _ _ _<|N _ _ _ t xs (f a) rfl (n.at I) #[L,by rw[mV,mV,oF];show Zp (by lia),?_,Zc,λb o x=>?_]]
  ·rw[oH,J,nJ,nJ];rfl
  ·rw[Zd (Ze x e)];show n.at x
 ·rintro p x ⟨rfl,o,j⟩;refine q x j ?_;rw[o,mV,nW g,pD]
def Dw(K:mf):R2:=λx y H Q=>sV K x y H Q\/∃a u z,x=.ref a/\y=.str z/\SqT K H a u/\Q (.bl true) H
def WQ{X:Cx}(i:X.A.units+64<cLine):om X (compareOp .NotEq) (λx y H Q=>∃a xs u,x=.ref a/\y=.str u/\SqT X.K H a xs/\Q (.bl true) H):=by
 intro g s z H x y v r Q I p o h;obtain⟨a,xs,u,rfl,rfl,n,q⟩:=h;cases p;obtain⟨t,rfl⟩:=(show ∃t,r=Value.str u t from o)
 obtain⟨l,e,j,_⟩:=I.tuple n;show PySem.SeqAt.RcNeAt.tuple_str u t (show s.heap.IsTuple a l.toArray from j) (by lia) _ _ _ _ #[.bl true,H,I,rfl,q]
def ER{X:Cx}{k:Nat}(z:Y0 k X.A):om X (compareOp .NotEq) (Dw X.K):=(ur z).or (WQ z.units)
section
variable {U:Tx K mg} {H0 H H':Hp} {F:lZ->Prop} {x tr kd:lZ} {ad:pb} {lw:lX (lY×lY)} {val:lY->lX Zv} {ln:lX (lY×Nat)}
def nV.setU{u o:HO}(h:nV U H0 H F x tr ad lw val ln)(s:H kd=some u)(r:∀xs,u≠.tup xs)(q:∀e∈ad.es,e.2≠kd)(p:¬F kd)(l:kd≠ad.ld)(ns:kd≠ad.sd)(j:H0 kd=none):nV U H0 (mT H kd o) F x tr ad lw val ln:=by
 have f:∀{b:lZ},F b->b≠kd:=λz y=>p<|y ▸ z
 have u:∀{b:lZ}{v:HO},b≠kd->H b=some v->mT H kd o b=some v:=λn z=>by rw[Zd n];show z
 show#[u (f h.fx) h.obj,u l.symm h.lies,u ns.symm h.sti,u (f h.fn) h.lens,h.pth.offC (f h.fp) q s r,h.nm,h.lnd,h.len,h.vl,h.ok,h.fx,h.fn,h.fp,h.ne,h.nl,h.ns,h.ni,h.free,λb v e=>u (Ze e j)<|h.same.at e,(λb z=>let⟨v,y,n⟩:=h.live b z;#[v,u (f z) y,n]),h.kx]
def nV.setK{o:HO}{kvs:lX (nI×V)}(h:nV U H0 H F x tr ad lw val ln)(u:H kd=some (.dK kvs))(s:¬F kd)(r:kd≠ad.ld)(ns:kd≠ad.sd)(q:H0 kd=none):nV U H0 (mT H kd o) F x tr ad lw val ln :=
 h.setU u (λ_ z=>nomatch z) (λe p z=>by obtain⟨n,y,_⟩:=h.pth.2 e p;rw[z,u]at y;cases y) s r ns q
end
def Ar:lX V:=[.str "left",.str "right",.str "left",.str "right",.str "stem",.str "",.non,.str "a"]
def XR{v:V}(h:v∈Ar):(∃z,v=.str z/\tH z)\/vh v tH:=by
 simp only[Ar,oh,sU,qU]at h;rcases h with rfl|rfl|rfl|rfl|rfl|rfl|rfl|rfl
 ·show .inl #[_,rfl,.inl rfl]
 ·show .inl #[_,rfl,.inr rfl]
 ·show .inl #[_,rfl,.inl rfl]
 ·show .inl #[_,rfl,.inr rfl]
 ·show .inr (xQ<|by unfold tH;decide +kernel)
 ·show .inr (xQ<|by unfold tH;decide +kernel)
 ·show .inr<|HV rfl λ_=>rfl
 ·show .inr (xQ<|by unfold tH;decide +kernel)
inductive zS(nm:Str)(lv:V)(a:Option (Str×Str))(H:Hp):V->Prop
 | name:vh lv tH->zS nm lv a H (.str "name")
 | done (m6):lv=.str m6->tH m6->a=none->zS nm lv a H (.str "done")
 | up (m6 t) (r:Nat):lv=.str m6->tH m6->3<=r->r<6->a=some (qg r,nm)->H t=some (.tup [.str (qg r),.str nm])->zS nm lv a H (.ref t)
def Yie{st:lX (lY×Bool)}(h:∀p∈st,p.2=true)(n:lY):(st.lookup n).getD false=true↔n∈st.map fst:=by
 induction st with
 | nil=>simp
 | cons p st z =>
  rw[rH]
  by_cases e:n=p.1
  ·rw[show(n ==p.1)=true from qN.mpr e];simp[h p oN,e]
  ·rw[show(n ==p.1)=false from sO.mpr e];simp only[oq,oh,e,false_or];show z λq y=>h q<|oZ _ y
inductive JC(T:Tx K mg):Sp
 | mk (H0) (F:lZ->Prop) (x tr lp dt) (ad:pb) (lw:lX (lY×lY)) (val:lY->lX Zv) (ln:lX (lY×Nat)) (ps js) (sg:lX (lY×lY×lY)) (pn:lX lY) (cell:Int) (td:lX (lY×Bool)):vs=[.ref x,.ref lp,.int cell,.ref dt]->nV T H0 H F x tr ad lw val ln->ad.ns=ps->Zz T H0 tr ps js sg->Y4 ps js sg->qx T H0->(∀p∈ln,p.2<=4)->H lp=some (.lst<|pn.map V.str)->pn≠[]->pn.Perm (lw.map fst)->H dt=some (.dK<|Z2 V.bl td)->
  (∀(H':Hp)(F':lZ->Prop)(E8:lX (lY×lY)),(∀b,F' b->F b)->(∀b o,b≠ad.ld->H b=some o->H' b=some o)->nV T H0 H' F' x tr ad E8 val ln->Q (.bl true) H')->JC T vs H Q E
def PK(hb:∃mm,mM.Ns sysModules mm):T.dF.O P w mg mM 12 (JC T):=by
 refine T.dF.F.okL T.eP Ys λcdc A mJ s H vs Q E hL g h=>?_
 ·obtain⟨I,F,x,C,lp,dt,ad,i,val,U,ps,js,sg,pn,cell,td,rfl,M,A7,ht,yv,tb,h4,B,P2,hpp,O3,q⟩:=h;intro X D;have g8:=M.len;have same:∀d,mK H d->Q (.bl true) d:=λd s'=>q d F i (λ_ y=>y) (λb o _ y=>s'.at y)<|M.mono s'
  have B4:0<pn.length:=xC λy=>P2<|ui.mp y
  obtain⟨j,hj,y4⟩:=Wy (a:=cell) (n:=pn.length) B4;obtain⟨nm,C5⟩:∃u,pn[j]? =some u:=#[_,oR y4]
  have hm:(("points",nm):Zh)∈ps:=by rw[<-A7];show(M.kx.lpt.2 nm).mp (hpp.mem_iff.mp<|pi C5)
  refine mW (nG 10 Ys<|nQ (pv 1)<|Zn Yh (pv 2)<|pI T.bh<|pv 1)<|.inl #[.inl<|mZ B,(by rw[mV];change(0:Int)<_;lia),.inl #[mZ B,(show oP _ (cell%(((pn.map V.str).length:Nat):Int))=some (.str nm)from by rw[mV,hj];show Zq<|by rw[nU,C5];rfl),?_]];obtain⟨j8,hj8,hjl8⟩:=Wy (a:=cell / 50) (n:=8) (by lk);obtain⟨lv,hlv⟩:∃u,Ar[j8]? =some u:=#[_,oR (show j8<Ar.length from hjl8)]
  have hl8:=XR<|pi hlv;refine mW (nG 9 Ys<|nQ (Zm<|Zb Zg<|Zb Zg<|Zb Zg<|Zb Zg<|Zb Zg<|Zb Zg<|Zb sZ<|Zb Zg Za)<|Zn Yh (Zn Ye (pv 2) Zf) Zf) #[mY,λG H1 s1 n1 c=>#[#[by lk,by lk],(by change(0:Int)<8;decide),.inl #[mZ c,(show oP Ar (cell / 50%8)=some lv from by rw[show(8:Int)=((8:Nat):Int)from rfl,hj8];show Zq hlv),?_]]];refine mW (nG 4 Ys<|Zm Za) #[mY,λl2 H2 s2 c e2=>?_];have S5:=s1.trans s2;have K1:=M.mono S5;let I30:IC:=λz d=>∃(o5:me V)(J:lZ)(os:lX lY),z=[some (.ref x),some<|.ref lp,some<|.int cell,some<|.ref dt,some<|.ref J,o5,none,none,none,some lv,some<|.str nm]/\mK H2 d/\d J=some (.lst<|os.map V.str)/\∀n,n∈os↔∃t∈U.map fst,n∈(val t).map fst
  refine qz I30 ?_ ?_
  ·refine qo (Xk pM rfl (Yi<|Yk (pv 0) T.ae T.bH (X4 T) g.m T.aK.b .nil Z0) (oE 5 Ys) Zo) #[K1.obj,rfl,I,F,x,C,ad,i,val,U,rfl,K1,λss p1 p2 c H5 N n5 e5=>#[mZ e5,Wp (K:=K) (xs:=ss.map V.str) (λj z d=>∃(o5:me V)(J:lZ)(os:lX lY),z=[some (.ref x),some<|.ref lp,some<|.int cell,some<|.ref dt,some<|.ref J,o5,none,none,none,some lv,some<|.str nm]/\mK H5 d/\d J=some (.lst<|os.map V.str)/\os.length<=100 * j/\os=(ss.take j).flatMap λt=>(val t).map fst) #[_,l2,[],rfl,qy _,N.at e2,nK _,rfl] ?_ ?_ ?_]]
   ·rintro j z d _ ⟨_,_,_,_,c,_⟩;show mZ<|c.at e5
   ·rintro j v z H3 hj ⟨o5,J,os,rfl,s3,h3,G,U4⟩;rw[nU]at hj;obtain⟨t,c,rfl⟩:=oo.mp hj;have k3:=K1.mono<|N.trans s3;have Q6:=k3.vl t;have K5:ss.length<=10:=by rw[p1.length_eq,mV];show k3.len
    have y4:j<ss.length:=(pz.mp c).1;refine mX (nG 4 Ys<|Zn Wl (pv 4)<|pT ["_law_step"] (pr 1 [] rfl) (Yi<|Yf (pv 0) T.ae T.cO (BS T) g.m T.bg.b .nil Z0<|Zb (pv 5) Za) (oJ 0) Wi (rc (K:=K) rfl (pv 0) Zf)) #[k3.obj,rfl,I,F,x,C,ad,i,val,U,t,rfl,k3,p1.mem_iff.mp<|pi c,λl4 H4 s4 n4 ⟨ts,G,u0⟩=>#[mZ G,λD hD=>Yah (f:=fst) G (nX u0 λ_ _ r=>#[_,r]) (by lia) hD (λH6 s6 E7=>.inr<|.inr #[(s4.trans s6).at h3,E7,?_,λl7 H7 s7 n7 e7=>#[_,l7,os++(val t).map fst,rfl,s3.trans<|s4.trans<|s6.trans s7,?_,?_,?_]]) rfl (λ_ _ _ h=>h) λ_ _ _ _ _ _ e h q=>oV.of e<|.inr<|.inl #[nw h,Zq (j:=0) rfl,q]]]
    ·rw[mV,mV,mV];have G:sizeLine=16777216:=rfl;lia
    ·rw[e7,nJ]
    ·rw[oj,mV];lia
    ·rw[oH,c,U4,zi];simp
   ·rintro z d ⟨o5,J,os,rfl,s3,h3,_,U4⟩;refine#[_,J,os,rfl,N.trans s3,h3,λn=>?_];rw[U4,mV,pD,vI];show#[λ⟨t,c,G⟩=>#[t,p1.mem_iff.mp c,G],λ⟨t,c,G⟩=>#[t,p1.mem_iff.mpr c,G]]
  rintro z H3 ⟨o5,J,os,rfl,s3,h3,U4⟩;have C4:=S5.trans s3;have C3:=M.mono C4;have hd3:=C4.at O3;refine mW (nG 6 Ys Zg) ?_;let I31:IC:=λz d=>∃dv,z=[some (.ref x),some<|.ref lp,some<|.int cell,some<|.ref dt,some<|.ref J,o5,some dv,none,none,some lv,some<|.str nm]/\mK H3 d/\zS nm lv (Wt<|sM (U.map fst) #[i,ad.st,val,td] nm) d dv
  refine qz I31 ?_ ?_
  ·rcases hl8 with⟨Y,rfl,hl⟩|ho
   rotate_left
   ·refine qo (Zt (tI g (pv 9)<|Zi<|Zb Zg<|Zb Zg Za) Zo Zo) #[mY,λt5 H5 N n5 e5=>.inl #[.inr<|nw e5,ho.1,by lk,?_]];rw[nj rfl,show tL lv [.str "left",.str "right"]=false from ho.2 ["left","right"] (by simp[tH])];show mX (nG 6 Ys Zg)<|qf rfl #[N,.name ho]
   refine qo (Zt (tI g (pv 9)<|Zi<|Zb Zg<|Zb Zg Za) Zo Zo) #[mY,λt5 H5 N n5 e5=>.inl #[.inr<|nw e5,rfl,by lk,?_]];rw[nj rfl,show tL (.str Y) [.str "left",.str "right"]=true from(X1 Y ["left","right"]).trans (og (by rcases hl with rfl|rfl<;>simp))];have up:∀{d:Hp}(r:Nat),mK H3 d->3<=r->r<6->Wt (sM (U.map fst) #[i,ad.st,val,td] nm)=some (qg r,nm)->∀t,d t=some (.tup [.str (qg r),.str nm])->∃dv,[some (.ref x),some<|.ref lp,some<|.int cell,some<|.ref dt,some<|.ref J,o5,some<|.ref t,none,none,some<|.str Y,some<|.str nm]=[some (.ref x),some<|.ref lp,some<|.int cell,some<|.ref dt,some<|.ref J,o5,some dv,none,none,some<|.str Y,some<|.str nm]/\mK H3 d/\zS nm (.str Y) (Wt<|sM (U.map fst) #[i,ad.st,val,td] nm) d dv:=λ{d} r s' h3 h6 ha t e=>#[_,rfl,s',.up Y t r rfl hl h3 h6 ha e]
   have G:=Yie (λp hp=>(M.kx.sok.2 p hp).2) nm;refine mX (Zt (wJ g (pv 10)<|pv 4) Zo Zo)<|.inl #[.inl<|mZ<|N.at h3,rfl,Xg _,?_];rw[ng oK,X1]
   by_cases hh:nm∈os
   ·rw[og hh];show mX (nG 6 Ys<|Zi<|Zb Zg<|Zb (pv 10) Za) #[mY,λt6 H6 s6 n6 e6=>up 4 (N.trans s6) (by lk) (by lk) (by unfold sM Xw;rw[nj ((U4 nm).mp hh)];rfl) t6 e6]
   rw[ow hh];have c:=λy=>hh<|(U4 nm).mpr y
   refine mX (Zt (Y7<|xP (Xv g) (pv 3) (pv 10) rC #[rfl,rfl,rfl,rfl]) Zo Zo) #[dt,rfl,.inl #[_,.inl<|N.at hd3],_,Wc.k (k:=Xn nm)<|N.at hd3,?_];rw[show Xe (Z2 V.bl td) (Xn nm)=_ from CW ..,show(Option.map V.bl<|td.lookup nm).getD (V.bl false)=V.bl ((td.lookup nm).getD false) by cases td.lookup nm<;>rfl]
   by_cases C7:(td.lookup nm).getD false=true
   ·rw[C7];show mX (nG 6 Ys<|Zi<|Zb Zg<|Zb (pv 10) Za) #[mY,λt6 H6 s6 n6 e6=>up 3 (N.trans s6) (by lk) (by lk) (by unfold sM Xw Xr;rw[ng c,nj C7];rfl) t6 e6]
   rw[FR.mpr C7];have hw5:=C3.mono N;refine mX (Zt (wJ g (pv 10)<|Yk (pv 0) T.ae T.aW (Xh T) g.m T.aD.b .nil Z0) Zo Zl) #[hw5.obj,rfl,I,F,x,C,ad,i,val,U,rfl,hw5,λss p1 p2 l6 H6 s6 n6 e6=>.inl #[.inl<|mZ e6,rfl,Xg _,?_]];rw[ng oK,X1]
   by_cases hs:nm∈ss
   ·rw[og hs];show mX (nG 6 Ys<|Zi<|Zb Zg<|Zb (pv 10) Za) #[mY,λt7 H7 s7 n7 e7=>up 5 (N.trans<|s6.trans s7) (by lk) (by lk) (by unfold sM Xw Xr vH;rw[ng c,ng C7,nj<|G.mpr<|p1.mem_iff.mp hs];rfl) t7 e7]
   rw[ow hs];show#[_,rfl,N.trans s6,.done Y rfl hl<|by unfold sM Xw Xr vH;rw[ng c,ng C7,ng λy=>hs<|p1.mem_iff.mpr<|G.mp y];rfl]
  rintro z H6 ⟨dv,rfl,s36,due⟩;have s06:=C4.trans s36;have hw6:=M.mono s06;refine mW (nG 7 Ys<|Zx (HK T hb) g<|Zb (pv 0) Za) #[I,F,x,C,ad,i,val,U,rfl,hw6,h4,λz0 H7 s7 tk=>?_];have F2:=s06.trans s7;have L:=M.mono F2;refine mW (nG 8 Ys<|Yk (pv 0) T.ae T.bK (X6 T) g.m T.aN.b .nil Z0) #[L.obj,rfl,I,F,x,C,ad,i,val,U,rfl,L,λld H8 s8 n8 e8=>?_];have N9:=F2.trans s8;have hw8:=M.mono N9;have refd:∀{H1:Hp},mK H8 H1->Ei T [.ref x] H1 (λl H2=>wg K l (.str z0) H2 Q) E0:=λ{H1} s1'=>#[I,F,x,C,ad,i,val,U,rfl,hw8.mono s1',h4,λz1 H2 c G=>.inl #[rfl,by rw[AN.one G tk rfl,og rfl];show same H2<|N9.trans<|s1'.trans c]]
  refine mW (Zt (tZ g (zh (X5 T) g.m (λ_=>rfl) rfl T.af.m T.af.F.kp T.af.b<|Zb (yn (Pt:=T.bX) rfl hL) Za)<|pv 6) Zo Zl) #[_,(tb.mono hw8.same)._law_turn,oN,λfl H9 s9 n9 cl=>xV T cl (fs:=["_law_keeper","_law_one","_law_lie","_law_seen"]) (fvs:=[.ref x,.str nm,lv,.ref dt]) (.cons #[0,_,rfl,rfl,rfl,rfl,rfl,rfl]<|.cons #[10,_,rfl,rfl,rfl,rfl,rfl,rfl]<|.cons #[9,_,rfl,rfl,rfl,rfl,rfl,rfl]<|.cons #[3,_,rfl,rfl,rfl,rfl,rfl,rfl] .nil) ?_ ?_ ?_ (λ_ _ _=>rfl) (by left) (by left) rfl rfl rfl λG c A' L8 s' E' sG qe J8=>rM (Yf (pv 0) T.ae T.dX (Ju T) J8 T.aU.b .nil yy<|Zb (pv 1)<|Zb (pv 2)<|Zb (Yw (r:=Ct) HS (by rfl) T.ei wR<|Zb (pv 3) Za) Za) #[(hw8.mono<|s9.trans sG).obj,rfl,.inl<|(N9.trans<|s9.trans sG).at O3,λhd L0 w5 n10 jd=>?_]]
  ·simp
  ·simp;decide +kernel
  ·simp;lia
  have s810:=(s9.trans sG).trans w5;have hw10:=hw8.mono s810;cases due with
  | name ho=>show .odd I F x C ad i val U ps js sg (.str nm) lv hd rfl hw10 ht yv (.inr #[nm,rfl,hm,ho]) λU2 B6=>qe 0 none none U2 (by lk) rfl (w5.trans B6) rfl λM8 A9=>#[λ_=>.inl #[rfl,oB.f (by left)<|mW (Zt (Yd (r:=Dw K) (ER g) (pv 6) Zg<|Yo _) Zo Zl)<|.inl<|.inl #[rfl,oB.t (by left)<|mX (Zk<|sj g (Zx (HK T hb) g<|Zb (pv 0) Za)<|pv 7)<|refd<|s9.trans A9]],λp y=>nomatch y]
  | up Y t r hv hl h3' h6 ha et =>
   subst hv;refine .go I F x C ad i val U ps js sg nm Y hd td rfl hw10 ht yv tb A7 hm hl jd (λy=>nomatch ha.symm.trans y) λr' h3 h6 y dx U2 B6 iY=>qe r' (some nm) (some dx) U2 h6 (og h3).symm (w5.trans B6) #[dx,rfl,iY] λM8 A9=>#[(λy=>nomatch y),λp' E5 t' G=>?_];cases E5;obtain⟨hw',_⟩:=Et<|pc<|ha.symm.trans y;rw[<-hw']at G;have c:=(s7.trans<|s8.trans<|s9.trans A9).at et;have im:∀{u:lZ},M8 u=some (.tup [.str (qg r),.str nm])->Im K M8 1 (.tup [.str (qg r),.str nm]) (.ref u):=λh=>vt (n:=0) (nw h)<|.cons (.str _)<|.cons (.str _) .nil
   refine .inr<|.inl #[1,_,_,by lk,.inl #[_,_,rfl,rfl],im G,im c,?_];rw[nj rfl,og rfl];show mW (Zt (Yd (r:=Dw K) (ER g) (pv 6) Zg<|Yo _) Zo Zl) (.inr #[t,_,_,rfl,rfl,nw c,mX (Zk<|sj g (Zx (HK T hb) g<|Zb (pv 0) Za)<|pv 7)<|refd<|s9.trans A9])
  | done Y hv hl ha =>
   subst hv;refine .go I F x C ad i val U ps js sg nm Y hd td rfl hw10 ht yv tb A7 hm hl jd (λ_ U2 off k11 M8 bk=>?_) (λr _ _ y=>nomatch ha.symm.trans y);have k12:=k11.back bk<|M.same.trans<|N9.trans s9;have G:∀b o,b≠ad.ld->H8 b=some o->M8 b=some o:=λb o nb y=>bk.old _ _ _ (s9.at y)<|off _ _ nb<|s810.at y
   have nld:ld≠ad.ld:=λy=>by rw[y,L.lies]at n8;cases n8
   have hl12:=G _ _ nld e8;have hp12:M8 lp=some (.lst<|pn.map V.str):=G _ _ (λy=>by rw[y,M.lies]at B;cases B)<|N9.at B;have hll:=M.lwl;refine .inl #[rfl,oB.f (by left)<|mW (Zt (Yd (r:=Dw K) (ER g) (pv 6) Zg<|Yo _) Zo Zl)<|.inl<|.inl #[rfl,oB.f (by left) ?_]];refine mW (tS (Xv g) (pv 8) (pv 10) (pv 9) rfl) #[qL.k (k:=Xn nm) hl12 ?_,?_]
   ·rw[show(Z2 V.str i).length=i.length from mV ..];show Zp (by lia)
   rw[show Wj (Z2 V.str i) (Xn nm) (V.str Y)=Z2 V.str (pH i nm Y)from zT _ _ _];have c:=k12.setK (o:=.dK<|Z2 V.str<|pH i nm Y) hl12 (λy=>L.neF n8 y.1) nld (λy=>by rw[y,L.sti]at n8;cases n8)<|L.same.free n8;have hl13:mT M8 ld (.dK<|Z2 V.str<|pH i nm Y) ld=some (.dK<|Z2 V.str<|pH i nm Y):=Zc;have k13':∀b o,b≠ld->M8 b=some o->mT M8 ld (.dK<|Z2 V.str<|pH i nm Y) b=some o:=λb o n y=>by rw[Zd n];show y
   have hp13:=k13' _ _ (λy=>by rw[y,hl12]at hp12;cases hp12) hp12;generalize mT M8 ld (.dK<|Z2 V.str<|pH i nm Y)=H13 at c hl13 k13' hp13;refine mX (Zk<|vQ (sj g (Yk (pv 0) T.ae T.bK (X6 T) g.m T.aN.b .nil Z0)<|pv 8)<|wG<|sj g (Yw (r:=OK) (Ztl rfl) (by rfl) T.eU xN<|Zb (Yk (pv 0) T.ae T.bK (X6 T) g.m T.aN.b .nil Z0) Za)<|Z6 (r:=QO K) VF (by rfl) T.cP wb<|Zb (pv 1) Za) #[c.obj,rfl,I,_,x,C,ad,_,val,U,rfl,c,λld' H14 y9 n14 iw=>.inr<|.inr #[ld',ld,_,_,rfl,rfl,.inl iw,.inl<|y9.at hl13,rfl,λkv J6=>?_,?_]]
   ·obtain⟨p,hp,rfl⟩:=nH.mp J6;show#[.str p.2,xZ c.kx.lok.1 hp,.inl #[rfl,rfl,by delta rn;simp]]
   have k14:=c.mono y9;refine#[k14.obj,rfl,I,_,x,C,ad,_,val,U,rfl,k14,λl15 H15 D6 n15 kg=>#[l15,_,rfl,.inl kg,λl16 H16 B7 n16 jz=>#[lp,pn,rfl,mZ<|(y9.trans<|D6.trans B7).at hp13,?_,λss b2 b3 l17 H17 D7 n17 jU=>?_]]]
   ·rw[hpp.length_eq,mV];lia
   rw[Fx]at jz;have pf:(pH i nm Y).map fst=i.map fst:=by rw[yA,nj ((M.kx.lpt.2 nm).mpr (by rw[A7];show hm))]
   obtain rfl:(pH i nm Y).map fst=ss:=Wo c.kx.lpt.1 b3 (by rw[pf];show(b2.trans hpp).symm);refine .inr<|.inl #[1,_,_,by lk,.inr #[_,_,rfl,rfl],Wk<|D7.at jz,Wk jU,?_];rw[ng oK,og rfl];show q H17 _ _ (λb y=>y.1) (λb o nb y=>(y9.trans<|D6.trans<|B7.trans D7).at (k13' _ _ (λl=>by rw[l]at y;rw[F2.at y]at n8;cases n8)<|G _ _ nb<|N9.at y))<|k14.mono<|D6.trans<|B7.trans D7
def uz.zz{s:lY}(h:uz s):s≠ "zz":=λz=>by
 rcases h with h|h|⟨y,c,j,_,x,rfl⟩|⟨j,x,rfl⟩
 ·rw[h]at z;revert z;decide +kernel
 ·rw[h]at z;revert z;decide +kernel
 ·have:=Lp (kd:=y) (c:=c) (k:=j) (by lia);rw[z]at this;revert this;decide +kernel
 ·have:=Om (j:=j) (by lia);rw[z]at this;revert this;decide +kernel
inductive Hj:Sp
 | mk (H0) (F:lZ->Prop) (x tr lo) (ad:pb) (lw:lX (lY×lY)) (val:lY->lX Zv) (ln:lX (lY×Nat)) (ps js) (sg:lX (lY×lY×lY)) (on:lX lY) (cell:Int):vs=[.ref x,.ref lo,.int cell]->nV T H0 H F x tr ad lw val ln->Zz T H0 tr ps js sg->Y4 ps js sg->qx T H0->(∀p∈ps,p.2≠ "zz")->H lo=some (.lst<|on.map V.str)->on.length<=40->(∀n∈on,(("points",n):Zh)∉ps)->(∀H',mK H H'->Q (.bl true) H')->Hj vs H Q E
def Kw:T.dG.O P w mg mM 12 (Hj T):=by
 refine T.dG.F.okL T.eQ EG λcdc A mJ s H vs Q E B r h=>?_
 ·obtain⟨H0,F,x,tr,lo,ad,lw,val,ln,J,js,sg,on,cell,rfl,hw,ht,I,tb,hz,T2,y,hon,q⟩:=h;intro X D;obtain⟨j,hj,y4⟩:=Wy (a:=cell) (n:=on.length+4) (by lia);obtain⟨v,hv,ho⟩:∃v,(on.map V.str++[V.str "zz",.str "",.non,.int 5])[j]? =some v/\vh v (λn=>(("points",n):Zh)∈J):=by
   have o:j<(on.map V.str++[V.str "zz",.str "",.non,.int 5]).length:=by
    rw[oj,mV];show y4
   refine#[_,oR o,?_];have hm:=BU o;generalize(on.map V.str++[V.str "zz",.str "",.non,.int 5])[j]=v at hm;rcases oO.mp hm with z|z
   ·obtain⟨n,y,rfl⟩:=nH.mp z;show xQ<|hon n y
   ·simp only[oh,sU,qU]at z;rcases z with rfl|rfl|rfl|rfl
    ·show xQ λy=>hz _ y rfl
    ·show xQ λy=>yF (I.name _ y) rfl
    ·show HV rfl λ_=>rfl
    ·show HV rfl λ_=>rfl
  refine mW (nG 4 EG<|nQ (Zn Wl (pv 1)<|Zm<|Zb Zg<|Zb Zg<|Zb sZ<|Zb Zf Za)<|Zn Yh (pv 2)<|Zn Wl (pI T.bh<|pv 1) Zf) #[mY,λl2 H2 s2 n2 y=>.inr<|.inr #[s2.at T2,y,?_,λl3 H3 s3 n3 e3=>.inl #[.inl<|mZ<|(s2.trans s3).at T2,.inl #[(by rw[mV];change(0:Int)<_;lia),.inl #[mZ e3,(show oP _ (cell%((((on.map V.str).length:Nat):Int)+4))=some v from by rw[mV,show((on.length:Nat):Int)+4=((on.length+4:Nat):Int)from rfl,hj];show Zq hv),?_]]]]]
  ·rw[mV];show pU (Zp<|by simp;lia)
  have C4:=s2.trans s3;have i:=hw.mono C4;have g:=(tb.mono i.same)._law_none;refine mW (nG 3 EG<|Zn Yh (Zn Ye (pv 2) Zf) Zf) #[#[by lk,by lk],(by change(0:Int)<3;decide),?_];have fin:∀{e H5:Hp},mK H3 e->mK e H5->wg K (.str<|qg 0) (.str "name") H5 Q:=λu C=>.inl #[rfl,by rw[show decide (V.str (qg 0)=V.str "name")=true from og rfl];show q _<|C4.trans<|u.trans C]
  refine mW (Zt (Wu r (pv 3) Zf) Zo Zl)<|.inl #[rfl,Yl (λ_=>?_) λ_=>?_]
  ·refine mX (Zk<|sj r (zh (X5 T) r.m (λ_=>rfl) rfl T.af.m T.af.F.kp T.af.b<|Zb (yn (Pt:=T.bd) rfl B) Za) Zg) #[_,g,oN,λfl e u n4 d=>xV T d (fs:=["_law_keeper","_law_one"]) (fvs:=[.ref x,v]) (.cons #[0,_,rfl,rfl,rfl,rfl,rfl,rfl]<|.cons #[4,_,rfl,rfl,rfl,rfl,rfl,rfl] .nil) ?_ ?_ ?_ (λ_ _ _=>rfl) (by left) (by left) rfl rfl rfl λG c A' L8 s' E' l Y U=>rM (Yf (pv 0) T.ae T.dX (Ju T) U T.aU.b .nil yy<|Zb (pv 1)<|Zb Zg<|Zb Wf Za) #[(i.mono<|u.trans l).obj,rfl,λy H5 C n5 e5=>.odd H0 F x tr ad lw val ln J js sg v (.str "left") y rfl (i.mono<|(u.trans l).trans C) ht I (.inl ho) λN M=>Y 0 none none N (by lk) rfl (C.trans M) rfl λH7 L=>#[λ_=>fin u L,λp z=>nomatch z]]]
   ·simp
   ·simp;decide +kernel
   ·simp
  refine mW (Zt (Wu r (pv 3) Zf) Zo Zl)<|.inl #[rfl,Yl (λ_=>?_) λ_=>?_]
  ·refine mX (Zk<|sj r (zh (X5 T) r.m (λ_=>rfl) rfl T.af.m T.af.F.kp T.af.b<|Zb (yn (Pt:=T.bd) rfl B) Za) Zg) #[_,g,oZ _ oN,λfl e u n4 d=>xV T d (fs:=["_law_keeper","_law_one"]) (fvs:=[.ref x,v]) (.cons #[0,_,rfl,rfl,rfl,rfl,rfl,rfl]<|.cons #[4,_,rfl,rfl,rfl,rfl,rfl,rfl] .nil) ?_ ?_ ?_ (λ_ _ _=>rfl) (by left) (by left) rfl rfl rfl λG c A' L8 s' E' l Y U=>rM (Yf (pv 0) T.ae T.cJ (YQ T) U T.ar.b .nil yy<|Zb (pv 1) Za) #[(i.mono<|u.trans l).obj,rfl,H0,F,x,tr,ad,lw,val,ln,J,js,sg,v,rfl,i.mono<|u.trans l,ht,I,ho,λN M=>Y 0 none none N (by lk) rfl M rfl λH7 L=>#[λ_=>fin u L,λp z=>nomatch z]]]
   ·simp
   ·simp;decide +kernel
   ·simp
  ·refine mX (Zk<|sj r (zh (X5 T) r.m (λ_=>rfl) rfl T.af.m T.af.F.kp T.af.b<|Zb (yn (Pt:=T.bd) rfl B) Za) Zg) #[_,g,oZ _<|oZ _ oN,λfl e u n4 d=>xV T d (fs:=["_law_keeper","_law_one"]) (fvs:=[.ref x,v]) (.cons #[0,_,rfl,rfl,rfl,rfl,rfl,rfl]<|.cons #[4,_,rfl,rfl,rfl,rfl,rfl,rfl] .nil) ?_ ?_ ?_ (λ_ _ _=>rfl) (by left) (by left) rfl rfl rfl λG c A' L8 s' E' l Y U=>rM (Yf (pv 0) T.ae T.cT (RV T) U T.aw.b .nil yy<|Zb (pv 1) Za) #[(i.mono<|u.trans l).obj,rfl,H0,F,x,tr,ad,lw,val,ln,J,js,sg,v,rfl,i.mono<|u.trans l,ht,I,ho,λN M=>Y 0 none none N (by lk) rfl M rfl λH7 L=>#[λ_=>fin u L,λp z=>nomatch z]]]
   ·simp
   ·simp;decide +kernel
   ·simp
def ZN{ds xs:lX lY}(h:(ds++xs).Nodup):qC ds xs=ds++xs:=by
 induction xs generalizing ds with
 | nil=>rw[pO];rfl
 | cons y s x =>
  have u:y∉ds:=λz=>(qu.mp h).2.2 y z y oN rfl
  rw[qC,ng u,x (by rw[pp];show h),pp]
  rfl
def Zw8(ds xs z:lX lY):qC ds (xs++z)=qC (qC ds xs) z:=by
 induction xs generalizing ds with
 | nil=>rfl
 | cons x xs y=>show y _
inductive Mt(T:Tx K mg):Sp
 | mk (H0) (F:lZ->Prop) (x tr lp lo dt) (ad:pb) (lw:lX (lY×lY)) (val:lY->lX Zv) (ln:lX (lY×Nat)) (ps js) (sg:lX (lY×lY×lY)) (pn on:lX lY) (cell:Int) (td:lX (lY×Bool)):vs=[.ref x,.ref lp,.ref lo,.int cell,.ref dt]->nV T H0 H F x tr ad lw val ln->ad.ns=ps->Zz T H0 tr ps js sg->Y4 ps js sg->qx T H0->(∀p∈ln,p.2<=4)->(∀p∈ps,p.2≠ "zz")->H lp=some (.lst<|pn.map V.str)->pn.Perm (lw.map fst)->H lo=some (.lst<|on.map V.str)->on.length<=40->(∀n∈on,(("points",n):Zh)∉ps)->H dt=some (.dK<|Z2 V.bl td)->
  (∀(H':Hp)(F':lZ->Prop)(st:lX (lY×Bool)) (E8:lX (lY×lY)),(∀b,F' b->F b)->(∀b o,b≠ad.ld->b≠ad.sd->H b=some o->H' b=some o)->nV T H0 H' F' x tr #[ad.dx,ad.ld,ad.sd,ad.nd,ad.pd,ad.es,st,ad.ns] E8 val ln->Q (.bl true) H')->Mt T vs H Q E
def Zpz(hb:∃mm,mM.Ns sysModules mm):T.fg.O P w mg mM 13 (Mt T):=by
 refine T.fg.F.okW DE ?_;rfl'
 ·obtain⟨L,F,x,J,lp,lo,dt,ad,y,val,I,ps,js,sg,d,on,cell,td,rfl,Y,A7,ht,yv,tb,h4,hz,G,C,T2,hol,hon,O3,q⟩:=h;intro X D;have hll:=Y.lwl;have m9:d.length=y.length:=by rw[C.length_eq,mV]
  have none:∀{H1:Hp},mK H H1->Hj T [.ref x,.ref lo,.int<|cell / 8] H1 Q E0:=λ{H1} g=>#[L,F,x,J,lo,ad,y,val,I,ps,js,sg,on,cell / 8,rfl,Y.mono g,ht,yv,tb,hz,g.at T2,hol,hon,λH2 s2=>q H2 F ad.st y (λ_ z=>z) (λb o _ _ z=>(g.trans s2).at z)<|Y.mono<|g.trans s2]
  refine mW (nG 5 DE<|Zn Yh (pv 3) Zf) #[(by change(0:Int)<8;decide),?_];refine mW (Zt (sJ<|uF (Wu hr (pv 5) Zf)<|vj<|Wu hr (pv 1)<|Zm Za) Zo Zl)<|.inl #[rfl,Yl (λ_=>mX (Zk<|Zx (Kw T) hr<|Zb (pv 0)<|Zb (pv 2)<|Zb (Zn Ye (pv 3) Zf) Za) #[#[by lk,by lk],none<|qy _]) λ_=>#[mY,λle H1 g i p=>.inr<|.inl #[1,.lst<|d.map Tr.str,.lst<|([]:lX lY).map Tr.str,by lk,.inr #[_,_,rfl,rfl],Wk<|g.at G,Wk p,?_]]];rw[ng oK]
  by_cases P2:d=[]
  ·rw[P2,og rfl];show mX (Zk<|Zx (Kw T) hr<|Zb (pv 0)<|Zb (pv 2)<|Zb (Zn Ye (pv 3) Zf) Za) #[#[by lk,by lk],none g]
  rw[show decide (Tr.lst (d.map Tr.str)=Tr.lst (([]:lX lY).map Tr.str))=false from ow λz=>P2<|Qt.mp<|Tr.lst.inj z];have B4:0<d.length:=xC λz=>P2<|ui.mp z
  obtain⟨j,hj,y4⟩:=Wy (a:=cell / 8) (n:=d.length) B4;obtain⟨nm,C5⟩:∃u,d[j]? =some u:=#[_,oR y4]
  have hm:(("points",nm):Zh)∈ps:=by rw[<-A7];show(Y.kx.lpt.2 nm).mp (C.mem_iff.mp<|pi C5)
  have U:=g.at G;have y7:=Y.mono g;refine mW (nG 6 DE<|nQ (pv 1)<|Zn Yh (Zn Ye (pv 3) Zf)<|pI T.bh<|pv 1) #[#[by lk,by lk],.inl #[.inl<|mZ U,(by rw[mV];change(0:Int)<_;lia),.inl #[mZ U,(show oP _ (cell / 8%(((d.map V.str).length:Nat):Int))=some (.str nm)from by rw[mV,hj];show Zq<|by rw[nU,C5];rfl),?_]]];refine mW (nG 7 DE<|Yk (pv 0) T.ae T.aW (Xh T) hr.m T.aD.b .nil Z0) #[y7.obj,rfl,L,F,x,J,ad,y,val,I,rfl,y7,λl B p2 l2 H2 s2 n2 e2=>?_];have S5:=g.trans s2;have K1:=Y.mono S5;have K5:l.length<=40:=by rw[B.length_eq,mV];show Y.stl
  refine mW (Zt (Wu hr (pv 5) Zf) Zo Zl)<|.inl #[rfl,Yl (λ_=>?_) λ_=>?_]
  ·refine mX (Zk<|vQ (vT zt (Yf (pv 0) T.ae T.cJ (Km T) hr.m T.ar.b .nil Z0<|Zb (pv 6) Za) sZ<|Yo _)<|wG<|sj hr (Yk (pv 0) T.ae T.aW (Xh T) hr.m T.aD.b .nil Z0)<|Vh rfl (by rfl) T.cP (by rfl) T.jJ<|Zb (Zn Wl (pv 7)<|Zm<|Zb (pv 6) Za) Za) #[K1.obj,rfl,L,F,x,J,ad,y,val,I,ps,js,sg,nm,rfl,K1,ht,yv,hm,A7,λH3 ad3 k3 _ _ a3 C3=>#[rfl,?_]];subst a3;have p:l2≠ad.sd:=λz=>by rw[z,y7.sti]at n2;cases n2
   refine#[C3.obj,rfl,L,F,x,J,_,y,val,I,rfl,C3,λss3 p3 p4 l4 H4 N n4 e4=>#[mY,λl5 H5 M n5 e5=>.inr<|.inr #[(N.trans M).at (k3 _ _ p e2),e5,?_,λl6 H6 i n6 e6=>#[_,rfl,l6,l++[nm],rfl,mZ (by rw[e6,nJ];rfl),?_,λe p7 p8 l7 H7 s7 n7 e7=>?_]]]]
   ·rw[mV];show pU (Zp<|by simp;lia)
   ·rw[oj];change l.length+1<64;lia
   have pe:ss3.Perm e:=by
    refine p3.trans<|.trans ?_ p7.symm;rw[Zw8,ZN (ds:=[]) (xs:=l) (by rw[AC];show B.nodup_iff.mpr Y.kx.sok.1)];change List.Perm ((pH ad.st nm true).map fst) (if nm∈[]++l then[]++l else[]++l++[nm]);rw[AC,yA]
    by_cases c:nm∈l
    ·rw[nj c,nj<|B.mem_iff.mp c];show B.symm
    ·rw[ng c,ng λz=>c<|B.mem_iff.mpr z];show B.symm.append_right _
   obtain rfl:=Wo p4 p8 pe;refine .inr<|.inl #[1,_,_,by lk,.inr #[_,_,rfl,rfl],Wk<|(M.trans<|i.trans s7).at e4,Wk e7,?_];rw[ng oK,og rfl];show q H7 F _ y (λ_ z=>z) (λb o _ n z=>(N.trans<|M.trans<|i.trans s7).at (k3 b o n<|S5.at z))<|C3.mono<|N.trans<|M.trans<|i.trans s7
  refine mW (Zt (Wu hr (pv 5) Zf) Zo Zl)<|.inl #[rfl,Yl (λ_=>?_) λ_=>?_]
  ·refine mX (Zk<|vQ (vT zt (Yf (pv 0) T.ae T.cT (JU T) hr.m T.aw.b .nil Z0<|Zb (pv 6) Za) sZ<|Yo _)<|wG<|sj hr (Yk (pv 0) T.ae T.aW (Xh T) hr.m T.aD.b .nil Z0)<|pT ["_law_name","_law_one"] (pr 1 [6] rfl) (Yi<|pv 7) (oJ 0) (sS<|Yd (r:=sV K) (ur hr) (pv 0) (pv 1)<|Yo _) (pv 0)) #[K1.obj,rfl,L,F,x,J,ad,y,val,I,ps,js,sg,nm,rfl,K1,ht,yv,hm,λH3 k3 C3=>#[rfl,?_]];have e3:=k3 _ _ (λz:l2=ad.sd=>by rw[z,y7.sti]at n2;cases n2) e2;refine#[C3.obj,rfl,L,F,x,J,_,y,val,I,rfl,C3,λss3 p3 p4 l4 H4 N n4 e4=>#[mZ<|N.at e3,λD hD=>Yz (xs:=l.map V.str) (λi c H'=>c=((l.take i).filter λt=>decide<|t≠nm).map V.str/\H' D=some (.lst c)/\mK H4 H') #[rfl,Zc,pC hD] ?_ ?_ ?_]]
   ·rintro i c H' _ ⟨_,_,sm⟩;show mZ<|sm.at<|N.at e3
   ·rintro i v c H' hi ⟨rfl,y8,sm⟩;rw[nU]at hi;obtain⟨t,T9,rfl⟩:=oo.mp hi;refine#[pA rfl,.inl #[rfl,Yl (λp=>?_) λp=>?_]]
    ·have p:t≠nm:=λz=>by rw[z]at p;simp at p
     refine#[y8,?_,?_,Zc,λb o e=>by rw[Zd (Ze e hD)];show sm.at e]
     ·rw[mV];have:=wW (λt=>decide<|t≠nm)<|l.take i;rw[oF]at this;show Zp (by lia)
     ·rw[oH,T9,uM,nJ,show(some t).toList=[t]from rfl,rB,nj<|og p]
      rfl
    ·have p:t=nm:=GP λz=>p (by simp[z])
     refine#[?_,y8,sm];rw[oH,T9,uM,show(some t).toList=[t]from rfl,rB,ng (by simp[p]),yd,pO]
   ·rintro c H5 ⟨rfl,e,M⟩;rw[mV,pD]at e;obtain rfl:=Wo p4 (Ey p2 λt=>decide<|t≠nm) (p3.trans (by
     rw[show(ad.st.filter λp=>decide<|p.1≠nm).map fst=(ad.st.map fst).filter λt=>decide (t≠nm) by rw[List.filter_map];rfl];show(B.filter _).symm))
    refine .inr<|.inl #[1,_,_,by lk,.inr #[_,_,rfl,rfl],Wk<|M.at e4,Wk e,?_];rw[ng oK,og rfl];show q H5 F _ y (λ_ z=>z) (λb o _ n z=>(N.trans M).at (k3 b o n<|S5.at z))<|C3.mono<|N.trans M
  show mX (Zk<|Zx (PK T hb) hr<|Zb (pv 0)<|Zb (pv 1)<|Zb (Zn Ye (pv 3) Zf)<|Zb (pv 4) Za) #[#[by lk,by lk],L,F,x,J,lp,dt,ad,y,val,I,ps,js,sg,d,cell / 8,td,rfl,K1,A7,ht,yv,tb,h4,S5.at G,P2,C,S5.at O3,λH' p i e k c=>q H' p ad.st i e (λb o n _ z=>k b o n<|S5.at z) c]
structure LT(T:Tx K mg)(H0:Hp)(x tr:Addr)(ad:pb)(val:Str->List Zv)(ln:List (Str×Nat))(hl:Addr)(Hs:Hp)(n:Nat)(H:Hp)(F:Addr->Prop)(st:List (Str×Bool))(lw:List (Str×Str)):Prop where
 k:nV T H0 H F x tr #[ad.dx,ad.ld,ad.sd,ad.nd,ad.pd,ad.es,st,ad.ns] lw val ln
 at':∀b o,b≠hl->b≠ad.ld->b≠ad.sd->Hs b=some o->H b=some o
 nF:¬F hl
 held:zy H (λb=>b=hl\/b=ad.ld\/b=ad.sd) hl n
section
variable {U:Tx K mg} {F F':lZ->Prop} {val:lY->lX Zv}
def LT.nh(h:LT U s x r ad val q y p n H F st lw):y≠ad.ld/\y≠ad.sd:=by
 obtain⟨o,u,_⟩:=h.held;refine#[λz=>?_,λz=>?_]
 ·have:=h.k.lies;rw[show(pb.ld #[ad.dx,ad.ld,ad.sd,ad.nd,ad.pd,ad.es,st,ad.ns])=y from z.symm,u]at this;cases this
 ·have:=h.k.sti;rw[show(pb.sd #[ad.dx,ad.ld,ad.sd,ad.nd,ad.pd,ad.es,st,ad.ns])=y from z.symm,u]at this;cases this
def LT.next(h:LT U s x r ad val q g d n H F st lw)(k:nV U s p F' x r #[ad.dx,ad.ld,ad.sd,ad.nd,ad.pd,ad.es,a,ad.ns] Y val q)(f:∀b,F' b->F b)(off:∀b o,b≠ad.ld->b≠ad.sd->H b=some o->p b=some o):LT U s x r ad val q g d n p F' a Y:=by
 obtain⟨z,l,_⟩:=id h.held;refine#[k,λb o Q j i z=>off b o j i<|h.at' b o Q j i z,λz=>h.nF<|f _ z,h.held.on (λc u e z=>off c u (λy=>z<|.inr<|.inl y) (λy=>z<|.inr<|.inr y) e) (λc z=>.inl z) (by rw[l];show off _ _ h.nh.1 h.nh.2 l)]
def LT.mono(h:LT U y x u ad val r q p n H F st lw)(s:mK H o):LT U y x u ad val r q p n o F st lw:=h.next (h.k.mono s) (λ_ z=>z) λ_ _ _ _ z=>s.at z
def LT.app{us:lX V}{d:PyData}(h:LT U a x L ad val J r I n H F st lw)(E:a r=none)(C:∀e∈ad.es,e.2≠r)(B:H r=some (.lst us))(s:mK H G)(Y:H p=none)(A:G p=some (.tup [.ref D,.str d.shown]))(Q:H D=none)(eD:G D=some o)(sh:Yc 24000 3 d)(rp:∀N:Hp,N D=some o->Rp N d (.ref D)):LT U a x L ad val J r I (n+1) (mT G r<|.lst<|us++[.ref p]) F st lw:=by
 obtain⟨j,g,M,h3⟩:=h.held;obtain rfl:us=j.map V.ref:=HO.lst.inj<|pc<|B.symm.trans g;have i:∀{l:lZ},H l=none->¬(l=r\/l=ad.ld\/l=ad.sd):=λz y=>by
  rcases y with rfl|rfl|rfl
  ·rw[g]at z;cases z
  ·rw[h.k.lies]at z;cases z
  ·rw[h.k.sti]at z;cases z
 have q:∀{b:lZ}{o:HO},b≠r->G b=some o->mT G r (.lst<|j.map V.ref++[.ref p]) b=some o:=λnb z=>by rw[Zd nb];show z
 refine#[(h.k.mono s).setU (s.at g) (λ_ z=>nomatch z) C h.nF h.nh.1 h.nh.2 E,λb o M n2 n3 z=>q M<|s.at<|h.at' b o M n2 n3 z,h.nF,j++[p],by rw[Zc,nJ];rfl,by rw[oj];simp;lia,λu c=>?_];rcases oO.mp c with z|z
 ·obtain⟨l,d',x1,x2,x3⟩:=h3 u z;have M:mK (uL (λb=>b=r\/b=ad.ld\/b=ad.sd) H) (uL (λb=>b=r\/b=ad.ld\/b=ad.sd)<|mT G r<|.lst<|j.map V.ref++[.ref p]):=Po (λb o e w=>q (λy=>w<|.inl y)<|s.at e) λb w=>.inl w
  show#[l,d',M.at x1,HR M x2,x3]
 ·rw[pK.mp z];show#[D,d,II (q (λy=>i Y<|.inl y) A)<|i Y,rp _<|II (q (λy=>i Q<|.inl y) eD)<|i Q,sh]
end
def Ztv{lw:lX (lY×lY)}(h:∀p∈lw,Xf p.1/\p.2∈rE)(y:lw.length<=40):Yc 24000 3 (.dict<|(lw.map λp=>PyData.str p.1).zip (lw.map λp=>PyData.str p.2)):=by
 refine(Yc.dict (n:=6) (k:=0) (m:=40) (λd hd=>?_)<|by rw[GA,mV,mV];lia).up (by lk) (by lk);rw[List.zip_map']at hd;obtain⟨p,z,rfl⟩:=nH.mp hd;have z:=h p z;show#[Ac z.1,.str (Wh _ z.2).1 (Wh _ z.2).2]
inductive Ls(T:Tx K mg)(H0:Hp)(x tr:Addr)(ad:pb)(val:Str->List Zv)(ln:List (Str×Nat))(hl:Addr)(Hs:Hp)(n:Nat)(a t tp lp lo:Addr):St->Hp->Prop
 | mk (o2 o5 o9 Q4 K6 F st lw):LT T H0 x tr ad val ln hl Hs n H F st lw->Ls T H0 x tr ad val ln hl Hs n a t tp lp lo [some (.ref a),some<|.ref t,o2,some<|.ref tp,some<|.ref x,o5,some<|.ref lp,some<|.ref lo,some<|.ref hl,o9,Q4,K6] H
def WZ(F:qX K "law" "law" vn f fd)(T:Tx K mg)(hb:∃mm,mM.Ns sysModules mm):Xm P w K mg mM ph 14 f fd ["_law_script"] (yR K T.tabs):=by
 refine F.okW tP ?_;rfl'
 ·obtain⟨a,ns,rfl,hS,A7,htb,q⟩:=h;intro X D;have tb:=qx.of htb;refine mW (nG 1 tP<|Zx (ZW T) hr<|Zb (Zx (ZK T) hr<|Zb (pv 0)<|Zb Zf<|Zb Zf Za)<|Zb (Xa (GI T) hr rfl T.ax.m T.ax.F.kp T.ax.b .nil Z0<|Zb (pv 0)<|Zb Zf Za) Za) #[a,ns,17,31,rfl,hS,A7,by lk,by lk,λj H1 cs s1 n1 e1 hc w9=>#[a,ns,0,rfl,s1.seq hS,j,_,cs,rfl,mZ e1,λc h=>(hc c h).1,w9,λt pl0 jl gl H2 M js sg s2 ht hP hJ hG yo=>?_]];have A9:=s1.trans s2;have yv:=yo.v;have zz:∀p∈M,p.2≠ "zz":=λp hp=>(yo.name p hp).nm.zz
  clear hc w9 e1 n1;refine mW (nG 3 tP<|Zx (Zm6 T) hr<|Zb (pv 1)<|Zb (pT ["_law_k","_law_script"] (pr 1 [0] rfl) (CQ rfl T.dM<|Zb Zf<|Zb Zf Za) (oJ 0) Wi (Xa (GI T) hr rfl T.ax.m T.ax.F.kp T.ax.b .nil Z0<|Zb (pv 1)<|Zb (pv 0) Za)) Za) #[1,4,rfl,by lk,λD hD=>Qu (lo:=1) (n:=3) (λk ys g=>(∃cs:lX Int,ys=cs.map V.int/\cs.length=k)/\g D=some (.lst ys)/\mK H2 g) #[#[[],rfl,rfl],Zc,pC hD] ?_ ?_]
  ·rintro k ys H3 j ⟨⟨cs,rfl,w9⟩,hD3,U⟩;unfold qB;refine#[pA rfl,a,ns,1+k,rfl,(A9.trans U).seq hS,hD3,?_,#[cs++[zV ns (1+k)],?_,?_],Zc,λb o e=>?_]
   ·rw[mV];show Zp (by lia)
   ·rw[nJ];rfl
   ·rw[oj,w9];rfl
   ·rw[Zd (Ze e hD)];show U.at e
  rintro ys H3 ⟨⟨cs,rfl,w9⟩,hD3,U⟩;refine#[t,D,M,js,sg,cs,rfl,#[pl0,jl,gl,U.at ht,hP.mono U,hJ.mono U,hG.mono U],yv,tb.mono<|A9.trans U,hD3,by lia,λtp x tr G H4 Fr ad L val ln s0 etp ht0 J ns4 ne4 l44 ll4=>?_];have hS0:=(A9.trans<|U.trans s0).seq hS;have C7:=(U.trans s0).at ht;obtain⟨j,m9,u0⟩:=hP.mono<|U.trans s0;have tb0:=tb.mono<|A9.trans<|U.trans s0;have U0:=yv.len;clear htb hD3 hP hJ hG ht w9 s0 s1 s2 U A9 hD A7 yo tb ne4 ll4;refine mW (nG 4 tP<|nQ (pv 3) Zf)<|.inr<|.inl #[nw etp,Zq (j:=0) rfl,?_];refine mW (xx 6 ["_law_kind","_law_one"] tP (pr 2 [] rfl) (Yi<|nQ (pv 1) Zf) (vX (K:=K) (n:=2) rfl rfl<|Zu (oJ 0)<|Zu (oJ 1) Y8) (sS<|Yd (r:=wg K) (Bl hr) (pv 0) Zg<|Yo _) (pv 1))<|.inr<|.inl #[nw<|J.same.at C7,Zq (j:=0) rfl,mZ<|J.same.at m9,λlp nlp=>Dv (f:=sP) (J.same.at m9) (nX u0 λ_ _ r=>r.mono J.same) (by lia) nlp (λH5 N elp=>?qq) ?aa (λ_ _ _ _ e h=>oV.of e<|.inl #[rfl,h]) ?cc]
  case aa=>rfl
  case cc=>rfl
  have k5:=J.mono N;refine mW (xx 7 ["_law_kind","_law_one"] tP (pr 2 [] rfl) (Yi<|nQ (pv 1) Zf) (vX (K:=K) (n:=2) rfl rfl<|Zu (oJ 0)<|Zu (oJ 1) Y8) (sS<|Yd (r:=sV K) (ur hr) (pv 0) Zg<|Yo _) (pv 1))<|.inr<|.inl #[nw<|k5.same.at C7,Zq (j:=0) rfl,mZ<|k5.same.at m9,λlo nlo=>Dv (f:=λk=>!sP k) (k5.same.at m9) (nX u0 λ_ _ r=>r.mono k5.same) (by lia) nlo (λH6 s6 elo=>?q2) ?a2 (λ_ _ _ _ e h=>oV.of e<|.inl #[rfl,h]) ?c2]
  case a2=>rfl
  case c2=>rfl
  refine mW (nG 8 tP<|Zm Za) #[mY,λI H7 s7 n7 e7=>?_];have P2:(X7 sP M).Nodup:=yv.net.nd.sublist<|List.Sublist.map _ Js;have hpm:∀n,n∈X7 sP M↔(("points",n):Zh)∈M:=λn=>NE
  have hon:∀n∈X7 (λk=>!sP k) M,(("points",n):Zh)∉M:=λn hn y=>by
   obtain⟨k,h1,h2⟩:=Pg.mp hn;cases Qc yv.net.nd h1 y rfl;revert h2
   decide +kernel
  have hol:(X7 (λk=>!sP k) M).length<=40:=oy (Cp _ _) U0;generalize X7 sP M=pn at elp P2 hpm;generalize X7 (λk=>!sP k) M=on at elo hon hol;have s47:=N.trans<|s6.trans s7;have n47:H4 I=none:=(N.trans s6).free n7;have n0:G I=none:=J.same.free n47;have he:∀e∈ad.es,e.2≠I:=λe h y=>by
   obtain⟨us,h1,_⟩:=J.pth.2 e h;rw[y,n47]at h1;cases h1
  have L7:LT T G x tr ad val ln I H7 0 H7 Fr ad.st L:=#[J.mono s47,λ_ _ _ _ _ y=>y,J.neF n47,[],e7,nK _,λ_ y=>nomatch y]
  have lk:∀{b:lZ}{vs:lX V},H4 b=none->H7 b=some (.lst vs)->b≠I->(b≠I/\b≠ad.ld/\b≠ad.sd):=λy u n=>#[n,(λw=>by rw[w,J.lies]at y;cases y),(λw=>by rw[w,J.sti]at y;cases y)]
  have Y:=(s6.trans s7).at elp;have elo7:=s7.at elo;have U7:=lk nlp Y λy=>by rw[<-y,s6.at elp]at n7;cases n7
  have klo:=lk (N.free nlo) elo7 λy=>by rw[<-y,elo]at n7;cases n7
  have perm:∀{H:Hp}{F:lZ->Prop}{st:lX (lY×Bool)}{L:lX (lY×lY)},nV T G H F x tr #[ad.dx,ad.ld,ad.sd,ad.nd,ad.pd,ad.es,st,ad.ns] L val ln->pn.Perm (L.map fst):=λk=>(List.perm_ext_iff_of_nodup P2 k.kx.lok.1).mpr λn=>(hpm n).trans (by rw[<-ns4];show(k.kx.lpt.2 n).symm)
  clear J k5 N s6 s7 s47 elp elo nlp nlo etp lk e7 n7 n47;let I32:IC:=λz g=>(∃B o5 o9 Q4 K6,z=[some (.ref a),some<|.ref t,B,some<|.ref tp,some<|.ref x,o5,some<|.ref lp,some<|.ref lo,some<|.ref I,o9,Q4,K6])/\∃Z:lZ->Prop,zy g Z I 24
  refine qz I32 ?_ ?_
  ·refine qo (Xk pM rfl (CQ rfl T.dM<|Zb Zf<|Zb Zf Za) (oE 2 tP) Zo) #[4,16,rfl,by lk,yw (lo:=4) (n:=12) (λi=>Ls T G x tr ad val ln I H7 (2 * i) a t tp lp lo) (.mk _ _ _ _ _ _ _ _ L7) ?_ ?_]
   ·clear L7;rintro i z H1 hi ⟨B,o5,o9,Q4,K6,Fr,st,L,L1⟩;refine mW (nG 9 tP<|Xa (GI T) hr rfl T.ax.m T.ax.F.kp T.ax.b .nil Z0<|Zb (pv 0)<|Zb (pv 2) Za) #[a,ns,4+i,rfl,L1.k.same.seq hS0,?_];generalize zV ns (4+i)=cell;refine mW (nG 10 tP Wf) λdt H2 s2 n2 e2=>?_
    let I33:IC:=λz g=>∃B o5 K6 C,z=[some (.ref a),some<|.ref t,B,some<|.ref tp,some<|.ref x,o5,some<|.ref lp,some<|.ref lo,some<|.ref I,some<|.int cell,some<|.ref dt,K6]/\mK H1 g/\g dt=some (.dK<|Z2 V.bl C)
    refine qz I33 ?_ ?_
    ·have g2:=L1.k.same.trans s2;refine qo (Zt (Wu hr (Zn Yh (pv 9) Zf) Zf) Zo Zl) #[(by change(0:Int)<3;decide),.inl #[rfl,Yl (λ_=>?_) λ_=>#[_,_,_,[],rfl,s2,e2]]];refine mX (Xk pM rfl (yu rfl T.cz<|Zb (pT ["_law_kind","_law_name"] (pr 2 [] rfl) (Yi<|nQ (pv 1) Zf) (vX (K:=K) (n:=2) rfl rfl<|Zu (oJ 0)<|Zu (oJ 1) Y8) Wi (pv 1)) Za) (tD rfl<|Zu (oE 11 tP)<|Zu (oE 5 tP) Y8) Zo)<|.inr<|.inl #[nw<|g2.at C7,Zq (j:=0) rfl,mZ<|g2.at m9,λD hD=>Dv (f:=λ_=>true) (g2.at m9) (nX u0 λ_ _ r=>r.mono g2) (by lia) hD (λHD sD eD=>?q3) ?a3 (λ_ _ _ _ _ h=>h) ?c3]
     case a3=>rfl
     case c3=>rfl
     have hln:=oy (Cp (λ_=>true) M) U0;generalize X7 (λ_=>true) M=as at eD hln;have Ds:D≠dt:=λy=>by rw[y,e2]at hD;cases hD
     have sdH:∀{b:lZ}{o:HO},H1 b=some o->b≠dt:=λy u=>by rw[u,n2]at y;cases y
     let I34:IF:=λj z g=>(∃B o5 K6,z=[some (.ref a),some<|.ref t,B,some<|.ref tp,some<|.ref x,o5,some<|.ref lp,some<|.ref lo,some<|.ref I,some<|.int cell,some<|.ref dt,K6])/\g D=some (.lst<|as.map V.str)/\mK H1 g/\∃C,g dt=some (.dK<|Z2 V.bl C)/\C.length<=j
     refine#[mZ eD,yD (K:=K) (xs:=as.map V.str) I34 #[#[_,_,_,rfl],eD,s2.trans sD,[],sD.at e2,rR _] ?_ ?_ ?_]
     ·rintro j z g _ ⟨_,y,_⟩;show mZ y
     ·rintro j v z H4 hj ⟨⟨B,o5,K6,rfl⟩,hD4,s4,C,htd,g8⟩ p H5 N n5 e5;rw[nU]at hj;obtain⟨nm,C5,rfl⟩:=oo.mp hj;have y4:=(pz.mp C5).1;refine#[nw e5,rfl,rfl,?_];refine mX (tS (Xv hr) (pv 10) (pv 5) (sj hr (Zn Yh (Xa (Wx T) hr rfl T.aj.m T.aj.F.kp T.aj.b .nil Z0<|Zb (pv 9)<|Zb (pv 11) Za) Zf) Zf) rfl) #[cell,j,rfl,(by change(0:Int)<3;decide),.inl #[rfl,qL.k (k:=Xn nm) (N.at htd) ?_,#[_,_,_,rfl],by rw[Zd Ds];show N.at hD4,λb o y=>by rw[Zd (sdH y)];show N.at<|s4.at y,pH C nm<|decide<|V.int (tV cell j%3)=V.int 1,?_,?_]]
      ·rw[show(Z2 V.bl C).length=C.length from mV ..];show Zp (by lia)
      ·rw[Zc];show oY (λy=>some<|HO.dK y)<|zT _ _ _
      ·have:=oY List.length<|yA C nm<|decide<|V.int (tV cell j%3)=V.int 1;rw[mV]at this;split at this
       ·rw[mV]at this;lia
       ·rw[oj,mV,zL]at this;lia
     ·rintro z g ⟨⟨B,o5,K6,rfl⟩,_,s4,C,htd,_⟩;show#[B,o5,K6,C,rfl,s4,htd]
    rintro z H3 ⟨B,o5,K6,C,rfl,U,htd⟩;have L3:=L1.mono U;refine mW (Zt (rO<|Y7<|Zx (Zpz T hb) hr<|Zb (pv 4)<|Zb (pv 6)<|Zb (pv 7)<|Zb (Zn Ye (pv 9) Zf)<|Zb (pv 10) Za) Zo Zl) #[#[by lk,by lk],G,Fr,x,tr,lp,lo,dt,_,L,val,ln,M,js,sg,pn,on,cell / 3,C,rfl,L3.k,ns4,ht0,yv,tb0,l44,zz,L3.at' _ _ U7.1 U7.2.1 U7.2.2 Y,perm L3.k,L3.at' _ _ klo.1 klo.2.1 klo.2.2 elo7,hol,hon,htd,λH4 F4 st4 lw4 f4 off4 J=>oB.t rfl<|BE ?_];have c:=L3.next J f4 off4;clear L3 L1 off4 J f4 htd U s2 e2 n2;let I35:IC:=λz g=>∃Fr st L,z=[some (.ref a),some<|.ref t,B,some<|.ref tp,some<|.ref x,o5,some<|.ref lp,some<|.ref lo,some<|.ref I,some<|.int cell,some<|.ref dt,K6]/\LT T G x tr ad val ln I H7 (2 * i) g Fr st L
    refine qz I35 ?_ ?_
    ·refine qo (Zt (sJ<|yO (Yd xw (Zn Yh (Zn Ye (pv 9) Zf) Zf) Zf<|Yo _)<|yO (tZ hr (pv 6)<|Zm Za)<|AZ<|Wu hr (Zn Yh (Zn Ye (pv 9) Zf) Zf) Zf) Zo Zl) #[#[by lk,by lk],(by change(0:Int)<8;decide),Yl (λ_=>#[mY,λle H5 N n5 e5=>.inr<|.inl #[1,.lst<|pn.map Tr.str,.lst<|([]:lX lY).map Tr.str,by lk,.inr #[_,_,rfl,rfl],Wk<|(c.mono N).at' _ _ U7.1 U7.2.1 U7.2.2 Y,Wk e5,?_]]) λ_=>#[_,_,_,rfl,c]];have L5:=c.mono N;rw[nj rfl]
     by_cases hp:pn=[]
     ·rw[hp,og rfl];show oB.f rfl<|BE<|BE #[_,_,_,rfl,L5]
     rw[show decide (Tr.lst (pn.map Tr.str)=Tr.lst (([]:lX lY).map Tr.str))=false from ow λy=>hp<|Qt.mp<|Tr.lst.inj y];refine oB.t rfl<|Yi7 #[#[by lk,by lk],(by change(0:Int)<2;decide),.inl #[rfl,Yl (λ_=>?_) λ_=>#[_,_,_,rfl,L5]]];have B4:0<pn.length:=xC λy=>hp<|ui.mp y
     obtain⟨j,hj,y4⟩:=Wy (a:=cell / 24) (n:=pn.length) B4;obtain⟨nm,C5⟩:∃l,pn[j]? =some l:=#[_,oR y4]
     have elp5:=L5.at' _ _ U7.1 U7.2.1 U7.2.2 Y;refine mW (Z1<|Yf (pv 4) T.ae T.cT (JU T) hr.m T.aw.b .nil Z0<|Zb (nQ (pv 6)<|Zn Yh (Zn Ye (pv 9) Zf)<|pI T.bh<|pv 6) Za) #[L5.k.obj,rfl,#[by lk,by lk],.inl #[.inl<|mZ elp5,(by rw[mV];change(0:Int)<_;lia),.inl #[mZ elp5,(show oP _ (cell / 24%(((pn.map V.str).length:Nat):Int))=some (.str nm)from by rw[mV,hj];show Zq<|by rw[nU,C5];rfl),G,F4,x,tr,_,lw4,val,ln,M,js,sg,nm,rfl,L5.k,ht0,yv,(hpm nm).mp (pi C5),λH6 off6 k6=>?_]]];have d:=L5.next k6 (λ_ y=>y) λb o _ n y=>off6 b o n y
     show mX (Zt (rO<|Y7<|Zx (PK T hb) hr<|Zb (pv 4)<|Zb (pv 6)<|Zb (Zn Ye (pv 9) Zf)<|Zb Wf Za) Zo Zl) #[#[by lk,by lk],λd8 H8 s8 n8 e8=>#[G,F4,x,tr,lp,d8,_,lw4,val,ln,M,js,sg,pn,_,[],rfl,(d.mono s8).k,ns4,ht0,yv,tb0,l44,(d.mono s8).at' _ _ U7.1 U7.2.1 U7.2.2 Y,hp,perm d.k,e8,λH9 F9 lw9 f9 off9 k9=>oB.t rfl<|BE #[_,_,_,rfl,(d.mono s8).next k9 f9 λb o n _ y=>off9 b o n y]]]
    clear c;rintro z H4 ⟨Fr,st,L,rfl,c⟩;obtain⟨us,hu1,hu2,_⟩:=id c.held;have stl:=c.k.stl;refine mW (Z1<|rD (pv 8)<|Zi<|Zb (Yk (pv 4) T.ae T.aW (Xh T) hr.m T.aD.b .nil Z0)<|Zb (Z6 (r:=yZ) (Ax hb hr.gd hr.units) (by rfl) T.fS AF<|Zb (Yk (pv 4) T.ae T.aW (Xh T) hr.m T.aD.b .nil Z0) Za) Za) #[.inl #[rfl,_,mZ hu1],c.k.obj,rfl,G,Fr,x,tr,_,L,val,ln,rfl,c.k,λss p1 p2 D H5 N n5 e5=>#[(c.k.mono N).obj,rfl,G,Fr,x,tr,_,L,val,ln,rfl,c.k.mono N,λD4 q1 q2 D' G1 t1 n1 e1=>?_]];obtain rfl:=Wo q2 p2<|q1.trans p1.symm;have sh:Yc 24000 3 (.list<|D4.map PyData.str):=(Fd (m:=40) (λt ht=>by
     obtain⟨p',E5,rfl⟩:=nH.mp<|p1.mem_iff.mp ht;show zN c.k.kx.nok.2 (c.k.kx.sok.2 p' E5).1) (by rw[p1.length_eq,mV];show stl)).up (by lk) (by lk)
    have s41:=N.trans t1;refine#[D',_,rfl,CM e1,sh.1,oy sh.2.2.1 (by lk),sh.shown (by lk),mY,λt6 G2 t2 n2 e2=>#[t2.at<|s41.at hu1,by rw[mV];show Zp (by lia),?_]];have d:=c.app n0 he hu1 (s41.trans t2) (s41.free n2) e2 n5 ((t1.trans t2).at e5) sh λ_ e=>CM e
    generalize mT G2 I _=H6 at d ⊢;clear hu1 hu2 c;obtain⟨vs,hv1,hv2,_⟩:=id d.held;refine mX (Z1<|rD (pv 8)<|Zi<|Zb (Yk (pv 4) T.ae T.bK (X6 T) hr.m T.aN.b .nil Z0)<|Zb (Z6 (r:=yZ) (Ax hb hr.gd hr.units) (by rfl) T.fS AF<|Zb (Yk (pv 4) T.ae T.bK (X6 T) hr.m T.aN.b .nil Z0) Za) Za) #[.inl #[rfl,_,mZ hv1],d.k.obj,rfl,G,Fr,x,tr,_,L,val,ln,rfl,d.k,λl7 H7' s7 n7 e7=>#[(d.k.mono s7).obj,rfl,G,Fr,x,tr,_,L,val,ln,rfl,d.k.mono s7,λl8 H8 s8 n8 e8=>?_]];have lwl:=d.k.lwl;have shl:=Ztv (lw:=L) (λp hp=>#[zN d.k.kx.nok.2 (d.k.kx.lok.2 p hp).1,(d.k.kx.lok.2 p hp).2]) lwl;refine#[l8,_,rfl,Gb e8,shl.1,oy shl.2.2.1 (by lk),shl.shown (by lk),mY,λt9 H9 s9 n9 e9=>#[(s7.trans<|s8.trans s9).at hv1,by rw[mV];show Zp (by lia),?_]];have L9:=d.app n0 he hv1 (s7.trans<|s8.trans s9) ((s7.trans s8).free n9) e9 n7 ((s8.trans s9).at e7) shl λ_ e=>Gb e
    show .mk _ _ _ _ _ _ _ _ (show LT T G x tr ad val ln I H7 (2 * (i+1)) _ _ _ _ from L9)
   ·rintro z g ⟨B,o5,o9,Q4,K6,Fr,st,L,L1⟩;show#[#[_,_,_,_,_,rfl],_,L1.held]
  clear L7;rintro z H9 ⟨⟨B,o5,o9,Q4,K6,rfl⟩,Z9,us,eh,j,v6⟩;refine mX (Zk<|sj hr (pT ["_law_pair"] (pr 1 [] rfl) (Yi<|pv 8) (oJ 0) (sS<|Yd (r:=sV K) (ur hr) (Z6 (r:=yZ) (Ax hb hr.gd hr.units) (by rfl) T.fS AF<|Zb (rc (K:=K) rfl (pv 0) Zf) Za) (rc (K:=K) rfl (pv 0) Zf)<|Yo _) (pv 0))<|Zm Za) #[mZ eh,λC j=>Yz (xs:=us.map V.ref) (λi ys g=>ys=[]/\g C=some (.lst ys)/\mK H9 g) #[rfl,Zc,pC j] ?_ ?_ ?_]
  ·rintro i ys g _ ⟨_,_,sm⟩;show mZ<|sm.at eh
  ·rintro i v ys g hi ⟨rfl,hC',sm⟩;rw[nU]at hi;obtain⟨l,hu,rfl⟩:=oo.mp hi;obtain⟨j,d,c,C,x3⟩:=v6 l<|pi hu;have s9:mK (uL Z9 H9) g:=λb o e=>sm.at (Nc e).1
   have c:=s9.at c;have C:=HR s9 C;unfold qB;refine#[pA rfl,.inr<|.inl #[nw c,Zq (j:=0) rfl,j,d,rfl,C,x3.1,oy x3.2.2.1 (by lk),x3.shown (by lk),.inr<|.inl #[nw c,Zq (j:=1) rfl,.inl #[rfl,?_]]]];rw[og rfl];show#[rfl,hC',sm]
  ·rintro ys g ⟨rfl,hC',sm⟩;refine#[mY,λle H2 s2 n2 e2=>.inr<|.inl #[1,.lst [],.lst [],by lk,.inr #[_,_,rfl,rfl],?_,?_,?_]]
   ·show Wk (ss:=[])<|s2.at hC'
   ·show Wk (ss:=[]) e2
   ·rw[og rfl];show q H2
end
end K65
end
namespace K65
open PySem L2 NM YM
def Yho{z:Type}{us:lX z}(h:us.length=2):∃a b,us=[a,b]:=by
 rcases us with _|⟨a,_|⟨b,_|_⟩⟩<;>first|show#[_,_,rfl]|cases h
def MM{z:Type}{us:lX z}(h:us.length=3):∃a b c,us=[a,b,c]:=by
 rcases us with _|⟨a,_|⟨b,_|⟨c,_|_⟩⟩⟩<;>first|show#[_,_,_,rfl]|cases h
def VA{z:Type}{us:lX z}(h:us.length=4):∃a b c d,us=[a,b,c,d]:=by
 rcases us with _|⟨a,_|⟨b,_|⟨c,_|⟨d,_|_⟩⟩⟩⟩<;>first|show#[_,_,_,_,rfl]|cases h
def Ye0{us:lX ma}{n:Nat}(h:us.length=n):us=(List.range n).map (λi=>us.getD i .none):=by
 subst h;apply BB;intro i
 by_cases h:i<us.length<;>simp[h]
def mR{K:mf}{f:lZ}{x q:lY}{st:mh}{s kV r z u y:ma}{od w:me lZ}{p:Array (me ma)}{ps:lX lY}(l:K.lookup f=some #[s,od,.func<|fnOf x q (Wz st) (Y1 st) (Zj st) .none kV r z w u y,p])(e:codeIn K u q=true)(k:keepIn K (.ref f)=true)(b:∀kV o z w n y (v:Nat->ma),bindArgs (fnOf x q (Wz st) (Y1 st) (Zj st) .none kV o z w n y) #[(List.range ps.length).map v,[]]=pure (ps.zip<|(List.range ps.length).map v)):Dn K x q st ps:=#[f,_,FI l e k,(FI l e k).binds λ_ _ _ _ _ _ j h=>by rw[Ye0 h];show b ..]
def CF{K:mf}{f u:lZ}{p kV o n r j i:ma}{od h y:me lZ}{g x:Array (me ma)}{d:Nat}{w:Tok}(l:K.lookup f=some #[p,od,.func<|fnOf "leads" "Part.leads" (Wz Wa) (Y1 Wa) (Zj Wa) (.ref u) kV o n h r j,g])(ld:K.lookup u=some #[i,y,.seq (List.toArray [.str "" w]) d,x])(e:codeIn K r "Part.leads"=true)(k:keepIn K (.ref f)=true):xX K "leads" "Part.leads" Wa ["self","end","lie"] (.str "") :=
 #[f,_,_,Le (st:=Wa) l e k,λs q KX z=>by
   rw[pO]at z ⊢;obtain⟨_,_,_,rfl⟩:=MM z;show CJ rfl (KX _ _ ld) rfl rfl rfl,.str "" w,#[w,rfl],λs q KX z=>by
   have c:q.length=2:=by simpa using z
   obtain⟨_,_,rfl⟩:=Yho c;show CJ rfl (KX _ _ ld) rfl rfl rfl]
def BD{K:mf}{f w:lZ}{q kV p o u n j:ma}{od i y:me lZ}{h x:Array (me ma)}{g:Nat}(l:K.lookup f=some #[q,od,.func<|fnOf "__init__" "Tracks.__init__" (Wz Y2) (Y1 Y2) (Zj Y2) (.ref w) kV p o i u n,h])(ld:K.lookup w=some #[j,y,.seq (List.toArray [.none]) g,x])(e:codeIn K u "Tracks.__init__"=true)(k:keepIn K (.ref f)=true):xX K "__init__" "Tracks.__init__" Y2 ["self","parts","joins","signals"] .non :=
 #[f,_,_,Le (st:=Y2) l e k,λs r KX z=>by
   rw[pO]at z ⊢;obtain⟨_,_,_,_,rfl⟩:=VA z;show CJ rfl (KX _ _ ld) rfl rfl rfl,.none,rfl,λs r KX z=>by
   have d:r.length=3:=by simpa using z
   obtain⟨_,_,_,rfl⟩:=MM d;show CJ rfl (KX _ _ ld) rfl rfl rfl]
def TN{K:mf}{C Y f z:lZ}{x nm qn:lY}{bs sub:lX ma}{sn:lX lY}{ab:Bool}{col:me Bool}{dd:me lZ}{k0 k1 k2 k3 k5:me ma}(lk:K.lookup C=some (excClassObj nm qn C z bs (.ref Y ::vV) true sn sub ab col dd k0 k1 k2 k3 k5 "ValueError.__new__"))(y:keepIn K (.ref C)=true)(w:findIn K (.ref C) "__init__"=some (some<|.ref f))(fn:PySem.W.typeIn K (.ref f)=some (.type "function"))(u:findIn K (.ref C) "__setattr__"=some (some<|.builtin "object.__setattr__"))(s:findIn K (.ref C) x=some none)(g:XG K C):XI K C Y f x:=#[#[_,_,_,_,_,_,_,_,_,_,_,_,_,_,lk],y,w,fn,u,g.xa,s]
def Qv(vs:Array ma)(p:lZ):Prop:=vs[11]? =some (.ref p)
def mL{K:mf}{fd:mq}{c p:lZ}{od:me lZ}{vs:Array ma}{z:Array (me ma)}(e:fd.code=.ref c)(_:K.lookup c=some #[.type "code",od,.fields vs,z])(_:Qv vs p)(h:PySem.W.codeHdIn K c p=true):uj K fd p:=#[c,e,h]
abbrev Tx.pts{K:mf}{mg:lY->me ma}(T:Tx K mg):lX lZ:=[T.bV,T.bt,T.ba,T.bW,T.bu,T.cw,T.bX,T.bd]
def tw{K:mf}{a:lZ}{od:me lZ}{z:Array (me ma)}{n:Nat}{y x:Tok}(h:K.lookup a=some #[.type "tuple",od,.seq (List.toArray [.str "" y,.str "" x]) n,z])(H:Hp):SqT K H a ([.str "",.str ""]:lX V):=.inr #[_,_,_,h,rfl,rfl,by simp[tR],.cons #[_,rfl]<|.cons #[_,rfl] .nil]
def mE{z:Type}{p:z->Prop}{a:z}(h:p a):∃x,p x:=#[a,h]
def fin{l:PySem.W.OpenLaw}{w:mj}{K:mf}{h:mi}{x:lY->me ma}{q f:lZ}{g kV o n u j:ma}{od i:me lZ}{d:Array (me ma)}(X:K.In h)(G:h.Ns mainGlobals x)(r:x "law"=some (.ref q))(T:Tx K x)(a:nsIn K mainGlobals "law"=some (some<|.ref f))(lk:K.lookup f=some #[g,od,.func<|fnOf "law" "law" (Wz vn) (Y1 vn) (Zj vn) .none kV o n i u j,d])(e:codeIn K u "law"=true)(k:keepIn K (.ref f)=true)(y:∀p∈T.pts,h.get? p=some (PySem.W.tabObj #[]))(c:T.pts.Nodup)(Y:PySem.W.noTabs K=true)
  :∃(fd:mq)(tabs:lX (lZ×Array ma)),CB K h tabs/\(∀(s:md)(v:ma),BindsTo s fd #[[v],[]] [("_law_script",v)])/\∀mM:mi,K.In mM->mM.Ns mainGlobals x->(∃U,mM.Ns sysModules U)->Xm l.prog w K x mM ph 14 q fd ["_law_script"] (yR K tabs):=by
 have e:=r.symm.trans<|mg_of X G a;cases e;show#[fnOf "law" "law" (Wz vn) (Y1 vn) (Zj vn) .none kV o n i u j,T.tabs,#[pP.mpr #[T.eN.imp λ_ z=>z.2,pP.mpr #[T.dY.imp λ_ z=>z.2,pP.mpr #[T.dZ.imp λ_ z=>z.2,pP.mpr #[T.eO.imp λ_ z=>z.2,pP.mpr #[T.ee.imp λ_ z=>z.2,pP.mpr #[T.fm.imp λ_ z=>z.2,pP.mpr #[T.eP.imp λ_ z=>z.2,pP.mpr #[T.eQ.imp λ_ z=>z.2,λ_ z=>nomatch z]]]]]]]],pP.mpr #[y T.bV (by simp[Tx.pts]),pP.mpr #[y T.bt (by simp[Tx.pts]),pP.mpr #[y T.ba (by simp[Tx.pts]),pP.mpr #[y T.bW (by simp[Tx.pts]),pP.mpr #[y T.bu (by simp[Tx.pts]),pP.mpr #[y T.cw (by simp[Tx.pts]),pP.mpr #[y T.bX (by simp[Tx.pts]),pP.mpr #[y T.bd (by simp[Tx.pts]),λ_ z=>nomatch z]]]]]]]],pP.mpr #[#[_,rfl,by lk],pP.mpr #[#[_,rfl,by lk],pP.mpr #[#[_,rfl,by lk],pP.mpr #[#[_,rfl,by lk],pP.mpr #[#[_,rfl,by lk],pP.mpr #[#[_,rfl,by lk],pP.mpr #[#[_,rfl,by lk],pP.mpr #[#[_,rfl,by lk],λ_ z=>nomatch z]]]]]]]],c,Y],λs v=>.of_eq rfl,λmM _ _=>WZ (FI (st:=vn) lk ‹_› k) T]
def uk{K:Params->mf}{as:lX lZ}{e:∀P,as=(K P).map (·.1)}{ts ps:lX lZ}{w:mj}{h:mi}(Y:(PySem.W.kmHook K as e ts).says w h)(i:(ps.all λp=>ts.contains p)=true:=by lk):∀p∈ps,h.get? p=some (PySem.W.tabObj #[]):=λp z =>
 PySem.W.km_tabs_of Y p (KL.mp<|wo.mp i p z)
def walk{l:PySem.W.OpenLaw}{q:mn}{o:lX lY}{n:(lY->me ma)->mi->Prop}{y:mj->mi->Prop}{d:DefRec}{K:Params->mf}(j:l.most=some 63)(r:d.params.defaults=[])
  (i:∀(w:mj)(h:mi),y w h->(K w.params).In h)
  (F:∀(w:mj)(z:lY->me ma)(p:lZ)(h:mi),y w h->(K w.params).In h->h.Ns mainGlobals z->z d.name=some (.ref p)->
   ∃(fd:mq)(tabs:lX (lZ×Array ma)),CB (K w.params) h tabs/\(∀(s:md)(u:ma),BindsTo s fd #[[u],[]] [("_law_script",u)])/\∀mM:mi,(K w.params).In mM->mM.Ns mainGlobals z->(∃g,mM.Ns sysModules g)->Xm l.prog w (K w.params) z mM ph 14 p fd ["_law_script"] (yR (K w.params) tabs)) (e:PyProof.Rows.importsNone q=true) :
  PySem.W.WalkO q o n y l.row.toRowW d [] (λf vs=>PySem.call f vs):=L2.walk_ofS (k:=14) (x :="_law_script") j r #[rfl,by lk,by lk,rfl] i F e
end K65
end
namespace PySem.W.Fast
def tw14210098105029979507:=True
lay_quick env_41 heap_1116 heap_39 heap_46 sts_101 sts_1068 sts_116 sts_131 sts_153 sts_175 sts_197 sts_212 sts_232 sts_291 sts_306 sts_335 sts_350 sts_393 sts_443 sts_49 sts_494 sts_556 sts_601 sts_649 sts_71 sts_727 sts_757 sts_86 sts_985 tree_100 tree_1067 tree_1115 tree_115 tree_130 tree_152 tree_174 tree_196 tree_211 tree_231 tree_290 tree_305 tree_334 tree_349 tree_392 tree_442 tree_47 tree_493 tree_555 tree_600 tree_648 tree_70 tree_726 tree_756 tree_85 tree_896 tree_981 view_39
end PySem.W.Fast
open PySem PySem.W PyProof.Rows L2 K65
set_option maxRecDepth 100000 in
set_option maxHeartbeats 0 in
theorem PySem.Challenge.cw_yardkeep_k63_points_turned_holds : PySem.Challenge.rw_yardkeep_k63_points_turned.Holds := by
  w_on; o_law; k_head; (case hw=>w_witness2)
  k_fill
  refine K65.walk (l:=PySem.Challenge.rw_yardkeep_k63_points_turned) rfl rfl (fun w h Y=>km_in_of Y) ?F ?Qz
  case Qz=>kernel_rfl
  case F=>
   intro w mg fa h Y X G hm
   have g:=fun{n v}=>@mg_of _ _ mg n v X G
   have n:=fun{n}=>@mg_none_of _ _ mg n X G
   refine' K65.fin X G hm ?T ?_ ?_ ?_ ?_ ?tm ?tn ?tq
   case' T=>apply Tx.mk
   all_goals try first|refine' mR ?_ ?_ ?_ ?_|refine' ⟨mR ?_ ?_ ?_ ?_,g ?_⟩|refine' CF ?_ ?_ ?_ ?_|refine' BD ?_ ?_ ?_ ?_
   all_goals try (intro _ _ _ _ _ _ u;rfl)
   all_goals try (refine g ?_;k_is)
   all_goals try (refine n ?_;k_is)
   all_goals try refine' mE (g ?_)
   all_goals try refine' um (g ?_) ?_
   all_goals try refine' TN ?_ ?_ ?_ ?_ ?_ ?_ ?_
   all_goals try refine' mL ?_ ?_ ?_ ?_
   all_goals try refine' tw ?_
   all_goals try k_is
   all_goals try (refine ⟨?_,?_,?_,?_⟩<;>(try dsimp only [mR,CF,BD])<;>k_is)
   all_goals try (refine ⟨?_,?_,?_⟩<;>(try dsimp only [mR,CF,BD])<;>k_is)
   all_goals try dsimp only [mR,CF,BD,nq,kB,cB]
   all_goals try k_is
   all_goals try kit_is
   all_goals try k_exc
   all_goals try (refine ⟨⟨?_,?_,?_⟩,?_,?_,?_,?_,?_⟩<;>first|k_is|(show isClsIn _ _=true;k_is))
   all_goals try k_is
   all_goals try (delta Qv;rfl)
   all_goals try first|kernel_rfl|rfl
   case tm=>dsimp only [Tx.pts];exact uk Y
   case tn=>dsimp only [Tx.pts];decide
