import PyProof.Rows.All
import Wide.All
import OpenK.AllK
import PySem.Challenge.RW_yardkeep_k66_whole_keeper
set_option Elab.async false
set_option linter.all false
set_option maxRecDepth 100000
set_option maxHeartbeats 4000000
open PySem.W (Frag kitOne keepIn findIn nsIn mg_of fnOf codeIn)
set_option compiler.extract_closed false
set_option genSizeOf false
set_option hygiene false
local macro_rules|`(tactic|and_intros)=>`(tactic|first|exact .inl rfl|exact .inr rfl|exact .inr (.inl rfl)|exact .inr (.inr rfl)|assumption|repeat first|exact trivial|refine ⟨rfl,?_⟩|refine ⟨⟨_,rfl,rfl,rfl⟩,?_⟩)
local macro_rules|`(tactic|bv_omega)=>`(tactic|(rintro _ _ _ _ ⟨⟩<;>subst_vars<;>first|rfl|(rename_i h;cases h;subst_vars;rfl)))
local macro_rules|`(tactic|subst_eqs)=>`(tactic|first|exact λ_ _ q=>q|(intro b o q;rw[Zd (Zf q<|by assumption)];exact q))
set_option hygiene true
set_option hygiene false
local macro_rules|`(∅)=>`(wpAny (model X.prog X.w) X.A)
local macro_rules|`(~~~$x)=>`(($x :mF)++".<locals>."++"<lambda>")
local macro_rules|`(tactic|rfl')=>`(tactic|intro c8 A nG s H vs Q E hr h)
set_option hygiene true
local macro_rules|`(tactic|lk)=>`(tactic|decide)
local macro_rules|`(tactic|left)=>`(tactic|decide +kernel)
open Lean in
local macro_rules|`(lay_quick $i*)=>do
 let g s:=mkIdent (.mkSimple s!"tw{(Name.str `PySem.Challenge.cw_yardkeep_k66_whole_keeper_holds s).hash}")
 return mkNullNode (<-(i.map (g ·.getId.toString)++(Array.range 1094).map fun k=>g s!"o_{k+43}").mapM fun x=>`(def $x :=True))
local macro_rules(kind:=Lean.Parser.Command.declaration)|x=>do
 if x.getPos?.isNone then Lean.Macro.throwUnsupported
 let n<-`(noncomputable def a:=1)
 return (if [`Lean.Parser.Command.definition,`Lean.Parser.Command.abbrev].contains x[1].getKind&&x[0].getArgs.all (·.isNone) then x.setArg 0 n.raw[0] else x).rewriteBottomUp (·.setInfo .none)
set_option bootstrap.genMatcherCode false
abbrev mD:=@List
abbrev mF:=PySem.Str
abbrev mG:=PySem.Addr
abbrev mH:=PySem.Value
abbrev mI:=PySem.Shared
abbrev mJ:=@Option
abbrev mK:=PySem.W.Frag
abbrev mM:=PySem.Stmt
abbrev mO:=PySem.Heap
abbrev mP:=PySem.World
abbrev mQ:=PySem.Expr
abbrev mS:=PySem.Program
abbrev mT:=PySem.Around
abbrev mU:=PySem.FuncData
def nQ:=@List.length_map
def oH:=@PySem.Heap.get?_push_of_some
def nW:=@PySem.wpAny_bind
def oN:=@Option.map_eq_some_iff
def oy:=@List.map_append
def oF:=@List.getElem?_map
def oh:=@List.mem_map
def oP:=@List.length_append
def oz:=@PySem.Paired.length
def oq:=@Nat.le_refl
def ou:=@PySem.wpAny_pure
def pJ:=@List.getElem?_eq_getElem
def pT:=@List.getElem?_eq_some_iff
def oO:=@decide_eq_true
def oW:=@List.take_add_one
def oM:=@List.mem_cons
def pi:=@Bool.false_ne_true
def oJ:=@PySem.Heap.lt_size
def pp:=@PySem.Heap.get?_push_size
def ph:=@List.size_toArray
def oZ:=@List.length_take
def pV:=@List.mem_cons_of_mem
def pA:=@of_decide_eq_true
def pK:=@List.mem_cons_self
def pj:=@decide_eq_false
def oR:=@List.map_cons
def ow:=@PyProof.Rows.wpS_bind
def qf:=@List.mem_of_getElem?
def qI:=@PySem.Str.length_append
def oQ:=@Nat.ne_of_lt
def oU:=@Nat.le_trans
def pC:=@List.mem_append
def nY:=@if_neg
def pI:=@Option.some.inj
def pQ:=@List.take_length
def oE:=@PyProof.Rows.wpS_pure
def og:=@if_pos
def qg:=@List.append_assoc
def qB:=@Nat.lt_of_lt_of_le
def qr:=@List.length_cons
def tw:=@PyProof.Rows.boot_isinstance
def qG:=@List.mem_singleton
def qo:=@PySem.PassesOwn.never
def qZ:=@Int.emod_lt_of_pos
def rN:=@List.mem_append_right
def rF:=@List.forall_mem_cons
def ub:=@List.getD_eq_getElem?_getD
def qM:=@List.append_nil
def qU:=@List.nodup_cons
def qT:=@Int.emod_nonneg
def qj:=@List.map_map
def rB:=@Bool.and_eq_true
def tX:=@List.take_of_length_le
def qm:=@Nat.le_of_lt
def rO:=@List.nodup_append
def qW:=@List.Perm.refl
def tO:=@PySem.mem_of_lookup
def uM:=@PySem.Heap.get?_update_other
def uc:=@beq_eq_false_iff_ne
def tT:=@Bool.false_eq_true
def ut:=@Array.length_toList
def wU:=@List.getElem?_append_right
def wP:=@PySem.F.excBase_ValueError
def tJ:=@List.filter_cons
def tP:=@List.lookup_cons
def tZ:=@Array.getElem_mem
def sK:=@PySem.W.kia_one
def rJ:=@PySem.wpAny_holding
def ww:=@PySem.F.plainAttrs_dict
def vX:=@PySem.F.plainAttrs_list
def xq:=@List.getElem?_append_left
def wb:=@PySem.Calls.callWith_builtin
def tV:=@List.not_mem_nil
def yj:=@PyProof.Rows.callWith_type1
def tL:=@Bool.eq_iff_iff
def uQ:=@PySem.wpAny_Call_Name_kw
def wu:=@Array.getElem?_toList
def vP:=@List.getElem?_eq_none
def wj:=@List.take_append_drop
def pO:=@congrArg
def sr:=@Nat.lt_irrefl
def ve:=@Array.toList_append
def uD:=@List.mem_flatMap
def qQ:=@PySem.wpAny_mono
def yq:=@List.extract_eq_take_drop
def wc:=@List.length_dropLast
def vw:=@List.filter_append
def yn:=@PyProof.Rows.boot_sorted
def ul:=@List.of_mem_zip
def wI:=@List.flatMap_append
def wM:=@List.perm_append_comm
def xu:=@PyProof.Rows.boot_str
def vj:=@PySem.wpAny_truthy_bool
def pH:=@Ne.symm
def wD:=@PySem.Calls.spliced_cons
def uN:=@List.mem_filter
def uv:=@PySem.Heap.size_push
def zv:=@List.drop_eq_getElem_cons
def vO:=@List.mem_nil_iff
def wS:=@List.length_reverse
def rD:=@True.intro
def yI:=@List.length_filter_le
def tM:=@PyProof.Rows.wpS_forRange
def sF:=@Nat.le_succ
def xb:=@PySem.F.called_set
def xQ:=@Array.toList_extract
def Ab:=@PyProof.Rows.boot_dict
def sY:=@Nat.zero_le
def xC:=@PySem.wpAny_newObj_type
def yE:=@List.length_pos_iff
def Bv:=@List.getLast?_eq_getElem?
def Az:=@Classical.byContradiction
def sI:=@beq_iff_eq
def xx:=@List.all_eq_true
def zC:=@List.mem_append_left
def zU:=@PySem.Calls.evalArgs_plain
def BJ:=@List.length_eq_zero_iff
def uS:=@PySem.codeAny_mono
def EI:=@PyProof.Rows.slot_tuple_getitem
def vd:=@Nat.lt_trans
def Je:=@PyProof.Rows.F.plain_set_update_loop
def yH:=@PySem.wpAny_pyIter_list
def yC:=@PySem.Calls.spliced_nil
def uh:=@PySem.sizeLine_eq
def zX:=@PySem.W.KT.app_list
def BU:=@PyProof.Rows.boot_repr
def Df:=@Array.getElem?_eq_some_iff
def xY:=@List.length_drop
def yw:=@Nat.succ_le_succ
def Bx:=@List.length_singleton
def vq:=@List.map_nil
def Ag:=@PySem.tupleKind_room_in1
def vp:=@PySem.call_meetsIn
def yW:=@PySem.Code.quiet_builtin
def vU:=@List.map_take
def rC:=@or_false
def wL:=@List.nodup_nil
def At:=@PySem.Heap.get?_none_of_le
def AM:=@Array.mem_toList_iff
def Bq:=@PySem.W.looks_findIn
def rX:=@if_false
def AC:=@PySem.codeAny_call_builtin
def AQ:=@List.mem_of_mem_take
def BA:=@List.getElem?_of_mem
def xW:=@PySem.wpAny_passesOwn
def zw:=@decide_eq_true_eq
def EQ:=@PySem.F.slot_dict_values
def Dz:=@PySem.F.slot_list_getattribute
def zx:=@List.foldl_append
def za:=@List.reverse_cons
def xX:=@List.filter_nil
def Cn:=@PySem.wpAny_getItem_str_slice
def CU:=@PySem.wpAny_Call_method0_late
def BQ:=@Option.some_ne_none
def Ca:=@List.getElem_of_mem
def DS:=@List.eraseIdx_cons_succ
def BL:=@PySem.F.slot_list_pop
def uU:=@PySem.wpAny_call
def Eu:=@PyProof.Rows.boot_list
def DK:=@List.Perm.append_right
def Db:=@List.getElem?_dropLast
def AY:=@PySem.W.callWith_K
def Jf:=@List.dropLast_concat_getLast
def wV:=@Nat.ne_of_gt
def zj:=@List.find?_cons
def En:=@PySem.F.slot_dict_pop
def CN:=@PySem.Heap.get?_update_self
def Cw:=@PySem.Obj.isFreed_of_fields
def zF:=@PySem.codeAny_builtin
def Dk:=@List.Perm.append_left
def Ae:=@List.range_succ
def As:=@List.flatMap_cons
def Ay:=@Int.toNat_natCast
def yL:=@List.any_cons
def AW:=@PySem.wpAny_loadPart_at
def AL:=@Nat.lt_succ_of_lt
def vm:=@PySem.wpAny_rule
def BZ:=@List.length_range
def Cu:=@PySem.Around.under_plainId
def yS:=@List.mem_range
def Hk:=@PySem.Calls.call_function_entry
def Mt:=@PyProof.Rows.F.entry_set_update_loop
def Hr:=@List.getLast?_eq_some_iff
def AN:=@Nat.lt_succ_self
def Ce:=@beq_self_eq_true
def tQ:=@PyProof.Rows.wpS_mono
def CF:=@PySem.evalArgs_none
def Cv:=@PySem.BindsTo.of_defaults
def yt:=@Nat.le_of_eq
def Gu:=@Option.isSome_iff_exists
def Av:=@List.cons.injEq
def Cm:=@PySem.W.of_hideAll
def Cj:=@PySem.wpAny_execs_nil
def EE:=@List.mem_filterMap
def FD:=@List.getElem?_replicate
def Cq:=@PySem.Obj.data_mapFields
def Ad:=@Prod.mk.injEq
def Iw:=@PySem.F.slot_dict_clear
def IJ:=@List.getElem?_set_self
def IU:=@PySem.W.cellsFrom_some
def OH:=@PySem.plainObj_wpAny_Assign_Attribute
def Eg:=@List.take_sublist
def yi:=@PySem.wpAny_field
def xr:=@PySem.call_meets
def MG:=@List.eraseIdxIfInBounds_toArray
def DM:=@PySem.wpAny_Call_method
def Ei:=@bne_self_eq_false
def NG:=@Array.getElem?_setIfInBounds_ne
def Do:=@List.reverse_perm
def BC:=@List.Perm.swap
def Fs:=@PySem.W.methodCall_KW
def JP:=@PyProof.Rows.callWith_builtin1
def Il:=@PySem.F.slot_dict_get
def zL:=@Nat.lt_or_ge
def Gc:=@PySem.wpAny_notOrdered_dict
def Ie:=@PySem.F.type_list_pop
def HZ:=@PyProof.Rows.boot_int
def Dj:=@PySem.wpAny_eqBool_str
def DU:=@PySem.wpAny_execs_cons
def tY:=@if_true
def ER:=@PySem.wpAny_call_entry
def Ea:=@decide_eq_decide
def Dt:=@List.nil_sublist
def HS:=@List.getElem?_set_ne
def HK:=@PySem.SeqAt.EqAt.bool_bool
def FF:=@PySem.F.slot_dict_update
def Hu:=@Array.toList_reverse
def IZ:=@List.mem_of_mem_drop
def Fh:=@List.getLast?_append
def Bt:=@PySem.wpAny_standAt
def Cd:=@List.map_drop
def xL:=@PySem.typeIs_str
def zR:=@Sum.inr.inj
def Gx:=@PySem.W.hideAll_get
def IM:=@List.filterMap_cons
def EY:=@PySem.W.plainGet_of
def FP:=@PySem.W.looks_clsIn
def CY:=@PySem.SeqAt.EqAt.same
def CI:=@PySem.post_val_or_str
def DF:=@Bool.or_eq_true
def Hv:=@PySem.W.codeHd_of_K
def Em:=@List.Perm.trans
def Gr:=@List.map_congr_left
def Gy:=@List.filter_sublist
def GY:=@List.map_eq_nil_iff
def Go:=@Nat.mul_le_mul_left
def Pr:=@PySem.Calls.Name_function_global
def Rf:=@PySem.wpAny_newFunctionEnv_cells
def MX:=@PySem.F.args_dict_values_1
def QR:=@Array.toList_setIfInBounds
def QY:=@Array.perm_iff_toList_perm
def Bj:=@PySem.wpAny_typeOf
def Ig:=@Nat.lt_of_le_of_lt
def FH:=@Option.isNone_none
def Jd:=@Nat.add_sub_cancel
def OT:=@PySem.F.slot_dict_delitem
def Sl:=@PySem.F.entry_dict_values
def DW:=@PySem.boot_len
def GG:=@PySem.slot_list_getitem
def NP:=@PySem.wpAny_getItem_list_slice
def Fm:=@Option.isSome_map
def LX:=@PySem.F.type_dict_values
def Mu:=@PySem.F.args_tuple_add_2
def Gq:=@Array.toList_push
def Ou:=@List.sublist_append_left
def LQ:=@PySem.F.args_dict_pop_3
def No:=@PySem.F.args_dict_get_3
def Lr:=@PySem.F.slot_dict_items
def Mw:=@PySem.F.attr_ValueError
def Nu:=@decide_eq_false_iff_not
def Bg:=@List.not_lt
def KI:=@PySem.F.entry_tuple_add
def vi:=@PyProof.Rows.wpS_get
def Qc:=@PyProof.Rows.boot_tuple
def CO:=@Int.ofNat.inj
def Pa:=@PySem.F.type_dict_clear
def HN:=@List.drop_length
def Fx:=@PySem.W.kat_cons
def Jg:=@List.map_reverse
def FV:=@List.map_flatMap
def Fo:=@List.Sublist.map
def Ra:=@PySem.F.entry_dict_pop
def Kw:=@PySem.F.entry_dict_get
def Kt:=@PySem.W.funFrames_hide
def Ky:=@PySem.F.slot_tuple_add
def Mi:=@PySem.F.slot_list_reverse
def IN:=@List.nil_append
def Qp:=@Bool.and_eq_false_iff
def QT:=@List.length_replicate
def Oi:=@PySem.F.slot_list_append
def Lb:=@PySem.F.slot_list_extend
def Jn:=@List.length_nil
def QC:=@PySem.F.type_dict_pop
def Ek:=@PySem.Txt.slice_le
def Kj:=@List.mem_iff_getElem?
def Gm:=@PySem.codeAny_of_tree
def OG:=@List.getElem?_toArray
def EA:=@Nat.add_zero
def Nv:=@List.Pairwise.sublist
def Of:=@List.contains_iff_mem
def Nn:=@List.getElem?_reverse
def IV:=@PySem.W.kat_yes
def JL:=@PySem.F.slot_tuple_lt
def Ob:=@PySem.F.plain_set_new
def Lf:=@PySem.F.slot_list_insert
def Ph:=@PyProof.Rows.boot_min
def PQ:=@PyProof.Rows.boot_max
def Gw:=@List.sum_append
def Ga:=@List.filter_map
def Bp:=@PySem.Walks.list
def Aq:=@PyProof.Rows.wpS_modify
def yJ:=@PyProof.Rows.wpS_lift
def Qj:=@PySem.W.hideAll_none
def Sh:=@PySem.W.KatTups.cons
def Nk:=@Nat.mul_le_mul_right
def FN:=@PySem.wpAny_loadPart
def Hy:=@PySem.wpAny_setField
def Jp:=@List.drop_zero
def GR:=@PySem.W.kat_go
def Jr:=@PySem.W.kat_no
def Sx:=@PySem.W.findObj_own
def Eo:=@PySem.Paired.snoc
def PD:=@PySem.W.KeqHits.hit
def MP:=@PySem.W.looks_mroIn
def SC:=@List.take_succ_cons
def MY:=@List.filter_eq_self
def Ol:=@PySem.W.KatTups.nil
def Qm:=@List.mem_map_of_mem
def Sz:=@PySem.W.codeRec_of
def Jc:=@List.all_cons
def FY:=@Bool.false_or
def LG:=@PySem.W.check_slot
def GQ:=@List.take_add
def Nt:=@Array.size_extract
def IQ:=@Bool.not_true
def HI:=@List.take_nil
def GC:=@Nat.zero_add
def Ji:=@getElem?_pos
def zP:=@Or.inl
def Am:=@Or.inr
def Af:=@not_or
open Prod(fst snd)
section
local macro_rules|`(tactic|show $t)=>`(tactic|exact $t)
local macro_rules|`(#v[$a])=>`(($a).heap.objs.size)
local macro_rules|`(#[$a])=>`(⟨$a⟩)|`(#[$a,$b,*])=>`(⟨$a,$b,*⟩)
namespace L2
open PySem PySem.Spec PyProof.Rows
abbrev om:=Sum Int mF
def xy:om->mH->Bool
 | .inl k,v=>Value.isInt k v
 | .inr x,v=>Value.isStrOf x v
def Yj1(w:mP):om->Int
 | .inl k=>hashInt k
 | .inr x=>hashStr w x
theorem Xe:∀{k:om}{v:mH},xy k v=true->(∃i t,k=Sum.inl i/\v=Value.int i t)\/(∃x t,k=Sum.inr x/\v=Value.str x t)
 | .inl i,v,h=>by
  obtain⟨t,e⟩:=Value.isInt_shape (k:=i) (v:=v) h;show .inl #[i,t,rfl,e]
 | .inr x,v,h=>by
  obtain⟨t,e⟩:=Value.isStrOf_shape (x:=x) (v:=v) h;show .inr #[x,t,rfl,e]
def Zyq(i:Int)(t:Tok):xy (.inl i) (.int i t)=true:=by simp[xy,Value.isInt]
def Zxw(x:mF)(t:Tok):xy (.inr x) (.str x t)=true:=by simp[xy,Value.isStrOf]
def Yg4(a b:Int):decide ((Sum.inl a:om)=Sum.inl b)=(a ==b):=by
 by_cases e:a=b
 ·subst e;simp
 ·have h:¬(Sum.inl a:om)=Sum.inl b:=λq=>e<|Sum.inl.inj q
  rw[pj h];show(uc.mpr e).symm
def Ygf(a b:mF):decide ((Sum.inr a:om)=Sum.inr b)=decide (a=b):=by
 by_cases e:a=b
 ·subst e;simp
 ·have h:¬(Sum.inr a:om)=Sum.inr b:=λq=>e<|zR q
  rw[pj h,pj e]
def ZC(a:Int)(b:mF):decide ((Sum.inl a:om)=Sum.inr b)=false:=pj (λq=>nomatch q)
def TH(a:mF)(b:Int):decide ((Sum.inr a:om)=Sum.inl b)=false:=pj (λq=>nomatch q)
def Zz(prog:mS)(w:mP):PySem.KeyKind prog w om where
 is:=xy
 hash:=Yj1 w
 inj:=λv a b p q=>by
  rcases Xe p with⟨i,t,rfl,rfl⟩|⟨x,t,rfl,rfl⟩
  ·rcases Xe q with⟨j,u,rfl,e⟩|⟨y,u,rfl,e⟩
   ·injection e with s _;rw[s]
   ·show nomatch e
  ·rcases Xe q with⟨j,u,rfl,e⟩|⟨y,u,rfl,e⟩
   ·show nomatch e
   ·injection e with s _;rw[s]
 byValue:=λk v h=>by
  rcases Xe h with⟨i,t,rfl,rfl⟩|⟨x,t,rfl,rfl⟩<;>rfl
 pyHash:=λr h=>by
  rcases Xe r with⟨i,t,rfl,rfl⟩|⟨x,t,rfl,rfl⟩
  ·show wpAny_pyHash_int h
  ·show wpAny_pyHash_str h
 eqBool:=λo r h=>by
  rcases Xe o with⟨i,t,rfl,rfl⟩|⟨x,t,rfl,rfl⟩
  ·rcases Xe r with⟨j,u,rfl,rfl⟩|⟨y,u,rfl,rfl⟩
   ·rw[Yg4]at h;show wpAny_eqBool_int h
   ·rw[ZC]at h;show SeqAt.EqAt.int_str i t y u _ _ _ _ h
  ·rcases Xe r with⟨j,u,rfl,rfl⟩|⟨y,u,rfl,rfl⟩
   ·rw[TH]at h;show SeqAt.EqAt.str_int x t j u _ _ _ _ h
   ·rw[Ygf]at h;show Dj h
 «strs» :=λk x t v h=>by
  rcases Xe h with⟨i,u,rfl,e⟩|⟨y,u,rfl,e⟩
  ·show nomatch e
  ·injection e with s _
   subst s;cases v<;>rfl
def Zty(prog:mS)(w:mP)(i:Int)(t:Tok):(Zz prog w).is (.inl i) (.int i t)=true:=Zyq i t
def TW(prog:mS)(w:mP)(x:mF)(t:Tok):(Zz prog w).is (.inr x) (.str x t)=true:=Zxw x t
inductive V where
 | non|bl (b:Bool)|int (i:Int)|str (x:Str)|byt (b:Array UInt8)|flt (b:UInt64)|ref (a:Addr)|ty (n:String)
 deriving DecidableEq
def Yc:V->mH->Prop
 | .non,u=>u=Value.none
 | .bl b,u=>u=Value.bool b
 | .int i,u=>∃t,u=Value.int i t
 | .str x,u=>∃t,u=Value.str x t
 | .byt b,u=>∃t,u=Value.bytes b t
 | .flt b,u=>∃t,u=Value.float b t
 | .ref a,u=>u=Value.ref a
 | .ty n,u=>u=Value.type n
abbrev Z8:mD V->mD mH->Prop:=Paired Yc
def Z8.length(r:Z8 xs us):xs.length=us.length:=oz r
theorem Z8.get:∀{xs:mD V}{us:mD mH}{i:Nat}{x:V},Z8 xs us->xs[i]? =some x->∃u,us[i]? =some u/\Yc x u
 | _,_,_,_,.nil,e=>by simp at e
 | _,_,0,_,.cons r _,e=>by simp at e;subst e;show#[_,rfl,r]
 | _,_,i+1,x,.cons _ t,e=>by
  obtain⟨u,y,w⟩:=Z8.get (i:=i) (x:=x) t (by simpa using e);show#[u,by simpa using y,w]
def Z8.append{xs y:mD V}{us x:mD mH}(h:Z8 xs us)(s:Z8 y x):Z8 (xs++y) (us++x):=by
 induction h with
 | nil=>show s
 | cons r _ t=>show .cons r t
theorem Z8.take:∀{xs:mD V}{us:mD mH}(n:Nat),Z8 xs us->Z8 (xs.take n) (us.take n)
 | _,_,0,_=>.nil
 | _,_,_+1,.nil=>.nil
 | _,_,n+1,.cons r t=>.cons r<|Z8.take n t
theorem Z8.drop:∀{xs:mD V}{us:mD mH}(n:Nat),Z8 xs us->Z8 (xs.drop n) (us.drop n)
 | _,_,0,r=>r
 | _,_,_+1,.nil=>.nil
 | _,_,n+1,.cons _ t=>Z8.drop n t
def qN:mJ V->mJ mH->Prop
 | some v,some u=>Yc v u
 | none,none=>True
 | _,_=>False
def KV{y:Type}:mD (y×V)->mD (y×mH)->Prop:=Paired λ(p:y×V) (q:y×mH)=>p.1=q.1/\Yc p.2 q.2
def kV:om->V
 | .inl i=>.int i
 | .inr x=>.str x
inductive HO where
  | lst (xs:List V)
  | tup (xs:List V)
  | dK (kvs:List (om×V))|dT (kvs:List (List om×V))
  | set (S:Int->Bool) (n:Nat)
  | ins (C dx:Addr) (fs:List (Str×V))
  | own (x:Addr)
  | xd (fs:List (Str×V))
  | met (f x:Addr)
  | rng (lo hi:Int)
  | frz (o:Obj) (u:HO)
  | tbl (ps:Array Value)
  | ext (φ:Heap->Prop)
abbrev Hp:=mG->mJ HO
def nO(H:Hp)(a:mG)(o:HO):Hp:=λb=>if b=a then some o else H b
def Zc :nO H a o a=some o:=by unfold nO;rw[og rfl]
def Zd(h:b≠a):nO H a o b=H b:=by unfold nO;rw[nY h]
def Ih :nO (nO H a o) a u=nO H a u:=by
 funext b;unfold nO;split<;>rfl
def Qq{H:Hp}{a b:mG}{o u:HO}(h:H a=some o)(h':H b=some u)(d:o≠u):a≠b:=by
 intro e;subst e;rw[h]at h';show d<|pI h'
def Zf{H:Hp}{a b:mG}{o:HO}(h:H a=some o)(h':H b=none):a≠b:=by
 intro e;subst e;rw[h]at h';cases h'
def GP(y:Obj)(c x:mG):Prop:=∀h:mO,h.get? c=some y->PySem.W.CodeHd h c x
def Wb(y:mD (Nat×Nat×mF)):Array mH:=(y.flatMap λp=>[rawInt p.1,rawInt p.2.1,.str p.2.2 0]).toArray
def sy(fs:mD (Nat×Nat×mF×mG)):Array mH:=(fs.flatMap λf=>[rawInt f.1,rawInt f.2.1,.ref f.2.2.2]).toArray
def Kc{m n:Nat}(h:rawInt m=rawInt n):m=n:=by
 unfold rawInt at h
 injection h with h
 lia
def WG:∀{x y:mD (Nat×Nat×mF)},Wb x=Wb y->x=y:=by
 intro x y h;have h:(x.flatMap λp=>[rawInt p.1,rawInt p.2.1,Value.str p.2.2 0])=y.flatMap λp=>[rawInt p.1,rawInt p.2.1,Value.str p.2.2 0]:=by
  unfold Wb at h;simpa using h
 induction x generalizing y with
 | nil=>cases y with
  | nil=>rfl
  | cons m r=>simp at h
 | cons l r u=>cases y with
  | nil=>simp at h
  | cons m s =>
   simp only[As,List.cons_append,IN,Av]at h;obtain⟨q,o,n,w⟩:=h;obtain⟨j,i,g⟩:=l;obtain⟨e,d,c⟩:=m;have a:j=e:=Kc q;have Y:i=d:=Kc o;have U:g=c:=by injection n
   have Q:r=s:=by first|show u (pO List.toArray w) w|show u<|pO List.toArray w
   rw[a,Y,U,Q]
theorem Ydx:∀{y:mD (Nat×Nat×mF)},Wb y≠ (List.toArray [Value.none])
 | [],h=>by simp[Wb]at h
 | _ ::_,h=>by simp[Wb]at h
theorem Ja:∀fs:mD (Nat×Nat×mF×mG),TriplesOk (sy fs).toList
 | []=>trivial
 | f ::fs=>by
  have:=Ja fs;unfold sy at this ⊢;simpa[TriplesOk,rawInt]using this
theorem Pe :∀{fs:mD (Nat×Nat×mF×mG)},codeAmong pos (sy fs).toList=some cv->∃f∈fs,cv=.ref f.2.2.2/\f.1=pos.line/\f.2.1=pos.col
 | [],h=>by simp[sy,codeAmong]at h
 | f ::fs,h=>by
  have e:(sy<|f ::fs).toList=rawInt f.1 ::rawInt f.2.1 ::Value.ref f.2.2.2 ::(sy fs).toList:=by simp[sy]
  rw[e]at h;have h:(if((f.1:Int) ==(pos.line:Int) && (f.2.1:Int) ==(pos.col:Int))=true then some (Value.ref f.2.2.2)else codeAmong pos (sy fs).toList)=some cv:=h;split at h
  ·rename_i z;simp only[rB,sI]at z;show#[f,pK,(pI h).symm,by lia,by lia]
  ·obtain⟨g,y,r⟩:=Pe h;show#[g,pV _ y,r]
def Zxl(fs:mD (Nat×Nat×mF×mG))(f:Nat×Nat×mF×mG):sy (fs++[f])=sy fs++ (List.toArray [rawInt f.1,rawInt f.2.1,.ref f.2.2.2]):=by
 unfold sy;simp
section
variable (P:mS) (w:mP)
def Z9(H:Hp)(h:mO)(a:mG):HO->Prop
 | .lst r=>r.length<=sizeLine/\∃(j:mD mH)(n:Nat),Z8 r j/\h.get? a=some {cls:=.type "list",data:=.seq j.toArray n}
 | .tup r=>r.length<=sizeLine/\∃j:mD mH,Z8 r j/\IsTup h a j.toArray
 | .dK s=>s.length<=sizeLine/\(a ==sysModules)=false/\∃i,KV s i/\h.DictOf (Zz P w) a i
 | .dT s=>s.length<=sizeLine/\(a ==sysModules)=false/\∃r:mD (mD om×mG×mH),
   Paired (λ(p:mD om×V) (q:mD om×mG×mH)=>p.1=q.1/\H q.2.1=some (.tup<|p.1.map kV)/\Yc p.2 q.2.2) s r/\
   ∃o y x,h.get? a=some o/\o.ExactDict/\o.data=.dict y x/\y.toList=r.map (entryOfKey<|tupleKind<|Zz P w)/\(r.map (·.1)).Nodup
 | .set S n=>h.SetOf (intKind P w) a S n
 | .ins C y fs=>H y=some (.own a)/\fs.length<=1000/\y≠a/\h.get? a=some (PySem.W.instObj C y)/\
   ∃l,h.Ns1 y l/\(∀f,qN (fs.lookup f)<|l f)/\PySem.Within l (fs.map (·.1))
 | .own _=>∃o,h.get? a=some o
 | .xd fs=>∃l,h.Ns1 a l/\∀f,qN (fs.lookup f) (l f)
 | .rng lo y=>∃t u v,h.get? a=some {cls:=.type "range",data:=.fields (List.toArray [.int lo t,.int y u,.int 1 v])}
 | .frz o u=>h.get? a=some o/\Z9 H h a u
 | .tbl g=>∃y:Array mH,h.get? a=some {cls:=.none,data:=.fields y}/\(g=(List.toArray [.none])/\TriplesOk y.toList\/∃(x:mD (Nat×Nat×mF)) (fs:mD (Nat×Nat×mF×mG)),g=Wb x/\(x.map λp=>(p.1,p.2.1)).Nodup/\y=sy fs/\
   ∀f∈fs,((f.1,f.2.1,f.2.2.1):Nat×Nat×mF)∈x/\∃(q:Obj)(i:Array mH)(d:Nat)(e:mG),H f.2.2.2=some (.frz q<|.own a)/\q.data=.fields i/\i[1]? =some (.str f.2.2.1 d)/\H e=some (.tbl<|List.toArray [.none])/\GP q f.2.2.2 e)
 | .met f x=>h.get? a=some (PySem.W.methodObj (.ref f)<|.ref x)
 | .ext y=>y h/\(∃o,h.get? a=some o)/\∀x q:mO,y x->(∀o,x.get? a=some o->q.get? a=some o)->y q
def pe(H:Hp)(h:mO):Prop:=∀a o,H a=some o->Z9 P w H h a o
end
section
def Z9.lt(x:Z9 P w H h a o):a<h.objs.size:=by
 cases o with
 | lst r=>obtain⟨_,_,_,_,e⟩:=x;show oJ e
 | tup r=>obtain⟨_,_,_,p⟩:=x;show p.lt
 | dK s=>obtain⟨_,_,_,_,o,_,_,e,_⟩:=x;show oJ e
 | dT s=>obtain⟨_,_,_,_,o,_,_,e,_⟩:=x;show oJ e
 | set S n=>obtain⟨o,_,_,_,e,_⟩:=x;show oJ e
 | ins C y fs=>obtain⟨_,_,_,e,_⟩:=x;show oJ e
 | own u=>obtain⟨_,e⟩:=x;show oJ e
 | xd fs=>obtain⟨_,⟨_,_,_,e,_⟩,_⟩:=x;show oJ e
 | rng lo y=>obtain⟨_,_,_,e⟩:=x;show oJ e
 | frz q y=>obtain⟨e,_⟩:=x;show oJ e
 | tbl y =>
  obtain⟨_,e,_⟩:=x;show oJ e
 | met f u=>show oJ (show h.get? a=some _ from x)
 | ext y=>obtain⟨_,⟨_,e⟩,_⟩:=x;show oJ e
def Paired.mapP{y x:Type}{F G:y->x->Prop}{l₁:mD y}{l₂:mD x}(h:Paired F l₁ l₂)(f:∀a b,F a b->G a b):Paired G l₁ l₂:=by
 induction h with
 | nil=>show .nil
 | cons r _ t=>show .cons (f _ _ r) t
def Z9.stay(x:Z9 P w H h a o)(k:∀b u,(b=a\/H b=some (.own a))->h.get? b=some u->h'.get? b=some u)
  (J:∀b,H b=some (.own a)->g b=some (.own a)) (I:∀b xs,H b=some (.tup xs)->g b=some (.tup xs))
  (G:∀b o,H b=some (.frz o<|.own a)->g b=some (.frz o<|.own a):=by subst_eqs)
  (E:∀b ps,H b=some (.tbl ps)->g b=some (.tbl ps):=by subst_eqs):Z9 P w g h' a o:=by
 induction o with
 | lst xs=>obtain⟨z,Y,n,r,e⟩:=x;show#[z,Y,n,r,k _ _ (.inl rfl) e]
 | tup xs=>obtain⟨z,Y,r,l,e,c⟩:=x;show#[z,Y,r,l,k _ _ (.inl rfl) e,c]
 | dK U=>obtain⟨z,s,Q,r,l,j,i,e,c⟩:=x;show#[z,s,Q,r,l,j,i,k _ _ (.inl rfl) e,c]
 | dT U =>
  obtain⟨z,s,xs,r,l,j,i,e,c⟩:=x;show#[z,s,xs,Paired.mapP r λp q z=>#[z.1,I _ _ z.2.1,z.2.2],l,j,i,k _ _ (.inl rfl) e,c]
 | set S n=>obtain⟨l,j,i,t,e,c⟩:=x;show#[l,j,i,t,k _ _ (.inl rfl) e,c]
 | ins C D fs =>
  obtain⟨d,z,y,e,N,⟨M,j,i,L,c⟩,r⟩:=x;show#[J _ d,z,y,k _ _ (.inl rfl) e,N,#[M,j,i,k _ _ (.inr d) L,c],r]
 | own s=>obtain⟨l,e⟩:=x;show#[l,k _ _ (.inl rfl) e]
 | xd fs=>obtain⟨N,⟨M,j,i,e,c⟩,r⟩:=x;show#[N,#[M,j,i,k _ _ (.inl rfl) e,c],r]
 | rng lo y=>obtain⟨t,u,v,e⟩:=x;show#[t,u,v,k _ _ (.inl rfl) e]
 | frz l u y=>obtain⟨e,q⟩:=x;show#[k _ _ (.inl rfl) e,y q]
 | tbl ps =>
  obtain⟨y,e,q⟩:=x;refine#[y,k a _ (.inl rfl) e,q.imp_right λs=>?_];obtain⟨d,fs,D,L,C,q⟩:=s;refine#[d,fs,D,L,C,λf B=>?_];obtain⟨A,oc,Q,tt,Pn,f1,f2,f3,f4,f5⟩:=q f B;show#[A,oc,Q,tt,Pn,G _ _ f1,f2,f3,E _ _ f4,f5]
 | met f s =>
  have e:h.get? a=some (PySem.W.methodObj (.ref f)<|.ref s):=x;change h'.get? a=some (PySem.W.methodObj (.ref f)<|.ref s);show k a _ (.inl rfl) e
 | ext y=>obtain⟨p,⟨o,e⟩,st⟩:=x;show#[st _ _ p λo q=>k _ _ (.inl rfl) q,#[o,k _ _ (.inl rfl) e],st]
def pe.lt(x:pe P w H h)(e:H a=some o):a<h.objs.size:=(x a o e).lt
def pe.fresh(x:pe P w H h)(e:h.objs.size<=a):H a=none:=by
 cases q:H a with
 | none=>rfl
 | some u=>show absurd (qB (x.lt q) e)<|sr _
def pe.kept(x:pe P w H h)(k:∀b u,h.get? b=some u->h'.get? b=some u):pe P w H h':=λa o e =>
 (x a o e).stay (λb u _ q=>k b u q) (λ_ q=>q) λ_ _ q=>q
def pe.laid(x:pe P w H h)(k:∀b u,h.get? b=some u->h'.get? b=some u)(r:h.objs.size<=a)(new:Z9 P w (nO H a o) h' a o):pe P w (nO H a o) h':=λb u e=>by
 have y:=x.fresh r
 by_cases s:b=a
 ·subst s;rw[Zc]at e;cases e;show new
 ·rw[Zd s]at e;show(x b u e).stay (λc v _ q=>k c v q) (λc q=>by rw[Zd (Zf q y)];show q) λc p q=>by rw[Zd (Zf q y)];show q
end
def Rd(H:Hp)(a:mG)(u:HO):Prop:=H a=some u\/∃o,H a=some (.frz o u)
def Rd.ok(r:Rd H a u)(x:pe P w H h):Z9 P w H h a u:=by
 rcases r with r|⟨o,r⟩
 ·show x a u r
 ·obtain⟨_,q⟩:=x a _ r;show q
def AF:mJ HO->Prop
 | some (.lst _)=>True
 | some (.dK _)=>True
 | some (.dT _)=>True
 | some (.set _ _)=>True
 | some (.ins _ _ _)=>True
 | some (.ext _)=>True
 | _=>False
section
def pe.write(ok:pe P w H h)(p:AF (H x))(Y:e=x\/H e=some (.own x))(k:∀b u,b≠e->h.get? b=some u->h'.get? b=some u)(a:∃u,h'.get? e=some u)
  (new:Z9 P w (nO H x o') h' x o'):pe P w (nO H x o') h':=λb u q=>by
 have n:∀c y,H c=some (.own y)->c≠x:=λc y r z=>by subst z;rw[r]at p;show p
 have l:∀c i,H c=some (.tup i)->c≠x:=λc i r z=>by subst z;rw[r]at p;show p
 have j:∀c o y,H c=some (.frz o<|.own y)->c≠x:=λc o y r z=>by subst z;rw[r]at p;show p
 by_cases g:b=x
 ·subst g;rw[Zc]at q;cases q;show new
 ·rw[Zd g]at q
  by_cases s:b=e
  ·have d:H b=some (.own x):=by
    rcases Y with z|z
    ·show absurd (s.trans z) g
    ·rw[s];show z
   rw[q]at d;cases d;obtain⟨v,U⟩:=a;show#[v,by rw[s];show U]
  ·refine(ok b u q).stay (λc v d r=>k c v ?_ r) (λc r=>by rw[Zd (n c b r)];show r) (λc i r=>by rw[Zd (l c i r)];show r) (λc o r=>by rw[Zd (j c o b r)];show r) (λc U r=>by rw[Zd λz=>by subst z;rw[r]at p;show p];show r);rcases d with rfl|d
   ·show s
   ·rintro rfl;rcases Y with z|z
    ·show n c b d z
    ·rw[d]at z;cases z;show g rfl
end
structure Un(fs ex:List Addr)(H H':Hp)(h h':Heap):Prop where
 keep:∀b o,h.get? b=some o->H b=none->b∉fs->b∉ex->h'.get? b=some o
 slot:∀b o,h.get? b=some o->H b=none->b∈fs->b∉ex->∃sl,h'.get? b=some {o with slots:=sl}
 free:∀b o,h.get? b=some o->H b=none->b∉ex->H' b=none
 there:∀b o,h.get? b=some o->b∉ex->∃o',h'.get? b=some o'
 tups:∀b xs,H b=some (.tup xs)->H' b=some (.tup xs)
 frzs:∀b o u,H b=some (.frz o u)->H' b=some (.frz o u)
 tbls:∀b ps,H b=some (.tbl ps)->∃more,H' b=some (.tbl<|ps++more)
section
def Un.any(u:Un fs w H p h s)(q:h.get? b=some ob)(n:H b=none)(y:b∉w):∃r,s.get? b=some {ob with slots:=r}:=by
 by_cases x:b∈fs
 ·show u.slot b ob q n x y
 ·show#[ob.slots,u.keep b ob q n x y]
def Un.kept(k:∀b u,h.get? b=some u->h'.get? b=some u):Un fs x H H h h' :=
 #[λb y q _ _ _=>k b y q,λb y q _ _ _=>#[y.slots,k b y q],λ_ _ _ n _=>n,λb y q _=>#[y,k b y q],λ_ _ q=>q,λ_ _ _ q=>q,λ_ w q=>#[#[],by rw[q];simp]]
def Un.refl:Un fs y H H h h:=Un.kept λ_ _ q=>q
def Un.laid(k:∀b u,h.get? b=some u->h'.get? b=some u)(x:h.objs.size<=a)(y:H a=none):Un fs s H (nO H a o) h h' where
 keep:=λb u q _ _ _=>k b u q
 slot:=λb u q _ _ _=>#[u.slots,k b u q]
 free:=λb u q n _=>by rw[Zd (oQ<|qB (oJ q) x)];show n
 there:=λb u q _=>#[u,k b u q]
 tups:=λb w q=>by rw[Zd (Zf q y)];show q
 frzs:=λb u w q=>by rw[Zd (Zf q y)];show q
 tbls:=λb r q=>#[#[],by rw[Zd (Zf q y),q];simp]
def Un.write(w:AF (H x))(i:e=x\/H e=some (.own x))(k:∀b u,b≠e->h.get? b=some u->h'.get? b=some u)(s:∃u,h'.get? e=some u):Un fs d H (nO H x o) h h':=by
 have l:∀b,H b=none->b≠x:=λb n z=>by subst z;rw[n]at w;show w
 have j:∀b,H b=none->b≠e:=λb n z=>by
  subst z;rcases i with r|r
  ·show l b n r
  ·rw[n]at r;cases r
 have p:∀b u,H b=some u->¬AF (some u)->b≠x:=λb u q nm z=>by subst z;rw[q]at w;show nm w
 refine#[λb u q n _ _=>k b u (j b n) q,λb u q n _ _=>#[u.slots,k b u (j b n) q],λb u q n _=>by rw[Zd (l b n)];show n,λb u q _=>?_,
  λb g q=>by rw[Zd (p b _ q λz=>z)];show q,λb u g q=>by rw[Zd (p b _ q λz=>z)];show q,λb c q=>#[#[],by rw[Zd (p b _ q λz=>z),q];simp]]
 by_cases y:b=e
 ·subst y;show s
 ·show#[u,k b u y q]
end
def trk(h:mO)(H:Hp):mD mG:=(List.range h.objs.size).filter λa=>(H a).isSome
def vZ(h:mO)(H:Hp):mO:=PySem.W.hideAll h<|trk h H
def Ul(h:mO)(H:Hp):(vZ h H).objs.size=h.objs.size:=PySem.W.hideAll_size _ _
def Tq(e:h.get? b=some o)(n:H b=none):(vZ h H).get? b=some o :=
 Gx _ e λy=>by
  have q:(H b).isSome=true:=(uN.mp y).2;rw[n]at q;simp at q
def Ycl(e:(vZ h H).get? b=some o):h.get? b=some o/\H b=none:=by
 have y:h.get? b=some o:=Cm (trk h H) e;refine#[y,?_];cases q:H b with
 | none=>rfl
 | some x =>
  have w:b∈trk h H:=uN.mpr #[yS.mpr<|oJ y,by simp[q]];have z:(vZ h H).get? b=none:=Qj (trk h H) w;rw[z]at e;cases e
def Td(g h:mO)(L:mG):mD (mG×Obj):=(List.range h.objs.size).filterMap λa=>if a=L\/(g.get? a).isSome=true then none else(h.get? a).map λo=>(a,o)
def Zs(g h:mO)(L d:mG):mD (mG×Obj):=(Td g h L).filter λp=>decide<|p.1≠d
def NK(w:mF->mJ mH)(h:mO):Prop:=∃x y,w "__builtins__"=some (.ref x)/\x≠builtinsNs/\h.get? x=some y/\y.cls=.type "module"/\y.dict=some builtinsNs/\y.data=.plain
structure Mod(K:Frag)(mg:Str->Option Value)(nI:Heap):Prop where
 kin:K.In nI
 glob:nI.Ns mainGlobals mg
 blt:∃mb,nI.Ns builtinsNs mb/\∀x:Str,x≠ "__name__"->mb x=bootBuiltins x
 nolimit:nI.NoLimit
 bm:NK mg nI
structure Cx where
 prog:Program
 w:World
 K:Frag
 mg:Str->Option Value
 nI:Heap
 A:Around
 N:List Str
 mV:Shared
 mX:Hp
 env:Env
 nG:List Env
 stack:List Env
 ex:List Addr
 fn:Str->Bool
 calm:Bool
 pn:List (Addr×Obj)
 xe:Value->Shared->Prop
def pr(l:mD Env):mD mG:=l.filterMap (·.frame)
abbrev Cx.fs(X:Cx):mD mG:=pr X.nG
def CA(y:Scope)(x:mF):Prop:=y.names.lookup x=some .local\/y.names.lookup x=some .cell\/y.names.lookup x=some .free
def vY(y:Scope)(x:mF):Prop:=y.names.lookup x=some .local\/y.names.lookup x=some .cell
def Yjt(env:Env)(h:mO)(m:mF->mJ mH)(x:mF)(u:mH):Prop :=
 (env.kindOf x=some .local/\m x=some u)\/((env.kindOf x=some .cell\/env.kindOf x=some .free)/\∃c,env.cells.lookup x=some c/\h.IsCell c (some u))
structure Cx.Ok(X:Cx):Prop where
 mod:Mod X.K X.mg X.nI
 kind:X.env.scope.kind=.function
 glob:X.env.globals=mainGlobals
 blt:X.env.builtins=builtinsNs
 above:X.mV.heap.objs.size<=X.env.locals
 inj:∀x y c,X.env.cells.lookup x=some c->X.env.cells.lookup y=some c->x=y
 has:∀x,(X.env.kindOf x=some .cell\/X.env.kindOf x=some .free)->∃c,X.env.cells.lookup x=some c
 cab:∀x c,X.fn x=true->X.env.cells.lookup x=some c->X.mV.heap.objs.size<=c
 hd:X.calm=true->X.A.handled=none
 frames:X.A.frames=some X.stack
 stk:X.stack=X.nG\/(X.stack=X.env ::X.nG/\X.env.frame=some X.env.locals)
 exf:∀b∈X.ex,b≠X.env.locals/\∀x c,X.env.cells.lookup x=some c->c≠b
 bs:∀b o,X.nI.get? b=some o->X.mV.heap.get? b=some o/\X.mX b=none
 bsz:X.nI.objs.size<=X.mV.heap.objs.size
 noex:∀b o,X.nI.get? b=some o->b∉X.ex
 exfs:∀b∈X.ex,b∉X.fs
 funs:X.mV.heap.FunFrames X.nI X.nG
 frf:∀b∈X.fs,X.mX b=none
structure nM(X:Cx)(a9:List (Addr×Obj))(σ:List (Option V))(H:Hp)(s:Shared):Prop where
 ok:X.Ok
 os:s.os=X.mV.os
 bare:AllBare s.gens
 nI:Un X.fs X.ex X.mX H X.mV.heap s.heap
 loc:∃m,s.heap.Ns X.env.locals m/\∀(i:Nat)(x:Str)(v:V),X.N[i]? =some x->σ[i]? =some (some v)->CA X.env.scope x->∃u,Yc v u/\Yjt X.env s.heap m x u
 cell:∀x c,X.env.cells.lookup x=some c->∃v,s.heap.IsCell c v
 free:H X.env.locals=none
 freeC:∀x c,X.env.cells.lookup x=some c->H c=none
 pin:∀p∈X.pn++a9,s.heap.get? p.1=some p.2/\H p.1=none/\p.1≠X.env.locals/\p.1∉X.fs/\∀v,p.2.data≠.cell v
 hok:pe X.prog X.w H s.heap
 len:σ.length=X.N.length
variable {X:Cx}
def Cx.Ok.nofr(ok:X.Ok)(e:X.nI.get? b=some o):b∉X.fs:=λy=>by
 have:=(ok.funs.mem y).1;rw[e]at this;cases this
def nM.bs(I:nM X x y H s):∀b o,X.nI.get? b=some o->s.heap.get? b=some o/\H b=none:=λb o e =>
 #[I.nI.keep b o (I.ok.bs b o e).1 (I.ok.bs b o e).2 (I.ok.nofr e) (I.ok.noex b o e),I.nI.free b o (I.ok.bs b o e).1 (I.ok.bs b o e).2 (I.ok.noex b o e)]
def nM.bk(I:nM X x y H s):∀b o,X.nI.get? b=some o->s.heap.get? b=some o:=λb o e=>(I.bs b o e).1
def nM.mod(I:nM X x y H s):Mod X.K X.mg X.nI:=I.ok.mod
def nM.kIn(I:nM X x y H s):X.K.In s.heap:=I.ok.mod.kin.keeps I.bk
def nM.fr(I:nM X w y H s):∃m,Fr X.nI X.env.locals s.heap m :=
 let⟨m,x,_⟩:=I.loc
 #[m,x,I.bk,oU I.ok.bsz I.ok.above]
def nM.lt(I:nM X w y H s):X.env.locals<#v[s]:=let⟨_,x,_⟩:=I.loc;x.lt
def nM.sz(I:nM X x y H s):X.mV.heap.objs.size<=#v[s]:=oU I.ok.above<|qm I.lt
def nM.nofs(I:nM X u y H s)(h:#v[s]<=a):a∉X.fs:=λx=>by
 obtain⟨_,o,w,_⟩:=I.ok.funs.mem x;show absurd (qB (oJ w)<|oU I.sz h)<|sr _
def nM.cne(I:nM X q y H s):∀x c,X.env.cells.lookup x=some c->c≠X.env.locals:=λx c e z=>by
 obtain⟨v,o,u,hd⟩:=I.cell x c e;obtain⟨m,⟨p,o,n,r,w,_⟩,_⟩:=I.loc;rw[z,r]at u;cases u;rw[w]at hd;cases hd
def nM.funs(I:nM X d y H s):s.heap.FunFrames X.nI X.nG:=by
 have all:∀(l:mD Env),(∀b∈pr l,b∈X.fs)->X.mV.heap.FunFrames X.nI l->s.heap.FunFrames X.nI l:=by
  intro l
  induction l with
  | nil=>intro _ _;trivial
  | cons env r p =>
   intro q n;obtain⟨j,⟨L,o,x,i,h,hd⟩,g⟩:=n;have w:L∈X.fs:=q L (by unfold pr;rw[IM,x];show pK);obtain⟨c,e⟩:=I.nI.slot L o h (I.ok.frf L w) w λz=>I.ok.exfs L z w
   show#[j,#[L,_,x,i,e,hd],p (λb u=>q b (by unfold pr;rw[IM,x];show pV _ u)) g]
 show all X.nG (λ_ u=>u) I.ok.funs
def nM.stack(I:nM X u y H s):s.heap.FunFrames X.nI X.stack:=by
 rcases I.ok.stk with e|⟨e,x⟩
 ·rw[e];show I.funs
 ·rw[e];obtain⟨m,w,_⟩:=I.loc;refine .cons (by rw[I.ok.kind];decide) x w ?_ I.funs;show At<|oU I.ok.bsz I.ok.above
def nM.stkSub(I:nM X u y H s):∀b∈pr X.stack,b∈X.env.locals ::X.fs:=λb x=>by
 rcases I.ok.stk with e|⟨e,w⟩
 ·rw[e]at x;show pV _ x
 ·rw[e]at x;unfold pr at x;rw[IM,w]at x;show x
def nM.stkFree(I:nM X u y H s):∀b∈pr X.stack,H b=none:=λb x=>by
 rcases oM.mp (I.stkSub b x)with e|x
 ·rw[e];show I.free
 ·obtain⟨_,o,w,_⟩:=I.ok.funs.mem x;show I.nI.free b o w (I.ok.frf b x) λz=>I.ok.exfs b z x
def nM.step{g':Array GenState}{t':Nat}{d':Drawn}{ch:mD mG}(I:nM X B y H s)
  (Q:∀b∈ch,(b∈X.ex\/X.mV.heap.objs.size<=b)/\b≠X.env.locals/\(∀x c,X.env.cells.lookup x=some c->c≠b)/\∀p∈X.pn++B,p.1≠b)
  (keep:∀b o,b≠X.env.locals->b∉X.fs->b∉ch->s.heap.get? b=some o->H b=none->h'.get? b=some o)
  (slot:∀b o,b≠X.env.locals->b∈X.fs->b∉ch->s.heap.get? b=some o->H b=none->∃D,h'.get? b=some {o with slots:=D}) (free:∀b o,b∉ch->s.heap.get? b=some o->H b=none->N b=none)
  (there:∀b o,b∉ch->s.heap.get? b=some o->∃o',h'.get? b=some o')
  (M:∀b xs,H b=some (.tup xs)->N b=some (.tup xs)) (L:∀b o u,H b=some (.frz o u)->N b=some (.frz o u)) (J:∀b ps,H b=some (.tbl ps)->∃more,N b=some (.tbl<|ps++more))
  (ns:∀m,s.heap.Ns X.env.locals m->h'.Ns X.env.locals m) (C:pe X.prog X.w N h') (hg:AllBare g') :
  nM X B y N {s with heap:=h',gens:=g',drawn:=d',toks:=t'}:=by
 have G:∀b o,X.mV.heap.get? b=some o->b≠X.env.locals:=λb o e=>oQ<|qB (oJ e) I.ok.above
 have g:∀b o,X.mV.heap.get? b=some o->b∉X.ex->b∉ch:=λb o e w Y=>by
  rcases(Q b Y).1 with z|z
  ·show w z
  ·show absurd (qB (oJ e) z)<|sr _
 have j:∀x c,X.env.cells.lookup x=some c->∀v,s.heap.IsCell c v->h'.IsCell c v:=λx c e v ⟨o,U,hd⟩=>by
  have h:c∉ch:=λz=>(Q c z).2.2.1 x c e rfl
  by_cases A:c∈X.fs
  ·obtain⟨D,q⟩:=slot c o (I.cne x c e) A h U<|I.freeC x c e;show#[_,q,hd]
  ·show#[o,keep c o (I.cne x c e) A h U<|I.freeC x c e,hd]
 refine#[I.ok,I.os,hg,#[λb o e n Y w=>?_,λb o e n Y w=>?_,λb o e n w=>?_,λb o e w=>?_,λb xs e=>M b xs<|I.nI.tups b xs e,λb o xs e=>L b o xs<|I.nI.frzs b o xs e,λb ps e=>?_],?_,λx c e=>?_,?_,λx c e=>?_,λp hp=>?_,C,I.len]
 ·show keep b o (G b o e) Y (g b o e w) (I.nI.keep b o e n Y w)<|I.nI.free b o e n w
 ·obtain⟨D,a⟩:=I.nI.slot b o e n Y w;obtain⟨r,E⟩:=slot b _ (G b o e) Y (g b o e w) a<|I.nI.free b o e n w;show#[r,E]
 ·obtain⟨o',a⟩:=I.nI.there b o e w;show free b o' (g b o e w) a<|I.nI.free b o e n w
 ·obtain⟨o',a⟩:=I.nI.there b o e w;show there b o' (g b o e w) a
 ·obtain⟨r,a⟩:=I.nI.tbls b ps e;obtain⟨q,E⟩:=J b _ a;show#[r++q,by rw[E,Array.append_assoc]]
 ·obtain⟨m,q,d⟩:=I.loc;refine#[m,ns m q,λi x v a E e3=>?_];obtain⟨u,r,l⟩:=d i x v a E e3;refine#[u,r,?_];rcases l with l|⟨k,c,e,z⟩
  ·show .inl l
  ·show .inr #[k,c,e,j x c e _ z]
 ·obtain⟨v,z⟩:=I.cell x c e;show#[v,j x c e v z]
 ·obtain⟨m,⟨o,_,_,U,_⟩,_⟩:=I.loc;show free _ o (λz=>(Q _ z).2.1 rfl) U I.free
 ·obtain⟨v,o,U,hd⟩:=I.cell x c e;show free c o (λz=>(Q c z).2.2.1 x c e rfl) U<|I.freeC x c e
 ·obtain⟨e,n,r,q,d⟩:=I.pin p hp;have h:p.1∉ch:=λz=>(Q p.1 z).2.2.2 p hp rfl
  show#[keep p.1 p.2 r q h e n,free p.1 p.2 h e n,r,q,d]
def nM.un{t':Nat}(I:nM X j y H s)(u:Un X.fs [] H q s.heap h')(x:pe X.prog X.w q h'):nM X j y q {s with heap:=h',toks:=t'}:=by
 obtain⟨m,⟨o,l,h,p,r⟩,_⟩:=id I.loc;obtain⟨r,i⟩:=u.any p I.free (by simp);show I.step (g':=s.gens) (d':=s.drawn) (ch:=[]) (λ_ z=>nomatch z) (λb o _ w _ e n=>u.keep b o e n w<|by simp) (λb o _ w _ e n=>u.slot b o e n w<|by simp) (λb o _ e n=>u.free b o e n<|by simp) (λb o _ e=>u.there b o e<|by simp) u.tups u.frzs u.tbls (λc h=>by
  obtain⟨a,g,r,l,d⟩:=h;rw[p]at l;cases l;show#[_,g,r,i,d]) x I.bare
def nM.call{g':Array GenState}{t':Nat}{d':Drawn}{ch:mD mG}(I:nM X j y H s)(u:Un (pr X.stack) ch H i s.heap h')(q:pe X.prog X.w i h')(a:AllBare g')
  (h:∀b∈ch,(b∈X.ex\/X.mV.heap.objs.size<=b)/\b≠X.env.locals/\(∀x c,X.env.cells.lookup x=some c->c≠b)/\∀p∈X.pn++j,p.1≠b) :
  nM X j y i {s with heap:=h',gens:=g',drawn:=d',toks:=t'}:=by
 obtain⟨m,⟨o,d,Y,g,r⟩,_⟩:=id I.loc;obtain⟨r,l⟩:=u.any g I.free λz=>(h _ z).2.1 rfl
 show I.step (ch:=ch) h (λb o l r w e n=>u.keep b o e n (λz=>(oM.mp<|I.stkSub b z).elim l r) w) (λb o _ _ w e n=>u.any e n w) (λb o w e n=>u.free b o e n w) (λb o w e=>u.there b o e w) u.tups u.frzs u.tbls (λN Y=>by
  obtain⟨M,U,r,d,Q⟩:=Y;rw[g]at d;cases d;show#[_,U,r,l,Q]) q a
def nM.turned{t':Nat}{it:mG}(I:nM X j y H s)(k:∀b o,b≠it->s.heap.get? b=some o->h'.get? b=some o)(h:H it=none)(i:it≠X.env.locals)
  (g:it∈X.ex\/X.mV.heap.objs.size<=it) (d:∀x c,X.env.cells.lookup x=some c->c≠it) (a:∀p∈X.pn++j,p.1≠it):nM X j y H {s with heap:=h',toks:=t'}:=by
 have l:∀b u,H b=some u->b≠it:=λb u e z=>by rw[z,h]at e;cases e
 refine I.step (g':=s.gens) (d':=s.drawn) (ch:=[it]) (λb Y=>?_) (λb o _ _ w e _=>k b o (λz=>w<|by simp[z]) e) (λb o _ _ w e _=>#[o.slots,k b o (λz=>w<|by simp[z]) e]) (λ_ _ _ _ n=>n)
  (λb o w e=>#[o,k b o (λz=>w<|by simp[z]) e]) (λ_ _ e=>e) (λ_ _ _ e=>e) (λb r e=>#[#[],by rw[e];simp]) (λm U=>?_) (λb u e=>?_) I.bare
 ·have e:b=it:=by simpa using Y
  subst e;show#[g,i,d,a]
 ·obtain⟨o,q,n,Q,r⟩:=U;show#[o,q,n,k _ o (pH i) Q,r]
 ·refine(I.hok b u e).stay (λc v w q=>k c v ?_ q) (λ_ q=>q) λ_ _ q=>q
  rcases w with z|z
  ·rw[z];show l b u e
  ·show l c _ z
def nM.tok(I:nM X x y H s)(t:Nat):nM X x y H {s with toks:=t}:=I.un (h':=s.heap) (t':=t) Un.refl I.hok
def nM.kept(I:nM X x y H s)(k:∀b u,s.heap.get? b=some u->h'.get? b=some u):nM X x y H {s with heap:=h',toks:=t'}:=I.un (Un.kept k)<|I.hok.kept k
def nM.laid(I:nM X w y H s)(k:∀b u,s.heap.get? b=some u->h'.get? b=some u)(x:#v[s]<=a)(new:Z9 X.prog X.w (nO H a o) h' a o) :
  nM X w y (nO H a o) {s with heap:=h',toks:=t'}:=I.un (Un.laid k x<|I.hok.fresh x)<|I.hok.laid k x new
def nM.write(I:nM X p y H s)(r:AF (H x))(q:e=x\/H e=some (.own x))(k:∀b u,b≠e->s.heap.get? b=some u->h'.get? b=some u)(w:∃u,h'.get? e=some u)
  (new:Z9 X.prog X.w (nO H x o) h' x o):nM X p y (nO H x o) {s with heap:=h',toks:=t'}:=I.un (Un.write r q k w)<|I.hok.write r q k w new
def nM.weak(I:nM X r y H s)(q:u.length=y.length)(w:∀(i:Nat) v,u[i]? =some (some v)->y[i]? =some (some v)):nM X r u H s :=
 #[I.ok,I.os,I.bare,I.nI,let⟨m,p,o⟩:=I.loc;#[m,p,λi x v n l j=>o i x v n (w i v l) j],I.cell,I.free,I.freeC,I.pin,I.hok,q.trans I.len]
def nM.pins_of(I:nM X u y H s)(h:∀p∈x,s.heap.get? p.1=some p.2/\H p.1=none/\p.1≠X.env.locals/\p.1∉X.fs/\∀v,p.2.data≠.cell v):nM X x y H s :=
 #[I.ok,I.os,I.bare,I.nI,I.loc,I.cell,I.free,I.freeC,λp w=>(pC.mp w).elim (λz=>I.pin p<|zC _ z) (h p),I.hok,I.len]
def LA{N:mD mF}(y:N.Nodup){i j:Nat}{x:mF}(a:N[i]? =some x)(b:N[j]? =some x):i=j:=by
 obtain⟨s,w⟩:=pT.mp a;obtain⟨s,u⟩:=pT.mp b;show(List.getElem_inj y).mp (w.trans u.symm)
def WF{M:Model}{A:mT}{E:mH->mI->Prop}{i:Nat}{x:mF}{v:V}{u:mH}{Q:Unit->mI->Prop}(I:nM X a9 y H s)(hN:X.N.Nodup)(B:X.N[i]? =some x)(U:vY X.env.scope x)(r:Yc v u)
  (h:∀s',nM X a9 (y.set i<|some v) H s'->(∃a,Heap.SameBut a s.heap s'.heap/\(a=X.env.locals\/X.env.cells.lookup x=some a))->Q () s') (hf:X.fn x=true\/X.env.scope.names.lookup x=some .local:=by and_intros):wpAny M A (storeName X.env x u) Q E s:=by
 obtain⟨m,hn,hl⟩:=id I.loc;have hcls:(X.env.scope.kind ==.class || (X.env.scope.kind ==.module && X.env.locals !=X.env.globals))=false:=by rw[I.ok.kind];rfl
 have L:i<y.length:=by rw[I.len];show(pT.mp B).1
 have cne:=I.cne;have Q4:∀{a:mG}{C:mO},(∃o,s.heap.get? a=some o/\H a=none)->Heap.SameBut a s.heap C->pe X.prog X.w H C:=λ{a C} ha l b ob e=>by
  obtain⟨_,_,E4⟩:=ha;refine(I.hok b ob e).stay (λc w' Y q=>(l.2 c ?_).trans q) (λ_ q=>q) λ_ _ q=>q
  rintro rfl;rcases Y with rfl|Y
  ·rw[E4]at e;cases e
  ·rw[E4]at Y;cases Y
 rcases U with J|J
 ·refine wpAny_storeName_local J hn (λC hn' l=>?_) hcls;obtain⟨oL,_,_,hoL,_⟩:=id hn;refine h _ #[I.ok,I.os,I.bare,#[λb o e n G U=>?_,λb o e n G U=>?_,I.nI.free,λb o e U=>?_,I.nI.tups,I.nI.frzs,I.nI.tbls],#[_,hn',λj w v' g N e3=>?_],λw c e=>?_,I.free,I.freeC,λp hp=>?_,Q4 #[oL,hoL,I.free] l,by simpa using I.len] #[_,l,.inl rfl]
  ·show(l.2 b<|oQ<|qB (oJ e) I.ok.above).trans (I.nI.keep b o e n G U)
  ·obtain⟨sl,g⟩:=I.nI.slot b o e n G U;show#[sl,(l.2 b<|oQ<|qB (oJ e) I.ok.above).trans g]
  ·obtain⟨o',g⟩:=I.nI.there b o e U;show#[o',(l.2 b<|oQ<|qB (oJ e) I.ok.above).trans g]
  ·by_cases D:j=i
   ·subst D;rw[B]at g;cases g;rw[IJ L]at N;cases N;show#[u,r,.inl #[J,by simp]]
   ·rw[HS (pH D)]at N;obtain⟨u',r',q⟩:=hl j w v' g N e3;refine#[u',r',?_];rcases q with⟨k,e⟩|⟨k,c,e,z⟩
    ·refine .inl #[k,?_];have:w≠x:=λe=>D<|LA hN g<|e ▸ B
     simp[this,e]
    ·show .inr #[k,c,e,z.sameBut l<|cne w c e]
  ·obtain⟨w',z⟩:=I.cell w c e;show#[w',z.sameBut l<|cne w c e]
  ·obtain⟨e,n,ne,nf,d⟩:=I.pin p hp;show#[(l.2 p.1 ne).trans e,n,ne,nf,d]
 ·have L0:X.fn x=true:=by
   rcases hf with z|z
   ·show z
   ·rw[z]at J;cases J
  obtain⟨c,Y⟩:=I.ok.has x<|.inl J;obtain⟨w',z⟩:=I.cell x c Y;refine wpAny_storeName_cell I.ok.kind J Y z λC hc' l=>?_;obtain⟨oc,hoc,hocd⟩:=id z;refine h {s with heap:=C} #[I.ok,I.os,I.bare,#[λb o e n G U=>?_,λb o e n G U=>?_,I.nI.free,λb o e U=>?_,I.nI.tups,I.nI.frzs,I.nI.tbls],#[m,hn.sameBut l<|pH<|cne x c Y,λj w v' g N e3=>?_],λw c' e=>?_,I.free,I.freeC,λp hp=>?_,Q4 #[oc,hoc,I.freeC x c Y] l,by simpa using I.len] #[c,l,.inr Y]
  ·show(l.2 b<|oQ<|qB (oJ e)<|I.ok.cab x c L0 Y).trans (I.nI.keep b o e n G U)
  ·obtain⟨sl,g⟩:=I.nI.slot b o e n G U;show#[sl,(l.2 b<|oQ<|qB (oJ e)<|I.ok.cab x c L0 Y).trans g]
  ·obtain⟨o',g⟩:=I.nI.there b o e U;show#[o',(l.2 b<|oQ<|qB (oJ e)<|I.ok.cab x c L0 Y).trans g]
  ·by_cases D:j=i
   ·subst D;rw[B]at g;cases g;rw[IJ L]at N;cases N;show#[u,r,.inr #[.inl J,c,Y,hc']]
   ·rw[HS (pH D)]at N;obtain⟨u',r',q⟩:=hl j w v' g N e3;refine#[u',r',?_];rcases q with q|⟨k,c',e,z'⟩
    ·show .inl q
    ·refine .inr #[k,c',e,z'.sameBut l ?_];rintro rfl;show D<|LA hN g<|I.ok.inj _ _ _ e Y ▸ B
  ·by_cases hcc:c'=c
   ·subst hcc;show#[_,hc']
   ·obtain⟨w2,z2⟩:=I.cell w c' e;show#[w2,z2.sameBut l hcc]
  ·obtain⟨e,n,ne,nf,d⟩:=I.pin p hp;refine#[(l.2 p.1 ?_).trans e,n,ne,nf,d];intro q;rw[q,hoc]at e;have q':oc=p.2:=pI e;show d w' (by rw[<-q'];show hocd)
def Gg{E:mH->mI->Prop}{Q:Unit->mI->Prop}(I:nM X w y H s)(q:X.N.Nodup)(p:X.N[i]? =some x)(o:vY X.env.scope x)(r:Yc v u)
  (h:∀s',nM X w (y.set i<|some v) H s'->Q () s') (n:X.fn x=true\/X.env.scope.names.lookup x=some .local:=by and_intros):wpAny M A (storeName X.env x u) Q E s :=
 WF I q p o r (λs' l _=>h s' l) n
def nM.call'(I:nM X r y H s)(o:s'.os=s.os)(u:Un (pr X.stack) ch H q s.heap s'.heap)(w:pe X.prog X.w q s'.heap)(n:AllBare s'.gens)
  (l:∀b∈ch,(b∈X.ex\/X.mV.heap.objs.size<=b)/\b≠X.env.locals/\(∀x c,X.env.cells.lookup x=some c->c≠b)/\∀p∈X.pn++r,p.1≠b):nM X r y q s':=by
 obtain⟨d,j,i,h,g⟩:=s';have e:g=s.os:=o;subst e;show I.call (g':=j) (t':=h) (d':=i) u w n l
abbrev XK:=mH->mJ mG->Hp->Prop
abbrev St:=mD<|mJ V
abbrev VK:=V->Hp->Prop
abbrev TE:=St->Hp->VK->Prop
abbrev TT:=St->Hp->(Bool->Hp->Prop)->Prop
abbrev TA:=St->Hp->(mD V->Hp->Prop)->Prop
structure qD where
 nx:St->Hp->Prop
 rt:VK
 bk:St->Hp->Prop:=λ_ _=>False
 ct:St->Hp->Prop:=λ_ _=>False
abbrev TS:=qD->St->Hp->Prop
def EP(X:Cx)(w:mD (mG×Obj))(y:St)(Q:VK)(u:mH)(s':mI):Prop:=∃v x,nM X w y x s'/\Yc v u/\Q v x
def TP(X:Cx)(w:mD (mG×Obj))(y:St)(Q:Bool->Hp->Prop)(b:Bool)(s':mI):Prop:=∃x,nM X w y x s'/\Q b x
def AP(X:Cx)(u:mD (mG×Obj))(y:St)(Q:mD V->Hp->Prop)(us:mD mH)(s':mI):Prop:=∃x w,nM X u y w s'/\Z8 x us/\Q x w
def SP(X:Cx)(w:mD (mG×Obj))(D:qD)(f:Flow)(s':mI):Prop :=
 match f with
 | .next=>∃y x,nM X w y x s'/\D.nx y x
 | .brk=>∃y x,nM X w y x s'/\D.bk y x
 | .cont=>∃y x,nM X w y x s'/\D.ct y x
 | .ret u=>∃v y x,nM X w y x s'/\Yc v u/\D.rt v x
def PE(X:Cx)(e:mQ)(t:TE):Prop :=
 ∀(x:mD (mG×Obj)) (s:mI) (y:St) (H:Hp) (Q:VK),nM X x y H s->t y H Q->∅ (eval e X.env) (EP X x y Q) X.xe s
def PT(X:Cx)(e:mQ)(t:TT):Prop :=
 ∀(x:mD (mG×Obj)) (s:mI) (y:St) (H:Hp) (Q:Bool->Hp->Prop),nM X x y H s->t y H Q->∅ (isTrue e X.env<|eval e X.env) (TP X x y Q) X.xe s
def PW(X:Cx)(e:mQ)(t:TT):Prop :=
 ∀(w:Sem mH)(x:mD (mG×Obj)) (s:mI) (y:St) (H:Hp) (Q:Bool->Hp->Prop),nM X x y H s->t y H Q->∅ (isTrue e X.env w) (TP X x y Q) X.xe s
def PW.pt(h:PW X e t):PT X e t:=h _
def PA(X:Cx)(es:mD mQ)(t:TA):Prop :=
 ∀(x:Pos)(w:mD (mG×Obj)) (s:mI) (y:St) (H:Hp) (Q:mD V->Hp->Prop),nM X w y H s->t y H Q->∅ (spliced<|backTo x<|starEach es X.env) (AP X w y Q) X.xe s
def PS(X:Cx)(st:mM)(t:TS):Prop :=
 ∀(x:mD (mG×Obj)) (s:mI) (y:St) (H:Hp) (D:qD),nM X x y H s->t D y H->∅ (exec st X.env) (SP X x D) X.xe s
def rQ(X:Cx)(st:mD mM)(t:TS):Prop :=
 ∀(x:mD (mG×Obj)) (s:mI) (y:St) (H:Hp) (D:qD),nM X x y H s->t D y H->∅ (execs st X.env) (SP X x D) X.xe s
def oK{y:Type}{t:Sem y}{Q w:y->mI->Prop}{E:mH->mI->Prop}(h:wpAny M A t Q E s)(u:∀a s,Q a s->w a s):wpAny M A t w E s:=qQ h u λ_ _ x=>x
def Wr{t:Sem mH}{u:mH->mI->Prop}{E:mH->mI->Prop}(h:wpAny M A t (EP X r y Q) E s)(k:∀v s' x w,nM X r y w s'->Yc x v->Q x w->u v s'):wpAny M A t u E s:=oK h λv s' h=>by
 obtain⟨x,w,a,b,c⟩:=h;show k v s' x w a b c
def uJ{t:Sem (mD mH)}{u:mD mH->mI->Prop}{E:mH->mI->Prop}(h:wpAny M A t (AP X r y Q) E s)(k:∀v s' x w,nM X r y w s'->Z8 x v->Q x w->u v s'):wpAny M A t u E s:=oK h λv s' h=>by
 obtain⟨x,w,a,b,c⟩:=h;show k v s' x w a b c
section
variable {X:Cx}
def oB:V->(Bool->Prop)->Prop
 | .bl c,k=>k c
 | _,_=>False
def oB.out{x:V}{k:Bool->Prop}(h:oB x k):∃c,x=.bl c/\k c:=by cases x<;>first|show#[_,rfl,h]|show False.elim h
def oB.of{x:V}{c:Bool}{k:Bool->Prop}(e:x=.bl c)(h:k c):oB x k:=by subst e;show h
def oB.t{b:Bool}{k:Bool->Prop}(e:b=true)(h:k true):oB (.bl b) k:=by subst e;show h
def oB.f{b:Bool}{k:Bool->Prop}(e:b=false)(h:k false):oB (.bl b) k:=by subst e;show h
def oI:V->(Int->Prop)->Prop
 | .int i,k=>k i
 | _,_=>False
def oI.out{x:V}{k:Int->Prop}(h:oI x k):∃i,x=.int i/\k i:=by cases x<;>first|show#[_,rfl,h]|show False.elim h
def oC:mD V->(V->mD V->Prop)->Prop
 | v ::r,k=>k v r
 | [],_=>False
theorem oC.out:∀{l:mD V}{k:V->mD V->Prop},oC l k->∃v r,l=v ::r/\k v r
 | _ ::_,_,h=>#[_,_,rfl,h]
def oV:mJ (mJ V)->(V->Prop)->Prop
 | some (some v),k=>k v
 | _,_=>False
def oV.of{o:mJ (mJ V)}{k:V->Prop}{v:V}(e:o=some (some v))(h:k v):oV o k:=by subst e;show h
theorem oV.out:∀{o:mJ (mJ V)}{k:V->Prop},oV o k->∃v,o=some (some v)/\k v
 | some (some _),_,h=>#[_,rfl,h]
 | some none,_,h=>nomatch h
 | none,_,h=>nomatch h
def sJ(i:Nat):TE:=λy H Q=>oV y[i]? λv=>Q v H
def tC(v:V):TE:=λ_ H Q=>Q v H
def Ygq(o:X.N[i]? =some x)(n:CA X.env.scope x)(hd:(x ==("__debug__":mF))=false:=by lk)(j:(x ==("__classdict__":mF))=false:=by lk):PE X (.Name x pos) (sJ i):=by
 intro g s y H Q I h;obtain⟨v,e,h⟩:=oV.out h;obtain⟨m,d,a⟩:=I.loc;obtain⟨u,r,l⟩:=a i x v o e n;have fin:EP X g y Q u s:=#[v,H,I,r,h]
 rcases l with⟨q,Y⟩|⟨q,c,p,w⟩
 ·show wpAny_Name (wpAny_loadName_local I.ok.kind q d Y fin) hd
 ·rcases q with q|q
  ·show wpAny_Name (wpAny_loadName_cell I.ok.kind q p w fin) hd
  ·show wpAny_Name (wpAny_loadName_free I.ok.kind q p w fin j) hd
def Ze{i j pos}:PE X (.Constant (.int i) j pos) (tC<|.int i):=λ_ _ _ H _ I h=>wpAny_Constant_int #[.int i,H,I.tok _,#[_,rfl],h]
def rK{b j pos}:PE X (.Constant (.bool b) j pos) (tC<|.bl b):=λ_ _ _ H _ I h=>Constant_bool #[.bl b,H,I,rfl,h]
def vS{j pos}:PE X (.Constant .none j pos) (tC .non):=λ_ _ _ H _ I h=>Constant_none #[.non,H,I,rfl,h]
def Zg{x j pos}:PE X (.Constant (.str x) j pos) (tC<|.str x):=λ_ _ _ H _ I h=>Calls.Constant_str #[.str x,H,I.tok _,#[_,rfl],h]
def Gl(X:Cx)(x:mF):Prop:=X.env.kindOf x=some .globalImplicit
def yF{E:mH->mI->Prop}{Q:mH->mI->Prop}(I:nM X q y H s)(w:Gl X x)(r:X.mg x=some u)(h:Q u s)
  (hd:(x ==("__debug__":mF))=false:=by lk):∅ (eval (.Name x pos) X.env) Q E s :=
 Pr I.ok.kind w (Calls.loadGlobal_global (by rw[I.ok.glob];show I.mod.glob.keeps I.bk) r h) hd
def vf{E:mH->mI->Prop}{Q:mH->mI->Prop}(I:nM X l y H s)(w:Gl X x)(r:X.mg x=none)(q:bootBuiltins x=some u)(h:Q u s)
  (p:x≠ "__name__":=by lk) (hd:(x ==("__debug__":mF))=false:=by lk):∅ (eval (.Name x pos) X.env) Q E s:=by
 obtain⟨j,o,n⟩:=I.mod.blt;show Pr I.ok.kind w (Calls.loadGlobal_builtin (by rw[I.ok.glob];show I.mod.glob.keeps I.bk) r (by rw[I.ok.blt];show o.keeps I.bk) ((n x p).trans q) h) hd
def X2(y:Gl X x)(w:X.mg x=some u)(r:Yc v u)(hd:(x ==("__debug__":mF))=false:=by lk):PE X (.Name x pos) (tC v) :=
 λ_ _ _ H _ I h=>yF I y w #[v,H,I,r,h] hd
def PK(y:Gl X x)(w:X.mg x=none)(s:bootBuiltins x=some u)(r:Yc v u)(q:x≠ "__name__":=by lk)(hd:(x ==("__debug__":mF))=false:=by lk):PE X (.Name x pos) (tC v) :=
 λ_ _ _ H _ I h=>vf I y w s #[v,H,I,r,h] q hd
variable {a b:mQ} {ta tb:TE} {pos:Pos}
def tB(t:TE):TT:=λy H Q=>t y H λx w=>oB x λc=>Q c w
def Yw(h:PE X e t)(u:∀w,isTrue e X.env w=(do let v <-w;standAt e.pos;holding [v] (truthy v)):=by intro _;rfl):PT X e (tB t):=by
 intro r s y H Q I p;refine isTrue_plain (Wr (h r s y H _ I p) λv i x o n l j=>?_)<|u _;obtain⟨d,rfl,q⟩:=oB.out j;cases l;show vj #[o,n,q]
variable {tA tB':TT} {Zs:mD mQ}
def Ykd(t u:TT):TT:=λy H Q=>t y H λc x=>if c=true then u y x Q else Q false x
def Ua(t u:TT):TT:=λy H Q=>t y H λc x=>if c=true then Q true x else u y x Q
def Yju(t:TT):TT:=λy H Q=>t y H λc x=>Q (!c) x
def vQ(x:PT X a tA):PW X (.BoolOp .And [a] pos) tA:=by
 intro u w s y H Q I h;refine isTrue_and<|oK (x w s y H Q I h) λc r e=>?_;cases c with
 | true=>show isTrue_and_nil e
 | false=>show e
def uP(x:PT X a tA):PW X (.BoolOp .Or [a] pos) tA:=by
 intro u w s y H Q I h;refine isTrue_or<|oK (x w s y H Q I h) λc r e=>?_;cases c with
 | false=>show isTrue_or_nil e
 | true=>show e
def wk(q:PT X a tA)(p:PW X (.BoolOp .And (b ::Zs) pos) tB'):PW X (.BoolOp .And (a ::b ::Zs) pos) (Ykd tA tB'):=by
 intro o x s y H Q I h;refine isTrue_and<|oK (q x s y H _ I h) λc n ⟨w,u,r⟩=>?_;cases c with
 | true=>show p o x n y w Q u r
 | false=>show#[w,u,r]
def uA(q:PT X a tA)(p:PW X (.BoolOp .Or (b ::Zs) pos) tB'):PW X (.BoolOp .Or (a ::b ::Zs) pos) (Ua tA tB'):=by
 intro o x s y H Q I h;refine isTrue_or<|oK (q x s y H _ I h) λc n ⟨w,u,r⟩=>?_;cases c with
 | true=>show#[w,u,r]
 | false=>show p o x n y w Q u r
def Xs(x:PT X a tA):PT X (.UnaryOp .Not a pos) (Yju tA):=by
 intro w s y H Q I h;show isTrue_not<|x w s y H (λc u=>Q (!c) u) I h
def Yjb(ta tb:TE):TE:=λy H Q=>ta y H λx w=>oB x λc=>if c=true then tb y w Q else Q (.bl false) w
def Yj9(ta tb:TE):TE:=λy H Q=>ta y H λx w=>oB x λc=>if c=true then Q (.bl true) w else tb y w Q
def yZ{op}(h:PE X a t):PE X (.BoolOp op [a] pos) t:=λx s y H Q I w=>BoolOp_one<|h x s y H Q I w
def zT(p:PE X a ta)(o:PE X (.BoolOp .And (b ::Zs) pos) tb):PE X (.BoolOp .And (a ::b ::Zs) pos) (Yjb ta tb):=by
 intro u s y H Q I h;refine BoolOp_and<|Wr (p u s y H _ I h) λv n x r q l w=>?_;obtain⟨c,rfl,w⟩:=oB.out w;cases l;refine vj ?_;cases c with
 | true=>show o u n y r Q q w
 | false=>show#[.bl false,r,q,rfl,w]
def Py(p:PE X a ta)(o:PE X (.BoolOp .Or (b ::Zs) pos) tb):PE X (.BoolOp .Or (a ::b ::Zs) pos) (Yj9 ta tb):=by
 intro u s y H Q I h;refine BoolOp_or<|Wr (p u s y H _ I h) λv n x r q l w=>?_;obtain⟨c,rfl,w⟩:=oB.out w;cases l;refine vj ?_;cases c with
 | false=>show o u n y r Q q w
 | true=>show#[.bl true,r,q,rfl,w]
def UJ(t:TT)(ta tb:TE):TE:=λy H Q=>t y H λc x=>if c=true then ta y x Q else tb y x Q
def W5(p:PT X c tA)(o:PE X a ta)(n:PE X b tb):PE X (.IfExp c a b pos) (UJ tA ta tb):=by
 intro x s y H Q I h;refine wpAny_IfExp<|oK (p x s y H _ I h) λd w ⟨u,r,q⟩=>?_;cases d with
 | true=>show o x w y u Q r q
 | false=>show n x w y u Q r q
end
def SqL(K:mK)(H:Hp)(a:mG)(xs:mD V):Prop :=
 Rd H a (.lst xs)\/
  ∃(o:Obj)(y:Array mH)(n:Nat),K.lookup a=some o/\o.cls=.type "list"/\o.dict=none/\o.data=.seq y n/\y.size<=sizeLine/\Z8 xs y.toList
def SqT(K:mK)(H:Hp)(a:mG)(xs:mD V):Prop :=
 Rd H a (.tup xs)\/
  ∃(o:Obj)(y:Array mH)(n:Nat),K.lookup a=some o/\o.cls=.type "tuple"/\o.data=.seq y n/\y.size<=sizeLine/\Z8 xs y.toList
def Ykm:mH->mJ V
 | .none=>some .non
 | .bool b=>some (.bl b)
 | .int i _=>some (.int i)
 | .str x _=>some (.str x)
 | .bytes b _=>some (.byt b)
 | .float b _=>some (.flt b)
 | .ref a=>some (.ref a)
 | .type n=>some (.ty n)
 | _=>none
def Yc.abs(r:Yc x u):Ykm u=some x:=by
 cases x with
 | non=>cases r;rfl
 | bl _=>cases r;rfl
 | int _=>obtain⟨t,rfl⟩:=r;rfl
 | str _=>obtain⟨t,rfl⟩:=r;rfl
 | byt _=>obtain⟨t,rfl⟩:=r;rfl
 | flt _=>obtain⟨t,rfl⟩:=r;rfl
 | ref _=>cases r;rfl
 | ty _=>cases r;rfl
def Yc.inj(r:Yc x u)(q:Yc y u):x=y:=pI<|r.abs.symm.trans q.abs
def Z8.inj{xs y:mD V}{us:mD mH}(h:Z8 xs us)(h':Z8 y us):xs=y:=by
 induction h generalizing y with
 | nil=>cases h';rfl
 | cons r t x=>cases h' with
  | cons w u=>rw[r.inj w,x u]
def SqL.of{K:mK}(h:H a=some (.lst xs)):SqL K H a xs:=.inl<|.inl h
def SqT.of{K:mK}(h:H a=some (.tup xs)):SqT K H a xs:=.inl<|.inl h
def nM.list(I:nM X p y H s)(h:SqL X.K H a xs):∃x:mD mH,Z8 xs x/\PlainL s.heap a x.toArray/\xs.length<=sizeLine:=by
 rcases h with h|⟨o,x,n,w,u,hd,q,l,r⟩
 ·obtain⟨z,x,n,r,e⟩:=h.ok I.hok;show#[x,r,#[_,n,e,rfl,rfl,rfl],z]
 ·refine#[x.toList,r,#[o,n,I.kIn a o w,u,hd,by simpa using q],?_];have e:=r.length;simp only[ut]at e;lia
def nM.tuple(I:nM X l y H s)(h:SqT X.K H a xs):∃x:mD mH,Z8 xs x/\IsTup s.heap a x.toArray/\xs.length<=sizeLine:=by
 rcases h with h|⟨o,x,n,w,u,q,p,r⟩
 ·obtain⟨z,x,r,p⟩:=h.ok I.hok;show#[x,r,p,z]
 ·refine#[x.toList,r,#[o,I.kIn a o w,u,n,by simpa using q],?_];have e:=r.length;simp only[ut]at e;lia
def nM.list_inj(I:nM X i y H s)(h:SqL X.K H a xs)(h':SqL X.K H a q):xs=q:=by
 obtain⟨p,r,⟨o,n,e,_,_,d⟩,_⟩:=I.list h;obtain⟨x,l,⟨o,n,w,_,_,u⟩,_⟩:=I.list h';rw[e]at w;cases w;rw[d]at u
 injection u with j _
 have:p=x:=by simpa using pO Array.toList j
 subst this;show r.inj l
def nM.tuple_inj(I:nM X i y H s)(h:SqT X.K H a xs)(h':SqT X.K H a q):xs=q:=by
 obtain⟨p,r,⟨o,e,_,n,d⟩,_⟩:=I.tuple h;obtain⟨x,l,⟨o,w,_,n,u⟩,_⟩:=I.tuple h';rw[e]at w;cases w;rw[d]at u
 injection u with j _
 have:p=x:=by simpa using pO Array.toList j
 subst this;show r.inj l
abbrev Cx.wish(X:Cx)(E:mH->mI->Prop):Cx:={X with xe:=E}
abbrev Cx.nox(X:Cx):Cx:=X.wish λ_ _=>False
def Cx.Ok.wish{X:Cx}(ok:X.Ok)(E:mH->mI->Prop):(X.wish E).Ok :=
 #[ok.mod,ok.kind,ok.glob,ok.blt,ok.above,ok.inj,ok.has,ok.cab,ok.hd,ok.frames,ok.stk,ok.exf,ok.bs,ok.bsz,ok.noex,ok.exfs,ok.funs,ok.frf]
def Cx.Ok.unwish{X:Cx}{E:mH->mI->Prop}(ok:(X.wish E).Ok):X.Ok :=
 #[ok.mod,ok.kind,ok.glob,ok.blt,ok.above,ok.inj,ok.has,ok.cab,ok.hd,ok.frames,ok.stk,ok.exf,ok.bs,ok.bsz,ok.noex,ok.exfs,ok.funs,ok.frf]
section
variable {E:mH->mI->Prop}
def nM.wish(I:nM X x y H s)(E:mH->mI->Prop):nM (X.wish E) x y H s:=#[I.ok.wish E,I.os,I.bare,I.nI,I.loc,I.cell,I.free,I.freeC,I.pin,I.hok,I.len]
def nM.unwish(I:nM (X.wish E) x y H s):nM X x y H s:=#[I.ok.unwish,I.os,I.bare,I.nI,I.loc,I.cell,I.free,I.freeC,I.pin,I.hok,I.len]
def SP.unwish(h:SP (X.wish E) w D f s'):SP X w D f s':=by
 cases f with
 | next=>obtain⟨y,x,I,q⟩:=h;show#[y,x,I.unwish,q]
 | brk=>obtain⟨y,x,I,q⟩:=h;show#[y,x,I.unwish,q]
 | cont=>obtain⟨y,x,I,q⟩:=h;show#[y,x,I.unwish,q]
 | ret u=>obtain⟨v,y,x,I,r,q⟩:=h;show#[v,y,x,I.unwish,r,q]
def rQ.nox{st:mD mM}{t:TS}(h:rQ X.nox st t):rQ X st t:=λx s y H D I w =>
 qQ (h x s y H D (I.wish _) w) (λ_ _ q=>q.unwish) λ_ _ z=>False.elim z
end
section
variable {st:mM} {Zs:mD mM} {t u:TS} {e:mQ} {te:TE} {pos:Pos}
def SE:TS:=λD y H=>D.nx y H
def Ykk(t u:TS):TS:=λD y H=>t {D with nx:=u D} y H
def Zk:rQ X [] SE:=λ_ _ y H _ I h=>Cj #[y,H,I,h]
def VP(r:PS X st t)(p:rQ X Zs u):rQ X (st ::Zs) (Ykk t u):=by
 intro w s y H D I h;refine DU<|oK (r w s y H {D with nx:=u D} I h) λf o q=>?_;cases f with
 | next =>
  obtain⟨x,n,l,q⟩:=q;show p w o x n D l q
 | ret v=>show q
 | brk=>show q
 | cont=>show q
def Ycq(x:PS X st t):rQ X [st] t:=by
 intro w s y H D I h;refine DU<|oK (x w s y H D I h) λf r q=>?_;cases f with
 | next=>show Cj q
 | ret v=>show q
 | brk=>show q
 | cont=>show q
def Vo:TS:=λD y H=>D.ct y H
def Vw:PS X (.Continue pos) Vo:=λ_ _ y H _ I h=>wpAny_Continue #[y,H,I,h]
def nM.quiet(I:nM X x y H s):interactive X.env=false:=by simp[interactive,I.ok.kind]
def SH(te:TE):TS:=λD y H=>te y H λ_ x=>D.nx y x
def Zt(w:PE X e te)(r:swapsWith e none pos.line X.env=pure false:=by rfl):PS X (.Expr e pos) (SH te):=by
 intro q s y H D I h;show wpAny_Expr_any (Wr (w q s y H _ I h) λv l x p o j n=>#[y,p,o,n]) I.quiet r
def Ykj(te:TE):TS:=λD y H=>te y H D.rt
def Zl(w:PE X e te):PS X (.Return (some e) pos) (Ykj te):=by
 intro r s y H D I h;show wpAny_Return_some<|Wr (w r s y H _ I h) λv l x q p o n=>#[x,y,q,p,o,n]
def SL:TS:=λD _ H=>D.rt .non H
def Ydk:PS X (.Return none pos) SL:=λ_ _ y H _ I h=>wpAny_Return_none #[.non,y,H,I,rfl,h]
def UF(c:TT)(t u:TS):TS:=λD y H=>c y H λb x=>if b=true then t D y x else u D y x
def Zx(o:PT X c n)(l:rQ X a t)(j:rQ X b u):PS X (.If c a b pos) (UF n t u):=by
 intro x s y H D I h;refine wpAny_If<|oK (o x s y H _ I h) λd w ⟨r,q,p⟩=>?_;cases d with
 | true=>show l x w y r D q p
 | false=>show j x w y r D q p
end
abbrev TG:=V->St->Hp->(St->Hp->Prop)->Prop
abbrev yB:=mD V->St->Hp->(St->Hp->Prop)->Prop
def PG(X:Cx)(q:mQ)(t:TG):Prop :=
 ∀(w:mD (mG×Obj)) (s:mI) (y:St) (H:Hp) (v:V) (u:mH) (Q:St->Hp->Prop),nM X w y H s->Yc v u->t v y H Q->
  ∅ (assign q X.env u) (λ_ p=>∃x r,nM X w x r p/\Q x r) X.xe s
def zM(X:Cx)(ts:mD mQ)(t:yB):Prop :=
 ∀(w:mD (mG×Obj)) (s:mI) (y:St) (H:Hp) (u:mD V) (r:mD mH) (Q:St->Hp->Prop),nM X w y H s->Z8 u r->t u y H Q->
  ∅ (assignInOrder ((assignEach ts X.env).map (·.2)) r) (λ_ p=>∃x q,nM X w x q p/\Q x q) X.xe s
def rT(i:Nat):TG:=λv y H Q=>Q (y.set i<|some v) H
def FA(w:X.N.Nodup)(q:X.N[i]? =some x)(p:vY X.env.scope x)(o:X.fn x=true\/X.env.scope.names.lookup x=some .local:=by and_intros):PG X (.Name x pos) (rT i):=by
 intro l s y H v u Q I r h;show wpAny_assign_Name<|Gg I w q p r (λj n=>#[_,H,n,h]) o
def LZ:yB:=λx y H Q=>x=[]/\Q y H
def GH(t:TG)(u:yB):yB:=λw y H Q=>oC w λv r=>t v y H λx s=>u r x s Q
def Y5:zM X [] LZ:=by
 intro x s y H w u Q I r h;obtain⟨e,h⟩:=h;subst e;cases r;show assignInOrder_nil #[y,H,I,h]
def Zu(q:PG X e t)(p:zM X es u)
  (o:(assignEach (e ::es) X.env).map (·.2)=assign e X.env ::(assignEach es X.env).map (·.2):=by rfl):zM X (e ::es) (GH t u):=by
 intro w s y H c a Q I r h;obtain⟨v,x,n,h⟩:=oC.out h;subst n;cases r with
 | cons r l =>
  rw[o];refine assignInOrder_cons<|oK (q w s y H _ _ _ I r h) λ_ j ⟨x,i,g,d⟩=>?_;show p w j x i _ _ Q g l d
inductive GT(S:Hp->Addr->List V->Prop)(n:Nat)(H:Hp)(k:List V->Prop):V->Prop
 | mk {a xs}:S H a xs->xs.length=n->k xs->GT S n H k (.ref a)
def GN(K:mK)(n:Nat)(t:yB):TG:=λv y H Q=>GT (SqT K) n H (λx=>t x y H Q) v
def tN(p:X.calm=true)(h:zM X es t)
  (l:(assignEach es X.env).length=n:=by rfl) (j:(assignEach es X.env).findIdx? (·.1)=none:=by rfl):PG X (.Tuple es k pos) (GN X.K n t):=by
 intro w s y H v u Q I r x;obtain@⟨a,i,g,d,x⟩:=x;cases r;obtain⟨a,q,c,M⟩:=I.tuple g;refine assign_Tuple_tuple (I.ok.hd p) c (by simp[l,<-d,q.length]) j λY U=>?_
 have N:nM X w y H {s with heap:=Y}:=I.kept (t':=s.toks) λb o e=>U b o (oQ<|oJ e) e
 show h w _ y H i _ Q N (by simpa using q) x
def AJ(w:TE)(g:TG):TS:=λD y H=>w y H λx u=>g x y u D.nx
def PL(r:PE X e p)(o:PG X w g)(n:swapsWithSole [w] e pos.line X.env=pure false:=by rfl)(l:swappedStores [w] e X.env=pure none:=by rfl)
  (j:(assignEach [w] X.env).map (·.2)=[assign w X.env]:=by rfl):PS X (.Assign [w] e pos) (AJ p g):=by
 intro u s y H D I h;refine wpAny_Assign_stores (Wr (r u s y H _ I h) λv i x d c a Y=>?_) n l;rw[j];show oK (o u i y d x v _ c a Y) λ_ U q=>q
def Ygu(u:X.N.Nodup)(r:X.N[i]? =some x)(q:vY X.env.scope x)(p:PE X e o)(n:swapsWith e (some<|.Name x l) pos.line X.env=pure false:=by rfl)(j:X.fn x=true\/X.env.scope.names.lookup x=some .local:=by and_intros) :
  PS X (.Assign [.Name x l] e pos) (AJ o<|rT i):=by
 intro g s y H D I h;refine wpAny_Assign_Name (Wr (p g s y H _ I h) λv U w d c a Y=>?_) n;show Gg c u r q a (λU w=>#[_,d,w,Y]) j
structure It where
 go:Nat->Hp->Prop
 yld:Nat->Hp->V->Hp->Prop
 stop:Nat->Hp->Prop
def uB(X:Cx)(y:mD (mG×Obj))(H:Hp)(b:mG):Prop :=
 H b=none/\b≠X.env.locals/\b∉X.fs/\(b∈X.ex\/X.mV.heap.objs.size<=b)/\(∀x c,X.env.cells.lookup x=some c->c≠b)/\∀p∈X.pn++y,p.1≠b
def nM.fpOk(I:nM X u y H s)(w:#v[s]<=b)(r:o b=none):uB X u o b:=by
 refine#[r,wV<|qB I.lt w,I.nofs w,.inr<|oU I.sz w,λx c e z=>?_,λp n z=>?_]
 ·obtain⟨v,q⟩:=I.cell x c e;show absurd (qB q.lt (by rw[z];show w))<|sr _
 ·show absurd (qB (oJ (I.pin p n).1) (by rw[z];show w))<|sr _
structure vI(P:Program)(w:World)(K:Frag)(tg:Expr)(J:It)(fp:List Addr)(it:Addr)(tn:Nat->Heap->Prop):Prop where
 mem:it∈fp
 obj:∀i h,tn i h->∀b∈fp,∃o,h.get? b=some o/\∀v,o.data≠.cell v
 keep:∀i h h',tn i h->(∀b∈fp,∀o,h.get? b=some o->h'.get? b=some o)->tn i h'
 item:∀(X:Cx),X.prog=P->X.w=w->X.K=K->X.calm=true->∀(i:Nat)(a9:List (Addr×Obj)) (s:Shared) (σ:St) (H:Hp) (E:Value->Shared->Prop),nM X a9 σ H s->(∀b∈fp,uB X a9 H b)->tn i s.heap->J.go i H->
  wpAny (model P w) X.A (pyNext<|.ref it) (λr s1=>∃u,r=some u/\
   wpAny (model P w) X.A (letOwnedTupleGo tg (.ref it) u) (λ_ s2=>∃x H',nM X a9 σ H' s2/\Yc x u/\J.yld i H x H'/\tn (i+1) s2.heap/\∀b∈fp,H' b=none) E s1) E s
 done:∀(X:Cx),X.prog=P->X.w=w->X.K=K->X.calm=true->∀(i:Nat)(a9:List (Addr×Obj)) (s:Shared) (σ:St) (H:Hp) (E:Value->Shared->Prop),nM X a9 σ H s->(∀b∈fp,uB X a9 H b)->tn i s.heap->J.stop i H->
  wpAny (model P w) X.A (pyNext<|.ref it) (λr s1=>r=none/\nM X a9 σ H s1) E s
 self:∀(A:Around)(i:Nat)(s:Shared)(Q:Value->Shared->Prop)(E:Value->Shared->Prop),tn i s.heap->Q (.ref it) s->wpAny (model P w) A (pyIter<|.ref it) Q E s
abbrev TI:=St->Hp->(It->Hp->Prop)->Prop
def Nd(X:Cx)(u:mD (mG×Obj))(y:St)(o:mQ)(R:It->Hp->Prop)(x:mH)(s:mI):Prop :=
 ∃(r:mG)(q:mD mG)(p:Nat->mO->Prop)(J:It)(w:Hp),x=.ref r/\nM X u y w s/\vI X.prog X.w X.K o J q r p/\p 0 s.heap/\(∀b∈q,uB X u w b)/\R J w
def PI(X:Cx)(w u:mQ)(r:TI):Prop :=
 ∀(x:mD (mG×Obj)) (s:mI) (y:St) (H:Hp) (R:It->Hp->Prop),nM X x y H s->r y H R->
  ∅ (eval u X.env) (λv q=>∅ (pyIter v) (Nd X x y w R) X.xe q) X.xe s
def xS{E:mH->mI->Prop}{Q:Unit->mI->Prop}(x:s.heap.get? it=some o)(w:o.cls=.type n)(hd:o.data=.fields vs)
    (r:["enumerate","zip","dict_itemiterator","dict_reverseitemiterator","odict_iterator","itertools.zip_longest","itertools.pairwise"].contains n=false) (y:Q () s):wpAny M A (letOwnedTupleGo q (.ref it) u) Q E s:=by
  unfold letOwnedTupleGo;cases q<;>first
    | show ou y
    | (cases u<;>first
        | show ou y
        | (refine nW<|wpAny_load x ?_
           rw[w,hd];change wpAny M A (if(["enumerate","zip","dict_itemiterator","dict_reverseitemiterator","odict_iterator","itertools.zip_longest","itertools.pairwise"].contains n && vs[0]? ==some (rawInt _))=true then _ else _) Q E s;rw[nY (by intro h;rw[r,Bool.false_and]at h;cases h)];show ou y))
def vJ(K:mK)(a:mG):It :=
 #[λi H=>∃y x,SqL K H a y/\y[i]? =some x,λi H x w=>w=H/\∀y,SqL K H a y->y[i]? =some x,λi H=>∃y,SqL K H a y/\y.length<=i]
def CC(K:mK)(a:mG):It :=
 #[λi H=>∃y x,SqT K H a y/\y[i]? =some x,λi H x w=>w=H/\∀y,SqT K H a y->y[i]? =some x,λi H=>∃y,SqT K H a y/\y.length<=i]
def zp(lo:Int)(n:Nat):It:=#[λi _=>i<n,λi H x y=>y=H/\x=.int (lo+i),λi _=>n<=i]
def Ti{P:mS}{w:mP}{K:mK}{tg:mQ}(a it:mG):vI P w K tg (vJ K a) [it] it (λi h=>h.IsListIter it a i) where
 mem:=by simp
 obj:=λi h st b r=>by
  have e:b=it:=by simpa using r
  subst e;obtain⟨o,e,c,d⟩:=st;show#[o,e,λv z=>by rw[d]at z;cases z]
 keep:=λi h q st k=>st.at λo e=>k it (by simp) o e
 item:=by
  intro X j g Y C i B s y H E I n st U;subst j g Y;obtain⟨xs,x,l,Q⟩:=U;obtain⟨b9,N,p,hz⟩:=I.list l;obtain⟨u,hu,ru⟩:=N.get Q;obtain⟨M,L,f2,J,G,D⟩:=n it (by simp);refine wpAny_pyNext_list_item st p.isList (x:=u) (by simpa using hu) λq A sb=>?_
  have I1:nM X B y H {s with heap:=q}:=I.turned (t':=s.toks) (λb o r e=>(sb.2 b r).trans e) M L J G D;obtain⟨o,e,c,d⟩:=id A;show#[u,rfl,xS (s:={s with heap:=q}) e c d (by lk) #[x,H,I1,ru,#[rfl,λys hy=>by rw[I.list_inj hy l];show Q],A,λb r=>(n b r).1]]
 done:=by
  intro X j g Y C i B s y H E I n st U;subst j g Y;obtain⟨xs,l,Q⟩:=U;obtain⟨b9,N,p,hz⟩:=I.list l;obtain⟨M,L,f2,J,G,D⟩:=n it (by simp);have hl:=N.length;show wpAny_pyNext_list_end (I.ok.hd C) st p.isList (by simp;lia) λq eb=>#[rfl,I.turned (t':=s.toks) (λb o r e=>eb b o r e) M L J G D]
 self:=λ_ _ _ _ _ st h=>wpAny_pyIter_listiter st h
def Zu5{P:mS}{w:mP}{K:mK}{tg:mQ}(a it:mG):vI P w K tg (CC K a) [it] it (λi h=>h.IsTupleIter it a i) where
 mem:=by simp
 obj:=λi h st b r=>by
  have e:b=it:=by simpa using r
  subst e;obtain⟨o,e,c,d⟩:=st;show#[o,e,λv z=>by rw[d]at z;cases z]
 keep:=λi h q st k=>st.at λo e=>k it (by simp) o e
 item:=by
  intro X j g Y B i A s y H E I n st U;subst j g Y;obtain⟨xs,x,l,Q⟩:=U;obtain⟨N,M,p,hz⟩:=I.tuple l;obtain⟨u,hu,ru⟩:=M.get Q;obtain⟨L,J,f2,G,D,C⟩:=n it (by simp);refine wpAny_pyNext_tuple_item st (show s.heap.IsTuple a N.toArray from p) (x:=u) (by simpa using hu) λq C7 sb=>?_
  have I1:nM X A y H {s with heap:=q}:=I.turned (t':=s.toks) (λb o r e=>(sb.2 b r).trans e) L J G D C;obtain⟨o,e,c,d⟩:=id C7;show#[u,rfl,xS (s:={s with heap:=q}) e c d (by lk) #[x,H,I1,ru,#[rfl,λys hy=>by rw[I.tuple_inj hy l];show Q],C7,λb r=>(n b r).1]]
 done:=by
  intro X j g Y B i A s y H E I n st U;subst j g Y;obtain⟨xs,l,Q⟩:=U;obtain⟨N,M,p,hz⟩:=I.tuple l;obtain⟨L,J,f2,G,D,C⟩:=n it (by simp);have hl:=M.length;show wpAny_pyNext_tuple_end (I.ok.hd B) st (show s.heap.IsTuple a N.toArray from p) (by simp;lia) λq eb=>#[rfl,I.turned (t':=s.toks) (λb o r e=>eb b o r e) L J G D C]
 self:=λ_ _ _ _ _ st h=>wpAny_pyIter_tupleiter st h
def YY{P:mS}{w:mP}{K:mK}{M:mQ}(it:mG)(lo:Int)(n:Nat):vI P w K M (zp lo n) [it] it (λi h=>IsRangeIter h it (lo+(i:Nat) * 1) ((n:Int)-(i:Nat)) 1) where
 mem:=by simp
 obj:=λi h st b x=>by
  have e:b=it:=by simpa using x
  subst e;show#[_,st,λv z=>by
   have L:Data.fields _=Data.cell v:=z;cases L]
 keep:=λi h u st k=>k it (by simp) _ st
 item:=by
  intro X q p l j i Q s y H E I r st g;subst q p l;obtain⟨d,c,J,a,Y,U⟩:=r it (by simp);have W:=Walks.range (prog:=X.prog) (w:=X.w) (I.ok.hd j) it lo 1 n;refine W.item i s _ _ g st λv u tk G N D=>?_
  obtain⟨t,rfl⟩:=G;have C:nM X Q y H {s with heap:=u,toks:=tk}:=I.turned (λb o x e=>D b o (by simpa using x) e) d c a Y U;refine#[_,rfl,xS (s:={s with heap:=u,toks:=tk}) (n :="range_iterator") N rfl rfl (by lk) #[.int<|lo+i,H,C,#[t,?_],#[rfl,rfl],N,λb x=>(r b x).1]];rw[Int.mul_one]
 done:=by
  intro X q p l j i Q s y H E I r st g;subst q p l;obtain⟨d,c,J,a,Y,U⟩:=r it (by simp);show wpAny_pyNext_range_end (I.ok.hd j) st (by have:n<=i:=g;lia) λu B=>#[rfl,I.turned (t':=s.toks) (λb o x e=>B b o x e) d c a Y U]
 self:=λ_ _ _ _ _ st h=>wpAny_pyIter_rangeiter st h
inductive Ir(S:Hp->Addr->List V->Prop)(I:Addr->It)(R:It->Hp->Prop)(H:Hp):V->Prop
 | mk {a xs}:S H a xs->R (I a) H->Ir S I R H (.ref a)
def Yh8(K:mK)(w:TE):TI:=λy H R=>w y H λx u=>Ir (SqL K) (vJ K) R u x
def Yka(K:mK)(w:TE):TI:=λy H R=>w y H λx u=>Ir (SqT K) (CC K) R u x
def Yd{l:mQ}{r:TE}(n:PE X l r):PI X U l (Yh8 X.K r):=by
 intro j s y H R I h;refine Wr (n j s y H _ I h) λv w x i u g d=>?_
 obtain@⟨a,o,c,q⟩:=d;cases g;obtain⟨o,Q,p,N⟩:=u.list c;refine yH p.isList ?_;refine#[#v[w],[#v[w]],_,_,i,rfl,u.kept (t':=w.toks) λb o e=>oH _ e,Ti a _,#[_,pp _ rfl,rfl,rfl],λb Y=>?_,q];have e:b=#v[w]:=by simpa using Y
 subst e;show u.fpOk (oq _)<|u.hok.fresh<|oq _
def AG{l:mQ}{r:TE}(n:PE X l r):PI X Q l (Yka X.K r):=by
 intro j s y H R I h;refine Wr (n j s y H _ I h) λv w x i u g d=>?_
 obtain@⟨a,o,c,q⟩:=d;cases g;obtain⟨Y,o,p,N⟩:=u.tuple c;refine wpAny_pyIter_tuple (show w.heap.IsTuple a Y.toArray from p) ?_;refine#[#v[w],[#v[w]],_,_,i,rfl,u.kept (t':=w.toks) λb o e=>oH _ e,Zu5 a _,#[_,pp _ rfl,rfl,rfl],λb U=>?_,q];have e:b=#v[w]:=by simpa using U
 subst e;show u.fpOk (oq _)<|u.hok.fresh<|oq _
def OB{w:mD (mG×Obj)}{y:St}{H:Hp}{s:mI}{R:It->Hp->Prop}{E:mH->mI->Prop}{lo x:Int}{t u v:Tok}{tk:Nat}(I:nM X w y H s)(p:-(2 ^ 62)<=lo)(n:lo<2 ^ 62)(l:-(2 ^ 62)<=x)(j:x<2 ^ 62)
  (q:R (zp lo (x-lo).toNat) H):∅ (pyIter<|.ref #v[s]) (Nd X w y d R) E {s with heap:=s.heap.push {cls:=.type "range",data:=.fields (List.toArray [.int lo t,.int x u,.int 1 v])},toks:=tk}:=by
 refine wpAny_pyIter_range (IsRange.new ..) (small_one p n l j) ?_;have r:nM X w y H {s with heap:=s.heap.push {cls:=.type "range",data:=.fields (List.toArray [.int lo t,.int x u,.int 1 v])},toks:=tk}:=I.kept λb o e=>oH _ e
 refine#[(s.heap.push {cls:=.type "range",data:=.fields (List.toArray [.int lo t,.int x u,.int 1 v])}).objs.size,[(s.heap.push {cls:=.type "range",data:=.fields (List.toArray [.int lo t,.int x u,.int 1 v])}).objs.size],_,_,H,rfl,
  r.kept (t':=tk) λb o e=>oH _ e,YY _ lo (x-lo).toNat,?_,λb i=>?_,q]
 ·have h:lo+((0:Nat):Int) * 1=lo:=by simp
  have g:(((x-lo).toNat:Nat):Int)-((0:Nat):Int)=Builtin.Range.rangeSize lo x 1:=by rw[rangeSize_one];split<;>lia
  change IsRangeIter _ _ (lo+((0:Nat):Int) * 1) ((((x-lo).toNat:Nat):Int)-((0:Nat):Int)) 1;rw[h,g];show pp _ rfl
 ·have e:b=(s.heap.push {cls:=.type "range",data:=.fields (List.toArray [.int lo t,.int x u,.int 1 v])}).objs.size:=by simpa using i
  subst e;show r.fpOk (oq _)<|r.hok.fresh<|oq _
def Vj(x:TA):TI:=λy H R=>x y H λw u=>∃j:Int,w=[.int j]/\-(2 ^ 62)<=j/\j<2 ^ 62/\R (zp 0 j.toNat) u
def UH(x:TA):TI:=λy H R=>x y H λw u=>∃i j:Int,w=[.int i,.int j]/\(-(2 ^ 62)<=i/\i<2 ^ 62/\-(2 ^ 62)<=j/\j<2 ^ 62)/\R (zp i (j-i).toNat) u
def Zyk{a:mQ}{w:TA}{p pos:Pos}(u:Gl X "range")(o:X.mg "range"=none)(n:PA X [a] w)(l:starEach [a] X.env=[(false,eval a X.env)]:=by rfl):PI X Y (.Call (.Name "range" p) [a] [] pos) (Vj w):=by
 intro i s y H R I h;refine Call_<|vf I u o boot_range<|yj (uJ (n pos i s y H _ I h) λr j U Q g d x=>?_) l rfl;obtain⟨j,e,x,c,q⟩:=x;subst e;cases d with
 | cons r j =>
  cases j;obtain⟨t,rfl⟩:=r;show call_range_1 (OB g (by lia) (by lia) x c<|by simpa using q)
def Fy(o:Gl X "range")(n:X.mg "range"=none)(l:PA X [a,b] g)(d:starEach [a,b] X.env=[(false,eval a X.env),(false,eval b X.env)]:=by rfl)(x:starEach [b] X.env=[(false,eval b X.env)]:=by rfl) :
  PI X L (.Call (.Name "range" p) [a,b] [] pos) (UH g):=by
 intro c s y H R I h;refine Call_ (vf I o n boot_range<|yj (uJ (l pos c s y H _ I h) λu r j i Y U w=>?_) (by rw[d,x])<|by rw[x];rfl);obtain⟨i,j,e,⟨w,Q,N,M⟩,q⟩:=w;subst e;cases U with
 | cons r u =>
  cases u with
  | cons j u =>
   cases u;obtain⟨t,rfl⟩:=r;obtain⟨i,rfl⟩:=j;show call_range_2<|OB Y w Q N M q
def XR(q:TI)(g:TG)(p:TS):TS:=λD y H=>q y H λJ o=>∃W:Nat->Nat->St->Hp->Prop,(∃m,W 0 m y o)/\∀i m y H,W i m y H->
 (J.stop i H/\D.nx y H)\/(J.go i H/\∃N:St->Hp->Prop,(∀w u,N w u->∃r,r<m/\W (i+1) r w u)/\∀x u,J.yld i H x u->g x y u λs n=>p {D with nx:=N,ct:=N,bk:=D.nx} s n)
def AO(y:mD mG)(h:mO):mD (mG×Obj):=y.filterMap λb=>(h.get? b).map λo=>(b,o)
def Dv(y:b∈x)(e:h.get? b=some o):(b,o)∈AO x h:=EE.mpr #[b,y,by rw[e];rfl]
def VQ(y:p∈AO x h):p.1∈x/\h.get? p.1=some p.2:=by
 obtain⟨b,w,e⟩:=EE.mp y;cases q:h.get? b with
 | none=>rw[q]at e;cases e
 | some o =>
  rw[q]at e;have u:(b,o)=p:=pI e;subst u;show#[w,q]
def nM.pinned(I:nM X x y H s)(q:∀b∈w,uB X x H b)(n:∀b∈w,∃o,s.heap.get? b=some o/\∀v,o.data≠.cell v):nM X (x++AO w s.heap) y H s :=
 I.pins_of λp l=>(pC.mp l).elim (λz=>I.pin p<|rN _ z) λz=>by
  obtain⟨u,e⟩:=VQ z;obtain⟨j,i,h,_⟩:=q p.1 u;obtain⟨o,r,d⟩:=n p.1 u;rw[e]at r;cases r;show#[e,j,i,h,d]
def nM.unpinned(I:nM X (x++pl) y H s):nM X x y H s:=I.pins_of λp w=>I.pin p<|rN _<|zC _ w
def Y9(Q:PassesOwn (model X.prog X.w) X.A X.env X.xe)(hc:X.calm=true)(hi:PI X tg u9 wi)(hg:PG X tg g)(q:rQ X body tb)
  (hs:∀x,foldedSetIterable u9 X.env x=pure x:=by intro _;rfl):PS X (.For tg u9 body [] pos) (XR wi g tb):=by
 intro U s y H D I h;refine wpAny_For (oK (hi U s y H _ I h) λv o w=>oK w λu j h2=>?_) hs;obtain⟨w,M,tn,J,H2,e,I2,T,d7,f2,W,⟨m0,w0⟩,O4⟩:=h2;subst e;have E:∀{a:Hp},(∀b∈M,a b=none)->∀b∈M,uB X U a b:=λhn b q=>#[hn b q,(f2 b q).2]
 refine codeAny_forLoop_any (λn w=>∃i p a,nM X U p a w/\tn i w.heap/\(∀b∈M,a b=none)/\W i n p a) ?_ m0 #[0,y,H2,I2,d7,λb q=>(f2 b q).1,w0];rintro n s3 ⟨i,l,G,I3,x9,L,w3⟩;rcases O4 i n l G w3 with⟨stop,qn⟩|⟨go,N,hN,step⟩
 ·refine xW Q<|oK (T.done X rfl rfl rfl hc i U s3 l G X.xe I3 (E L) x9 stop) λr s4 ⟨C,w⟩=>?_;subst C;show Cj #[l,G,w,qn]
 ·refine xW Q<|oK (T.item X rfl rfl rfl hc i U s3 l G X.xe I3 (E L) x9 go) λr s4 ⟨u,C,h4⟩=>?_;subst C;refine xW Q<|oK h4 λ_ s5 h9=>?_;obtain⟨x,H5,I5,r5,y5,B,A⟩:=h9;have I5':=I5.pinned (E A)<|T.obj _ _ B;refine xW Q<|oK (hg _ s5 l H5 x u _ I5' r5<|step x H5 y5) λ_ s6 ⟨σ6,H6,I6,q6⟩=>?_;refine xW Q<|oK (q _ s6 σ6 H6 _ I6 q6) λf s7 Y=>?_;have again:∀{w:St}{j:Hp},nM X (U++AO M s5.heap) w j s7->N w j->∃m,m<n/\∃i p a,nM X U p a s7/\tn i s7.heap/\(∀b∈M,a b=none)/\W i m p a:=λ{w j} c J=>by
   obtain⟨m',hm,w7⟩:=hN w j J;refine#[m',hm,i+1,w,j,c.unpinned,T.keep _ _ _ B λb q o e=>(c.pin (b,o)<|rN _<|rN _<|Dv q e).1,λb q=>?_,w7];obtain⟨o,e,d⟩:=T.obj _ _ B b q;show(c.pin (b,o)<|rN _<|rN _<|Dv q e).2.1
  cases f with
  | next=>obtain⟨w,j,c,J⟩:=Y;show again c J
  | cont=>obtain⟨w,j,c,J⟩:=Y;show again c J
  | brk=>obtain⟨w,j,c,Y⟩:=Y;show#[w,j,c.unpinned,Y]
  | ret v=>obtain⟨d,w,j,c,r7,Y⟩:=Y;show#[d,w,j,c.unpinned,r7,Y]
abbrev yd(J:It)(g:TG)(tb:TS)(D:qD)(σ:St)(H:Hp):Prop:=∃W:Nat->Nat->St->Hp->Prop,(∃m,W 0 m σ H)/\∀i m σ H,W i m σ H->
   (J.stop i H/\D.nx σ H)\/(J.go i H/\∃N:St->Hp->Prop,(∀σ' H',N σ' H'->∃m',m'<m/\W (i+1) m' σ' H')/\∀x H',J.yld i H x H'->g x σ H' λσ2 H2=>tb {D with nx:=N,ct:=N,bk:=D.nx} σ2 H2)
def Xx{S:Type}{J:It}{n:Nat}{r:S}{q:Hp}{B:S->V->Hp->(S->Hp->Prop)->Prop}{Dn:S->Hp->Prop}(Pv:Nat->S->Hp->Prop)(l:Pv 0 r q)(j:∀s H,Pv n s H->J.stop n H)(w:∀i s H,i<n->Pv i s H->J.go i H/\∀x y,J.yld i H x y->B s x y (Pv<|i+1))(hd:∀s H,Pv n s H->Dn s H) :
  ∃W:Nat->Nat->S->Hp->Prop,(∃m,W 0 m r q)/\∀i m s H,W i m s H->(J.stop i H/\Dn s H)\/(J.go i H/\∃N:S->Hp->Prop,(∀s' y,N s' y->∃o,o<m/\W (i+1) o s' y)/\∀x y,J.yld i H x y->B s x y N):=by
 refine#[λi m s H=>m=n-i/\i<=n/\Pv i s H,#[n,by simp,sY _,l],?_];rintro i m s H ⟨rfl,h,p⟩
 by_cases u:i<n
 ·show .inr #[(w i s H u p).1,Pv<|i+1,λs' y h=>#[n-(i+1),Nat.sub_succ_lt_self _ _ u,rfl,u,h],(w i s H u p).2]
 ·obtain rfl:i=n:=by lia
  show .inl #[j s H p,hd s H p]
def W7{K:mK}{a:mG}{xs:mD V}{g:TG}{o:TS}{D:qD}{y:St}{H:Hp}(Pv:Nat->St->Hp->Prop)(n:Pv 0 y H)(u:∀i y H,i<=xs.length->Pv i y H->SqL K H a xs)
  (l:∀i x y H,xs[i]? =some x->Pv i y H->g x y H λr j=>o {D with nx:=Pv<|i+1,ct:=Pv<|i+1,bk:=D.nx} r j) (hd:∀y H,Pv xs.length y H->D.nx y H) :
  yd (vJ K a) g o D y H:=Xx Pv n (λs H p=>#[xs,u _ s H (oq _) p,oq _]) (λi s H q p=>#[#[xs,xs[i],u i s H (qm q) p,pJ q],λx h ⟨e,w⟩=>e ▸ l i x s _ (w xs<|u i s H (qm q) p) p]) hd
def RQ{K:mK}{a:mG}{xs:mD V}{g:TG}{o:TS}{D:qD}{y:St}{H:Hp}(Pv:Nat->St->Hp->Prop)(n:Pv 0 y H)(u:∀i y H,i<=xs.length->Pv i y H->SqT K H a xs)
  (l:∀i x y H,xs[i]? =some x->Pv i y H->g x y H λr j=>o {D with nx:=Pv<|i+1,ct:=Pv<|i+1,bk:=D.nx} r j) (hd:∀y H,Pv xs.length y H->D.nx y H) :
  yd (CC K a) g o D y H:=Xx Pv n (λs H p=>#[xs,u _ s H (oq _) p,oq _]) (λi s H q p=>#[#[xs,xs[i],u i s H (qm q) p,pJ q],λx h ⟨e,w⟩=>e ▸ l i x s _ (w xs<|u i s H (qm q) p) p]) hd
def HG{lo:Int}{n:Nat}{g:TG}{r:TS}{D:qD}{y:St}{H:Hp}(Pv:Nat->St->Hp->Prop)(o:Pv 0 y H)
  (l:∀i y H,i<n->Pv i y H->g (.int<|lo+i) y H λu j=>r {D with nx:=Pv<|i+1,ct:=Pv<|i+1,bk:=D.nx} u j) (hd:∀y H,Pv n y H->D.nx y H) :
  yd (zp lo n) g r D y H:=Xx Pv o (λ_ _ _=>oq _) (λi s H q p=>#[q,λx h ⟨e,w⟩=>by subst e w;show l i s _ q p]) hd
abbrev R2:=V->V->Hp->VK->Prop
def oS(X:Cx)(f:mH->mH->Sem mH)(r:R2):Prop :=
 ∀(q:mD (mG×Obj)) (s:mI) (y:St) (H:Hp) (x w:V) (v u:mH) (Q:VK),nM X q y H s->Yc x v->Yc w u->r x w H Q->
  ∅ (f v u) (EP X q y Q) X.xe s
def HL(X:Cx)(f:mH->Sem mH)(r:V->Hp->VK->Prop):Prop :=
 ∀(w:mD (mG×Obj)) (s:mI) (y:St) (H:Hp) (x:V) (v:mH) (Q:VK),nM X w y H s->Yc x v->r x H Q->
  ∅ (f v) (EP X w y Q) X.xe s
def Y7(X:Cx)(f:mH)(r:mD V->Hp->VK->Prop):Prop :=
 ∀(x:mD (mG×Obj)) (s:mI) (y:St) (H:Hp) (w:mD V) (u:mD mH) (Q:VK),nM X x y H s->Z8 w u->r w H Q->
  ∅ (call f u) (EP X x y Q) X.xe s
def Ykb(X:Cx)(r:V->Hp->(Bool->Hp->Prop)->Prop):Prop :=
 ∀(w:mD (mG×Obj)) (s:mI) (y:St) (H:Hp) (x:V) (v:mH) (Q:Bool->Hp->Prop),nM X w y H s->Yc x v->r x H Q->
  ∅ (truthy v) (TP X w y Q) X.xe s
def rR(r:R2)(u s:TE):TE:=λy H Q=>u y H λx q=>s y q λw p=>r x w p Q
def tUn(r:V->Hp->VK->Prop)(w:TE):TE:=λy H Q=>w y H λx u=>r x u Q
def rI(C:Int->Int->Prop)(g:Int->Int->V):R2:=λx y H Q=>oI x λi=>oI y λj=>C i j/\Q (g i j) H
def xc(g:Int->Int->V):R2:=λx y H Q=>oI x λi=>oI y λj=>Q (g i j) H
def rU(g:Int->V):V->Hp->VK->Prop:=λx H Q=>oI x λi=>Q (g i) H
def Jj(n:PE X a l)(j:PE X b i){R:V->V->Hp->Prop}(I:nM X p y H s)
  (h:l y H λx o=>i y o λw r=>R x w r) {Q:mH->mI->Prop} {f:mH->mH->Sem mH}
  (g:∀v u q x w r,nM X p y r q->Yc x v->Yc w u->R x w r->∅ (f v u) Q X.xe q) :
  ∅ (eval a X.env) (λv e=>∅ (eval b X.env) (λu d=>∅ (f v u) Q X.xe d) X.xe e) X.xe s:=by
 refine Wr (n p s y H _ I h) λv c x o Y U N=>?_
 refine Wr (j p c y o _ Y N) λu q w r M L J=>?_
 show g v u q x w r M U L J
def Zr(p:oS X (binaryOp op) r)(o:PE X a n)(l:PE X b j):PE X (.BinOp a op b pos) (rR r n j):=by
 intro i s y H Q I h;show wpAny_BinOp<|Jj o l I h λv u g x w e d c Y q=>p i g y e x w v u Q d c Y q
def wo{r:V->Hp->VK->Prop}(u:HL X (unaryOp op) r)(q:PE X a p):PE X (.UnaryOp op a pos) (tUn r p):=by
 intro w s y H Q I h;show UnaryOp_<|Wr (q w s y H _ I h) λv o x n l j i=>u w o y n x v Q l j i
def Gv{f:mH->mH->Sem mH}{C:Int->Int->Prop}{g:Int->Int->Int}
  (rule:∀(i j:Int)(t u:Tok)(s:mI)(Q:mH->mI->Prop)(E:mH->mI->Prop),C i j->Q (.int (g i j) s.toks) {s with toks:=s.toks+1}->∅ (f (.int i t)<|.int j u) Q E s) :
  oS X f (rI C λi j=>.int<|g i j):=by
 intro e s y H x w v u Q I r p h;obtain⟨i,rfl,o⟩:=oI.out h;obtain⟨j,rfl,n,q⟩:=oI.out (x:=w) o;obtain⟨t,rfl⟩:=r;obtain⟨l,rfl⟩:=p;show rule i j t l s _ _ n #[.int<|g i j,H,I.tok _,#[_,rfl],q]
def Kg{f:mH->mH->Sem mH}{g:Int->Int->Int}
  (rule:∀(i j:Int)(t u:Tok)(s:mI)(Q:mH->mI->Prop)(E:mH->mI->Prop),Q (.int (g i j) s.toks) {s with toks:=s.toks+1}->∅ (f (.int i t)<|.int j u) Q E s) :
  oS X f (xc λi j=>.int<|g i j):=by
 intro l s y H x w v u Q I r p h;obtain⟨i,rfl,o⟩:=oI.out h;obtain⟨j,rfl,q⟩:=oI.out (x:=w) o;obtain⟨t,rfl⟩:=r;obtain⟨n,rfl⟩:=p;show rule i j t n s _ _ #[.int<|g i j,H,I.tok _,#[_,rfl],q]
def ID{f:mH->mH->Sem mH}{g:Int->Int->Bool}
  (rule:∀(i j:Int)(t u:Tok)(s:mI)(Q:mH->mI->Prop)(E:mH->mI->Prop),Q (.bool<|g i j) s->∅ (f (.int i t)<|.int j u) Q E s) :
  oS X f (xc λi j=>.bl<|g i j):=by
 intro l s y H x w v u Q I r p h;obtain⟨i,rfl,o⟩:=oI.out h;obtain⟨j,rfl,q⟩:=oI.out (x:=w) o;obtain⟨t,rfl⟩:=r;obtain⟨n,rfl⟩:=p;show rule i j t n s _ _ #[.bl<|g i j,H,I,rfl,q]
def Yjv(i j:Int):Prop:=0<j/\j<1073741824
def Fg(i j:Int):Prop:=(-(2 ^ 64)<i/\i<2 ^ 64)\/(-(2 ^ 64)<j/\j<2 ^ 64)
def Fg.ok(h:Fg i j):IntMulOk i j:=by
 rcases h with⟨y,x⟩|⟨y,x⟩
 ·show .of_left<|intBits_le_64 y x
 ·show .of_right<|intBits_le_64 y x
def Vt:oS X (binaryOp .Add) (xc λi j=>.int<|i+j):=Kg λ_ _ _ _ _ _ _ q=>add_int q
def wl:oS X (binaryOp .Sub) (xc λi j=>.int<|i-j):=Kg λ_ _ _ _ _ _ _ q=>sub_int q
def zc:oS X (binaryOp .Mult) (rI Fg λi j=>.int<|i * j):=Gv λ_ _ _ _ _ _ _ y q=>mul_int q y.ok
def Yn:oS X (binaryOp .FloorDiv) (rI Yjv λi j=>.int<|i / j):=Gv λi j _ _ _ _ _ y q=>by
 have x:(0:Int)<j:=y.1;have w:j<1073741824:=y.2;show floordiv_int (by lia) (by rw[Int.fdiv_eq_ediv_of_nonneg i (by lia)];show q) (.inl<|PyProof.noPylong_small<|by lia)
def Ym:oS X (binaryOp .Mod) (rI (λ_ j=>0<j) λi j=>.int<|i%j):=Gv λi j _ _ _ _ _ y q=>by
 have x:(0:Int)<j:=y;show mod_int' (by lia) (by rw[Int.fmod_eq_emod_of_nonneg i (by lia)];show q)
def unI{f:mH->Sem mH}{g:Int->Int}
  (rule:∀(i:Int)(t:Tok)(s:mI)(Q:mH->mI->Prop)(E:mH->mI->Prop),Q (.int (g i) s.toks) {s with toks:=s.toks+1}->∅ (f<|.int i t) Q E s) :
  HL X f (rU λi=>.int<|g i):=by
 intro u s y H x v Q I w h;obtain⟨i,rfl,q⟩:=oI.out h;obtain⟨t,rfl⟩:=w;show rule i t s _ _ #[.int<|g i,H,I.tok _,#[_,rfl],q]
def wq:HL X (unaryOp .USub) (rU λi=>.int (-i)):=unI λ_ _ _ _ _ q=>neg_int q
def Od:V->V->Bool
 | .non,.non=>true|.non,.int _=>true|.int _,.non=>true|.non,.bl _=>true|.bl _,.non=>true|.non,.str _=>true|.str _,.non=>true
 | .int _,.int _=>true|.bl _,.bl _=>true|.str _,.str _=>true|.byt _,.byt _=>true
 | .int _,.str _=>true|.str _,.int _=>true|.bl _,.str _=>true|.str _,.bl _=>true
 | _,_=>false
def Qh:R2:=λx y H Q=>Od x y=true/\Q (.bl<|decide<|x=y) H
def RY:R2:=λx y H Q=>Od x y=true/\Q (.bl (!decide (x=y))) H
def Mm:decide (V.int i=V.int j)=(i ==j):=by
 rw[tL];simp
def NE:decide (V.bl i=V.bl j)=(i ==j):=by
 rw[tL];simp
def RF:decide (V.str i=V.str j)=(i ==j):=by
 rw[tL];simp
def Mc:decide (V.byt i=V.byt j)=(i.toList ==j.toList):=by
 rw[tL];cases i;cases j;simp
def Yu(I:nM X x y H s)(q:Q (.bl k) H)(e:k=w):EP X x y Q (.bool w) s:=by
 subst e;show#[.bl k,H,I,rfl,q]
def Qv:oS X (compareOp .Eq) Qh:=by
 intro l s y H x w v u Q I n r h;obtain⟨o,q⟩:=h;cases x with
 | non =>
  cases n;cases w with
  | non=>cases r;show PySem.EqNone.eq_none_none (Yu I q<|by simp)
  | bl j=>cases r;show PySem.EqNone.eq_none_bool (Yu I q<|by simp)
  | int j=>obtain⟨p,rfl⟩:=r;show PySem.EqNone.eq_none_int (Yu I q<|by simp)
  | str j=>obtain⟨p,rfl⟩:=r;show PySem.EqNone.eq_none_str (Yu I q<|by simp)
  | _=>show absurd (show false=true from o) pi
 | bl i =>
  cases n;cases w with
  | non=>cases r;show PySem.EqNone.eq_bool_none (Yu I q<|by simp)
  | bl j=>cases r;show eq_bool (Yu I q NE)
  | str j=>obtain⟨p,rfl⟩:=r;show PySem.EqMixed.eq_bool_str (Yu I q<|by simp)
  | _=>show absurd (show false=true from o) pi
 | int i =>
  obtain⟨t,rfl⟩:=n;cases w with
  | non=>cases r;show PySem.EqNone.eq_int_none (Yu I q<|by simp)
  | int j=>obtain⟨p,rfl⟩:=r;show eq_int (Yu I q Mm)
  | str j=>obtain⟨p,rfl⟩:=r;show PySem.EqMixed.eq_int_str (Yu I q<|by simp)
  | _=>show absurd (show false=true from o) pi
 | str i =>
  obtain⟨t,rfl⟩:=n;cases w with
  | non=>cases r;show PySem.EqNone.eq_str_none (Yu I q<|by simp)
  | bl j=>cases r;show PySem.EqMixed.eq_str_bool (Yu I q<|by simp)
  | int j=>obtain⟨p,rfl⟩:=r;show PySem.EqMixed.eq_str_int (Yu I q<|by simp)
  | str j=>obtain⟨p,rfl⟩:=r;show eq_str (Yu I q RF)
  | _=>show absurd (show false=true from o) pi
 | byt i =>
  obtain⟨t,rfl⟩:=n;cases w with
  | byt j=>obtain⟨p,rfl⟩:=r;show PySem.W.eq_bytes (Yu I q Mc)
  | _=>show absurd (show false=true from o) pi
 | _=>cases w<;>show absurd (show false=true from o) pi
def Yir:oS X (compareOp .NotEq) RY:=by
 intro l s y H x w v u Q I n r h;obtain⟨o,q⟩:=h;cases x with
 | non =>
  cases n;cases w with
  | non=>cases r;show PySem.EqNone.ne_none_none (Yu I q<|by simp)
  | bl j=>cases r;show PySem.EqNone.ne_none_bool (Yu I q<|by simp)
  | int j=>obtain⟨p,rfl⟩:=r;show PySem.EqNone.ne_none_int (Yu I q<|by simp)
  | str j=>obtain⟨p,rfl⟩:=r;show PySem.EqNone.ne_none_str (Yu I q<|by simp)
  | _=>show absurd (show false=true from o) pi
 | bl i =>
  cases n;cases w with
  | non=>cases r;show PySem.EqNone.ne_bool_none (Yu I q<|by simp)
  | bl j=>cases r;show ne_bool (Yu I q<|pO not NE)
  | str j=>obtain⟨p,rfl⟩:=r;show PySem.EqMixed.ne_bool_str (Yu I q<|by simp)
  | _=>show absurd (show false=true from o) pi
 | int i =>
  obtain⟨t,rfl⟩:=n;cases w with
  | non=>cases r;show PySem.EqNone.ne_int_none (Yu I q<|by simp)
  | int j=>obtain⟨p,rfl⟩:=r;show ne_int (Yu I q<|pO not Mm)
  | str j=>obtain⟨p,rfl⟩:=r;show PySem.EqMixed.ne_int_str (Yu I q<|by simp)
  | _=>show absurd (show false=true from o) pi
 | str i =>
  obtain⟨t,rfl⟩:=n;cases w with
  | non=>cases r;show PySem.EqNone.ne_str_none (Yu I q<|by simp)
  | bl j=>cases r;show PySem.EqMixed.ne_str_bool (Yu I q<|by simp)
  | int j=>obtain⟨p,rfl⟩:=r;show PySem.EqMixed.ne_str_int (Yu I q<|by simp)
  | str j=>obtain⟨p,rfl⟩:=r;show ne_str (Yu I q<|pO not RF)
  | _=>show absurd (show false=true from o) pi
 | byt i =>
  obtain⟨t,rfl⟩:=n;cases w with
  | byt j=>obtain⟨p,rfl⟩:=r;show PySem.W.ne_bytes (Yu I q<|pO not Mc)
  | _=>show absurd (show false=true from o) pi
 | _=>cases w<;>show absurd (show false=true from o) pi
def yx:oS X (compareOp .Lt) (xc λi j=>.bl<|decide<|i<j):=ID λ_ _ _ _ _ _ _ q=>lt_int q
def EB:oS X (compareOp .LtE) (xc λi j=>.bl<|decide<|i<=j):=ID λ_ _ _ _ _ _ _ q=>le_int q
def xo:oS X (compareOp .Gt) (xc λi j=>.bl<|decide<|j<i):=ID λ_ _ _ _ _ _ _ q=>gt_int q
def Zyv:oS X (compareOp .In) (λx w H Q=>∃i j,x=.str i/\w=.str j/\Q (.bl (!(Builtin.Str.occurrences j i 0 j.length 1).isEmpty)) H):=by
 intro o s y H x w v u Q I r p h;obtain⟨i,j,rfl,rfl,q⟩:=h;obtain⟨t,rfl⟩:=r;obtain⟨n,rfl⟩:=p;show in_str<|Yu I q rfl
def Hs:oS X (compareOp .Is) (λx w H Q=>w=.non/\Q (.bl<|decide<|x=.non) H):=by
 intro o s y H x w v u Q I r p h;obtain⟨rfl,q⟩:=h;cases p;refine is_none_gen<|Yu I q ?_;cases x<;>first
  | (cases r;rfl)
  | (obtain⟨t,rfl⟩:=r;rfl)
def TK:oS X (compareOp .IsNot) (λx w H Q=>w=.non/\Q (.bl (!decide (x=.non))) H):=by
 intro o s y H x w v u Q I r p h;obtain⟨rfl,q⟩:=h;cases p;refine isnot_none_gen<|Yu I q ?_;cases x<;>first
  | (cases r;rfl)
  | (obtain⟨t,rfl⟩:=r;rfl)
def oS.or{f:mH->mH->Sem mH}(h:oS X f r)(h':oS X f l):oS X f (λx w H Q=>r x w H Q\/l x w H Q):=by
 intro p s y H x w v u Q I o n q;rcases q with q|q
 ·show h p s y H x w v u Q I o n q
 ·show h' p s y H x w v u Q I o n q
def Yv(b:mQ)(h:op≠.In:=by lk)(y:op≠.NotIn:=by lk):behindInMarks op b=false:=by
 cases b<;>try rfl
 show Qp.mpr<|.inl<|Qp.mpr<|.inr<|Bool.or_eq_false_iff.mpr #[beq_false_of_ne h,beq_false_of_ne y]
def Bz(p:oS X (compareOp op) r)(o:PE X a n)(l:PE X b j)(i:behindInMarks op b=false):PE X (.Compare a [op] [b] pos) (rR r n j):=by
 intro g s y H Q I h;show wpAny_Compare1 (Jj o l I h λv u e x w d c Y U q=>p g e y d x w v u Q c Y U q) i
def yz(t:TE):TT:=λy H Q=>t y H λx w=>oB x λk=>Q k w
def Yg(o:oS X (compareOp op) r)(n:PE X a l)(j:PE X b i)(g:behindInMarks op b=false):PT X (.Compare a [op] [b] pos) (yz<|rR r l i):=by
 intro q s y H Q I h;refine wpAny_isTrue_Compare1 (Wr (n q s y H _ I h) λv d x Y U N M=>Wr (j q d y Y _ U M) λu L w J G E D =>
  Wr (o q L y J x w v u _ G N E D) λc s3 z C B A p=>?_) g
 obtain⟨k,e,p⟩:=oB.out p;subst e;cases A;show vj #[C,B,p]
def Yfq(r s:R2)(q p o:TE):TE:=λy H Q=>q y H λx n=>p y n λw l=>r x w l λz u=>oB z λk =>
 (if k=true then o y u λj i=>s w j i Q else Q (.bl false) u)
def Rc(i:oS X (compareOp op) r)(g:oS X (compareOp q) Y)(U:PE X a N)(M:PE X b L)(J:PE X c G)
  (E:lastMarks [op,q] [b,c]=false:=by with_unfolding_all rfl):PT X (.Compare a [op,q] [b,c] pos) (yz<|Yfq r Y N L G):=by
 intro p s y H Q I h;refine isTrue_chain (Wr (U p s y H _ I h) λv D x C B A q1=>test_link (Wr (M p D y C _ B q1) λu s2 w H2 I2 n q2 =>
  Wr (i p s2 y H2 x w v u _ I2 A n q2) λd s3 z l j r3 o=>?_)) E
 obtain⟨k,e,o⟩:=oB.out o;subst e;cases r3;refine vj ?_;cases k with
 | false =>
  show ite_ff #[l,j,o]
 | true =>
  refine ite_tt<|test_last<|Wr (J p s3 y l _ j o) λd D C B A r4 q4=>Wr (g p D y B w C u d _ A n r4 q4) λd' s5 z2 H5 I5 r5 x=>?_;obtain⟨d,e2,x⟩:=oB.out x;subst e2;cases r5;show vj #[H5,I5,x]
def QV(K:mK)(x:V)(H:Hp)(k:Bool):Prop :=
 match x with
 | .non=>k=false
 | .bl b=>k=b
 | .int i=>k=(i !=0)
 | .str y=>y.length<=sizeLine/\k=((y.length:Int) !=0)
 | .byt y=>y.size<=sizeLine/\k=((y.size:Int) !=0)
 | .ref p=>(∃w,SqL K H p w/\k=!w.isEmpty)\/(∃w,SqT K H p w/\k=!w.isEmpty)\/∃u,H p=some (.dK u)/\k=!u.isEmpty
 | _=>False
def Zu9{y:Type}{kvs:mD (y×V)}{vs:mD (y×mH)}(r:KV kvs vs):(!vs.isEmpty)=!kvs.isEmpty:=by
 cases r<;>rfl
def MV(r:Z8 xs y):(!y.toArray.isEmpty)=!xs.isEmpty:=by
 cases r<;>simp
def zt:(sizeLine:Nat)<2 ^ 63:=by rw[uh];decide
def Ygm:Ykb X (λx H Q=>∃k,QV X.K x H k/\Q k H):=by
 intro N s y H x v Q I l h;obtain⟨k,e,q⟩:=h;have M:=zt;have L:sizeLine=16777216:=uh;cases x with
 | non =>
  cases l;have u:k=false:=e;subst u;show truthy_none #[H,I,q]
 | bl b =>
  cases l;have u:k=b:=e;subst u;show vj #[H,I,q]
 | int i =>
  obtain⟨t,rfl⟩:=l;have u:k=(i !=0):=e;subst u;show PySem.P.truthy_int #[H,I,q]
 | str w =>
  obtain⟨t,rfl⟩:=l;obtain⟨a,u⟩:w.length<=sizeLine/\k=((w.length:Int) !=0):=e;subst u;show PySem.P.truthy_str (by lia) #[H,I.tok _,q]
 | byt w =>
  obtain⟨t,rfl⟩:=l;obtain⟨a,u⟩:w.size<=sizeLine/\k=((w.size:Int) !=0):=e;subst u;show PySem.W.truthy_bytes (by lia) #[H,I.tok _,q]
 | ref p =>
  cases l;have u:(∃n,SqL X.K H p n/\k=!n.isEmpty)\/(∃n,SqT X.K H p n/\k=!n.isEmpty)\/∃o,H p=some (.dK o)/\k=!o.isEmpty:=e;rcases u with⟨n,j,u⟩|⟨n,j,u⟩|⟨o,j,u⟩
  ·subst u;obtain⟨Y,r,g,d⟩:=I.list j;have c:=r.length;show wpAny_truthy_list g.isList (by simp only[ph];lia) #[H,I.tok _,by rw[MV r];show q]
  ·subst u;obtain⟨Y,r,g,d⟩:=I.tuple j;have c:=r.length;show truthy_tuple g (by simp only[ph];lia) #[H,I.tok _,by rw[MV r];show q]
  ·subst u;obtain⟨d,U,i,r,m⟩:o.length<=sizeLine/\(p ==sysModules)=false/\∃i,KV o i/\s.heap.DictOf (Zz X.prog X.w) p i:=I.hok p _ j;have c:o.length=i.length:=oz r;show wpAny_truthy_dict U m (by lia) #[H,I.tok _,by rw[Zu9 r];show q]
 | _=>show(show False from e).elim
def Hg(q:PE X a p)(o:∀w,isTrue a X.env w=(do let v <-w;standAt a.pos;holding [v] (truthy v))) :
  PT X a (λy H Q=>p y H λx u=>∃k,QV X.K x u k/\Q k u):=by
 intro r s y H Q I h;show isTrue_plain (Wr (q r s y H _ I h) λv n x l j i g=>Ygm r n y l x v Q j i g)<|o _
def Zun:oS X (binaryOp .Add) (λx w H Q=>∃i j,x=.str i/\w=.str j/\i.length+j.length<=sizeLine/\Q (.str<|i++j) H):=by
 intro l s y H x w v u Q I r p h;obtain⟨i,j,rfl,rfl,o,q⟩:=h;obtain⟨t,rfl⟩:=r;obtain⟨n,rfl⟩:=p;show add_str (λn tk=>#[.str<|i++j,H,I.tok _,#[_,rfl],q]) o
def Wp(r:Z8 [x] us):∃u,us=[u]/\Yc x u:=by
 cases r with
 | cons y w=>cases w;show#[_,rfl,y]
def xk(r:Z8 [x,y] us):∃u w,us=[u,w]/\Yc x u/\Yc y w:=by
 cases r with
 | cons s q =>
  cases q with
  | cons p o=>cases o;show#[_,_,rfl,s,p]
def JI(w:X.calm=true):Y7 X (.builtin "max") (λxs H Q=>∃i j,xs=[.int i,.int j]/\Q (.int<|if j >i then j else i) H):=by
 intro p s y H xs o Q I r h;obtain⟨i,j,rfl,q⟩:=h;obtain⟨u,n,rfl,⟨t,rfl⟩,⟨l,rfl⟩⟩:=xk r;refine max_two_ints (I.ok.hd w) λg tk k=>#[_,H,I.kept k,?_,q]
 by_cases x:j >i
 ·rw[og x,og x];show#[_,rfl]
 ·rw[nY x,nY x];show#[_,rfl]
def Oc(w:X.calm=true):Y7 X (.builtin "min") (λxs H Q=>∃i j,xs=[.int i,.int j]/\Q (.int<|if j<i then j else i) H):=by
 intro p s y H xs o Q I r h;obtain⟨i,j,rfl,q⟩:=h;obtain⟨u,n,rfl,⟨t,rfl⟩,⟨l,rfl⟩⟩:=xk r;refine min_two_ints (I.ok.hd w) λg tk k=>#[_,H,I.kept k,?_,q]
 by_cases x:j<i
 ·rw[og x,og x];show#[_,rfl]
 ·rw[nY x,nY x];show#[_,rfl]
def So:Y7 X (.type "int") (λxs H Q=>(∃i,xs=[.int i]/\Q (.int i) H)\/∃k,xs=[.bl k]/\Q (.int<|if k then 1 else 0) H):=by
 intro w s y H xs p Q I r h;rcases h with⟨i,rfl,q⟩|⟨k,rfl,q⟩
 ·obtain⟨u,rfl,t,rfl⟩:=Wp r;show call_int_int #[.int i,H,I,#[_,rfl],q]
 ·obtain⟨u,rfl,x⟩:=Wp r;cases x;show call_int_bool #[.int<|if k then 1 else 0,H,I.tok _,#[_,rfl],q]
def Ev:Y7 X (.type "str") (λxs H Q=>∃i,xs=[.int i]/\i.natAbs.log2<1920/\Q (.str<|toString i) H):=by
 intro w s y H xs p Q I r h;obtain⟨i,rfl,x,q⟩:=h;obtain⟨u,rfl,t,rfl⟩:=Wp r;show PySem.P.str_of_int x #[.str _,H,I.tok _,#[_,rfl],q]
structure yu(h:Heap)(x dx C:Addr)(mA:Str->Option Value):Prop where
 obj:h.get? x=some (PySem.W.instObj C dx)
 ns:h.Ns1 dx mA
 ne:dx≠x
def Iz{h:mO}{x:mG}{w:mF->mJ mH}(n:h.Ns1 x w):∃od,h.get? x=some od/\∀name,PySem.W.lookIn name od=some (w name):=by
 obtain⟨o,u,g,s,hd,r,_,p⟩:=n;refine#[o,s,λname=>?_];have e:=p name;unfold nsFind findBy at e;rw[<-Array.find?_toList]at e;unfold PySem.W.lookIn;rw[hd];dsimp only;split
 ·rename_i y q;rw[q]at e;show pO some e
 ·rename_i q;rw[q]at e;have a:u.toList.any (·.refKey)=false:=by
   rw[List.any_eq_false];intro y l;obtain⟨z,t,j⟩:=r y<|AM.mp l;simp[DictEntry.refKey,j]
  have i:¬u.toList.any (·.refKey)=true:=by rw[a];show pi
  rw[nY i];show pO some e
def yu.look{y:mF->mJ mH}(I:yu h x w C y):∃od,PySem.W.InstAt h x (PySem.W.instObj C w) C (some od)/\∀name,PySem.W.lookIn name od=some (y name) :=
 let⟨od,u,s⟩:=Iz I.ns
 #[od,#[I.obj,rfl,rfl,u],s]
section
variable {prog:mS} {w:mP} {A:mT} {E:mH->mI->Prop} {s:mI} {K:mK} {x dx C f:mG} {mA:mF->mJ mH} {name:mF} {v:mH}
def Ydz{Q:mH->mI->Prop}(X:K.In s.heap)(I:yu s.heap x dx C mA)(u:PySem.W.plainGet K C name=true)(r:PySem.W.hasDictIn K C=true)
  (q:findIn K (.ref C) name=some none) (p:mA name=some v) (y:PySem.W.handedIn v=true) (h:Q v {s with toks:=s.toks+1}) :
  wpAny (model prog w) A (getAttr (.ref x) name expr) Q E s:=by
 obtain⟨n,J,o⟩:=I.look;show PySem.W.get_value X J (EY u).1 (Sx r q rfl<|by rw[o,p]) y h
def Ya4{Q:mH×mD mH->mI->Prop}(X:K.In s.heap)(I:yu s.heap x dx C mA)(y:PySem.W.plainGet K C name=true)
  (u:findIn K (.ref C) name=some (some<|.ref f)) (r:PySem.W.isFn K (.ref f)=true) (q:mA name=none) (h:Q (.ref f,[.ref x]) s) :
  wpAny (model prog w) A (getMethod (.ref x) name pl) Q E s:=by
 obtain⟨p,J,o⟩:=I.look;show PySem.W.method_fn X J (EY y).1 (EY y).2 u (sI.mp r) (by change(PySem.W.lookIn name p).map (·.isSome)=some false;rw[o,q];rfl) h
def UT{Q:Unit->mI->Prop}(X:K.In s.heap)(I:yu s.heap x dx C mA)
  (j:findIn K (.ref C) "__setattr__"=some (some<|.builtin "object.__setattr__")) (i:PySem.W.plainOver K C=true) (g:PySem.W.takerIn K C name=some none) (e:PySem.W.hasDictIn K C=true)
  (d:PySem.Within mA c) (hsz:c.length<=sizeLine)
  (h:∀h',yu h' x dx C (λy=>if y=name then some v else mA y)->Heap.SameBut dx s.heap h'->Q () {s with heap:=h',toks:=s.toks+2}) :
  wpAny (model prog w) A (setAttr (.ref x) name v) Q E s:=by
 obtain⟨N,J,M⟩:=I.look;refine PySem.W.set_plain X J j<|PySem.W.osa_open (s:={s with toks:=s.toks+1}) (r:=none) X J i g λb=>?_;obtain⟨N,Y,p⟩:=PySem.W.any_some e;have U:s.heap.get? x=some #[.ref C,some dx,.plain,#[]]:=I.obj;refine nW<|ou<|nW<|nW<|FN U<|nW<|PySem.W.Looks.here (s:={s with toks:=s.toks+1}) (FP X Y) ?_;rw[p];refine ou (a:=some dx)<|nW<|ou<|nW ?_;refine wpAny_nsSet1 (s:={s with toks:=s.toks+1}) I.ns λh' u q=>?_
 obtain⟨L,N,M,o,n,l⟩:=u.count<|PySem.Within.cons name v d;refine nW<|wpAny_lookBehind o (by rw[n];show pastItsLine_dict<|oU l<|by rw[qr];lia) ?_;show ou<|h _ #[(q.2 _<|pH I.ne).trans I.obj,u,I.ne] q
def Yaq{R:Result->mI->Prop}(X:K.In s.heap)(u:PySem.W.makesIn K C=true)
  (r:findIn K (.ref C) "__init__"=some (some<|.ref f)) (q:PySem.W.typeIn K (.ref f)=some (.type "function"))
  (h:codeAny (model prog w) (A.under<|.builtin "type.__call__" #[.ref C ::vs,y]) (.call (.ref f) #[.ref (#v[s]+1) ::vs,y]) (PySem.W.InitBack (#v[s]+1) R)
   {s with heap:=(s.heap.push PySem.W.emptyDict).push (PySem.W.instObj C #v[s])}) :
  codeAny (model prog w) A (.call (.ref C) #[vs,y]) R s:=by
 obtain⟨p,g,d,t,os⟩:=s;show PySem.W.make_core (PySem.W.makes_of X u) (Bq X r) (λself=>PySem.W.bind_fn X self q) (.inl rfl) h
end
def se(f:mF)(v:V):mD (mF×V)->mD (mF×V)
 | []=>[(f,v)]
 | (g,x) ::r=>if g=f then(g,v) ::r else(g,x) ::se f v r
theorem Qi(f g:mF)(v:V):∀fs:mD (mF×V),(se f v fs).lookup g=if g=f then some v else fs.lookup g
 | []=>by
  change List.lookup g [(f,v)]=_
  by_cases h:g=f
  ·have y:(g ==f)=true:=sI.mpr h;simp only[List.lookup,y,og h]
  ·have y:(g ==f)=false:=uc.mpr h;simp only[List.lookup,y,nY h]
 | (k,x) ::r=>by
  have u:=Qi f g v r;rw[show se f v ((k,x) ::r)=(if k=f then(k,v) ::r else(k,x) ::se f v r)from rfl]
  by_cases w:k=f
  ·rw[og w]
   by_cases h:g=k
   ·have y:(g ==k)=true:=sI.mpr h;simp only[List.lookup,y,og<|h.trans w]
   ·have y:(g ==k)=false:=uc.mpr h;simp only[List.lookup,y,nY (λe:g=f=>h<|e.trans w.symm)]
  ·rw[nY w]
   by_cases h:g=k
   ·have y:(g ==k)=true:=sI.mpr h;simp only[List.lookup,y,nY (λe:g=f=>w<|h.symm.trans e)]
   ·have y:(g ==k)=false:=uc.mpr h;simp only[List.lookup,y];show u
theorem Hd(f:mF)(v:V):∀fs:mD (mF×V),f∈(se f v fs).map (·.1)/\∀g,g∈fs.map (·.1)->g∈(se f v fs).map (·.1)
 | []=>#[by simp[se],λg h=>by simp at h]
 | (k,x) ::r=>by
  obtain⟨w,u⟩:=Hd f v r;rw[show se f v ((k,x) ::r)=(if k=f then(k,v) ::r else(k,x) ::se f v r)from rfl]
  by_cases y:k=f
  ·rw[og y];subst y;show#[by simp,λg h=>by simpa using h]
  ·rw[nY y];refine#[?_,λg h=>?_]
   ·rw[oR];show pV _ w
   ·rw[oR]at h ⊢;rcases oM.mp h with e|e
    ·show oM.mpr<|.inl e
    ·show pV _<|u g e
theorem OF(f:mF)(v:V):∀fs:mD (mF×V),(se f v fs).length<=fs.length+1
 | []=>by simp[se]
 | (k,x) ::r=>by
  have w:=OF f v r;rw[show se f v ((k,x) ::r)=(if k=f then(k,v) ::r else(k,x) ::se f v r)from rfl]
  by_cases y:k=f
  ·rw[og y,qr,qr];lia
  ·rw[nY y,qr,qr];lia
def qN.some_of(r:qN (some v) o):∃u,o=some u/\Yc v u:=by
 cases o with
 | none=>show(show False from r).elim
 | some u=>show#[u,rfl,r]
def qN.none_of(r:qN none o):o=none:=by
 cases o with
 | none=>rfl
 | some u=>show(show False from r).elim
def PV(r:Yc v u):PySem.W.handedIn u=true:=by
 cases v with
 | non=>cases(show u=Value.none from r);rfl
 | bl b=>cases(show u=Value.bool b from r);rfl
 | int i=>obtain⟨t,e⟩:=(show ∃t,u=Value.int i t from r);cases e;rfl
 | str x=>obtain⟨t,e⟩:=(show ∃t,u=Value.str x t from r);cases e;rfl
 | byt b=>obtain⟨t,e⟩:=(show ∃t,u=Value.bytes b t from r);cases e;rfl
 | flt b=>obtain⟨t,e⟩:=(show ∃t,u=Value.float b t from r);cases e;rfl
 | ref a=>cases(show u=Value.ref a from r);rfl
 | ty n=>cases(show u=Value.type n from r);rfl
section
def Di(x:pe P w H h)(e:H a=some (.ins C u fs)):∃y,yu h a u C y/\(∀f,qN (fs.lookup f)<|y f)/\PySem.Within y (fs.map (·.1))/\fs.length<=1000/\H u=some (.own a):=by
 obtain⟨d,z,s,p,y,n,r,q⟩:=(show Z9 P w H h a (.ins C u fs)from x a _ e)
 show#[y,#[p,n,s],r,q,z,d]
end
structure qF(K:Frag)(C:Addr):Prop where
 pg:PySem.W.plainGet K C Str.empty=true
 hd:PySem.W.hasDictIn K C=true
 po:PySem.W.plainOver K C=true
 sa:findIn K (.ref C) "__setattr__"=some (some<|.builtin "object.__setattr__")
def qF.get{K:mK}{C:mG}(c:qF K C)(f:mF):PySem.W.plainGet K C f=true:=c.pg
def nZ(K:mK)(C:mG)(f:mF):Prop:=findIn K (.ref C) f=some none
def nZ.taker{K:mK}{C:mG}{f:mF}(n:nZ K C f):PySem.W.takerIn K C f=some none:=by
 unfold PySem.W.takerIn;rw[show findIn K (.ref C) f=some none from n]
 rfl
structure Y1(K:Frag)(C:Addr)(m:Str)(f:Addr):Prop where
 at_:findIn K (.ref C) m=some (some<|.ref f)
 fn:PySem.W.isFn K (.ref f)=true
 kp:keepIn K (.ref f)=true
section
variable {E:mH->mI->Prop}
def Zub{Q:mH->mI->Prop}(I:nM X w y H s)(e:H a=some (.ins C j fs))(c:qF X.K C)(n:nZ X.K C f)(l:fs.lookup f=some v)
  (h:∀u s',nM X w y H s'->Yc v u->Q u s'):wpAny (model X.prog X.w) A (getAttr (.ref a) f b) Q E s:=by
 obtain⟨q,O,r,_,_,_⟩:=Di I.hok e;obtain⟨u,p,x⟩:=qN.some_of (v:=v) (o:=q f) (by rw[<-l];show r f);show Ydz I.kIn O (c.get f) c.hd n p (PV x)<|h u _ (I.tok _) x
def FW{Q:mH×mD mH->mI->Prop}(I:nM X u y H s)(e:H a=some (.ins C q fs))(c:qF X.K C)(k:Y1 X.K C m g)(l:fs.lookup m=none)
  (h:Q (.ref g,[.ref a]) s):wpAny (model X.prog X.w) A (getMethod (.ref a) m pl) Q E s:=by
 obtain⟨x,O,r,_,_,_⟩:=Di I.hok e;have w:x m=none:=qN.none_of (by rw[<-l];show r m);show Ya4 I.kIn O (c.get m) k.at_ k.fn w h
def Zuy{Q:Unit->mI->Prop}(I:nM X Y y H s)(e:H a=some (.ins C p fs))(c:qF X.K C)(n:nZ X.K C f)(B:fs.length<1000)(U:Yc w u)
  (h:∀s',nM X Y y (nO H a<|.ins C p<|se f w fs) s'->Q () s'):wpAny (model X.prog X.w) A (setAttr (.ref a) f u) Q E s:=by
 obtain⟨j,O,r,i,_,d⟩:=Di I.hok e;have N:(fs.map (·.1)).length<=sizeLine:=by rw[nQ,uh];lia
 refine UT I.kIn O c.sa c.po n.taker c.hd i N λM l L=>h _ ?_
 have hd:∃o,M.get? p=some o:=let⟨o,_,_,J,_⟩:=l.ns;#[o,J];refine I.write (x:=a) (e:=p) (by rw[e];show rD) (.inr d) (λb q G z=>(L.2 b G).trans z) hd ?_;refine#[by rw[Zd O.ne];show d,?_,O.ne,l.obj,_,l.ns,λg=>?_,λg D=>?_]
 ·have:=OF f w fs;lia
 ·change qN ((se f w fs).lookup g) (if g=f then some u else j g);rw[Qi]
  by_cases q:g=f
  ·rw[og q,og q];show U
  ·rw[nY q,nY q];show r g
 ·by_cases q:g=f
  ·rw[q];show(Hd f w fs).1
  ·refine(Hd f w fs).2 g (i g λz=>D ?_);change(if g=f then some u else j g)=none;rw[nY q];show z
def nM.made(I:nM X p y H s):nM X p y (nO (nO H #v[s] (.own<|#v[s]+1)) (#v[s]+1)<|.ins C #v[s] [])
  {s with heap:=(s.heap.push PySem.W.emptyDict).push (PySem.W.instObj C #v[s])}:=by
 have w:(s.heap.push PySem.W.emptyDict).get? #v[s]=some PySem.W.emptyDict:=pp s.heap rfl;have n:((s.heap.push PySem.W.emptyDict).push (PySem.W.instObj C #v[s])).get? (#v[s]+1)=some (PySem.W.instObj C #v[s]):=by
  have:=pp (s.heap.push PySem.W.emptyDict) (o:=PySem.W.instObj C #v[s]) rfl;rwa[uv]at this
 have l:(s.heap.push PySem.W.emptyDict).Ns #v[s] (λ_=>none):=#[PySem.W.emptyDict,#[],_,w,rfl,(λe x=>absurd x<|by simp),λ_=>rfl]
 have j:=I.laid (a:=#v[s]) (o:=.own<|#v[s]+1) (h':=s.heap.push PySem.W.emptyDict) (t':=s.toks) (λb u q=>oH _ q) (oq _) #[_,w];refine j.laid (a:=#v[s]+1) (o:=.ins C #v[s] []) (t':=s.toks) (λb u q=>oH _ q) (yt<|uv _ _) ?_;have r:#v[s]≠#v[s]+1:=oQ<|AN _;refine#[by rw[Zd r,Zc],sY _,r,n,λ_=>none,(Heap.Ns1.of_empty l).at λo q=>oH _ q,λ_=>rD,λx i=>absurd rfl i]
def OS{Q:mH->mI->Prop}(y:attributeBase e f env (eval e env)=eval e env)
  (h:wpAny (model prog w) A (eval e env) (λo x=>wpAny (model prog w) A (getAttr o f true) Q E x) E s):wpAny (model prog w) A (eval (.Attribute e f pos) env) Q E s :=
 Attribute_any_ h (by rw[arm_eval_Attribute,y])
end
inductive Qt(K:Frag)(f:Str)(Q:VK)(H:Hp):V->Prop
 | mk {a C dx fs v}:H a=some (.ins C dx fs)->qF K C->nZ K C f->fs.lookup f=some v->Q v H->Qt K f Q H (.ref a)
def Yjs(K:mK)(w:TE)(f:mF):TE:=λy H Q=>w y H λx u=>Qt K f Q u x
inductive SF(K:Frag)(f:Str)(y:V)(H:Hp)(k:Hp->Prop):V->Prop
 | mk {a C dx fs}:H a=some (.ins C dx fs)->qF K C->nZ K C f->fs.length<1000->k (nO H a<|.ins C dx<|se f y fs)->SF K f y H k (.ref a)
def Vy(K:mK)(u s:TE)(f:mF):TS:=λD y H=>s y H λx r=>u y r λw q=>SF K f x q (D.nx y) w
def Z2(w:PE X e r)(p:attributeBase e f X.env (eval e X.env)=eval e X.env):PE X (.Attribute e f pos) (Yjs X.K r f):=by
 intro o s y H Q I h;refine OS p<|oK (w o s y H _ I h) λu x j=>?_;obtain⟨x,i,g,d,@⟨a,C,M,fs,v,Y,c,n,l,q⟩⟩:=j;obtain rfl:u=Value.ref a:=d;show Zub g Y c n l λL J U N=>#[v,i,U,N,q]
def Wm(r:PE X o p)(j:PE X value i)(g:swapsWith value (some<|.Attribute o f e) pos.line X.env=pure false):PS X (.Assign [.Attribute o f e] value pos) (Vy X.K p i f):=by
 intro w s y H D I h;refine OH (oK (j w s y H _ I h) λu d Y=>?_) g;obtain⟨x,U,Q,N,q⟩:=Y;refine oK (r w d y U _ Q q) λM s2 L=>?_
 obtain⟨x,u,J,G,@⟨a,C,dx,fs,E,c,n,l,B⟩⟩:=L;obtain rfl:M=Value.ref a:=G;show Zuy J E c n l N λs3 A=>#[y,_,A,B]
def Yeu{pl:Sem Bool}{m:mF}{r:Pos}{args:mD mQ}{p:mD (mG×Obj)}{s:mI}{y:St}{H:Hp}{Q:mH->mI->Prop}{n:TE}(Y:PE X e n)(I:nM X p y H s)
  (h:n y H λx o=>∃a C j fs g,x=.ref a/\o a=some (.ins C j fs)/\qF X.K C/\Y1 X.K C m g/\fs.lookup m=none/\
   ∀w,nM X p y o w->∅ (callWith pos (.ref g) [.ref a] (backTo pos<|starEach args X.env) (backToKw pos<|keywordEach [] X.env)) Q X.xe w)
  (U:eval (.Call (.Attribute e m r) args [] pos) X.env=(do
   let i <-eval e X.env
   standAt r.atName
   let(f,first) <-holding [i] (getMethod i m pl)
   callWith pos f first (backTo pos<|starEach args X.env) (backToKw pos<|keywordEach [] X.env))) :
  ∅ (eval (.Call (.Attribute e m r) args [] pos) X.env) Q X.xe s:=by
 refine Fs (pl:=pl) (oK (Y p s y H _ I h) λu w N=>?_) U;obtain⟨x,o,d,M,a,C,j,fs,g,L,J,c,k,l,q⟩:=N;subst L;obtain rfl:u=Value.ref a:=M;show FW d J c k l<|q w d
section
variable {E:mH->mI->Prop} {Q:mH->mI->Prop}
inductive Xw(K:Frag)(H:Hp):V->Value->Prop where
 | non:Xw K H .non (.type "NoneType")
 | bl (x:Bool):Xw K H (.bl x) (.type "bool")
 | int (i:Int):Xw K H (.int i) (.type "int")
 | str (x:Str):Xw K H (.str x) (.type "str")
 | flt (x:UInt64):Xw K H (.flt x) (.type "float")
 | lst {a:Addr} {xs:List V} (e:H a=some (.lst xs)):Xw K H (.ref a) (.type "list")
 | frz {a:Addr} {o:Obj} {xs:List V} (e:H a=some (.frz o<|.lst xs)):Xw K H (.ref a) (.type "list")
 | tup {a:Addr} {xs:List V} (e:H a=some (.tup xs)):Xw K H (.ref a) (.type "tuple")
 | dK {a:Addr} {kvs:List (om×V)} (e:H a=some (.dK kvs)):Xw K H (.ref a) (.type "dict")
 | dT {a:Addr} {kvs:List (List om×V)} (e:H a=some (.dT kvs)):Xw K H (.ref a) (.type "dict")
 | ins {a C dx:Addr} {fs:List (Str×V)} (e:H a=some (.ins C dx fs)) (cl:qF K C) (ha:findIn K (.ref C) "__class__"=some (some<|.builtin "object.__class__"))
   (hn:PySem.W.specialIn K (.builtin "object.__class__") "__get__"=some (some<|.builtin "getset_descriptor.__get__")) (htk:PySem.W.takesIn K (.builtin "object.__class__")=some true)
   (hm:PySem.W.mroIn K C (.type "object")=some true):Xw K H (.ref a) (.ref C)
def Sw(I:nM X a9 y H s)(r:Yc x u)(N:Xw X.K H x t)(e:kitOne X.K t c=some b)(h:∀tk,Q (.bool b) {s with toks:=tk}) :
  wpAny (model X.prog X.w) A (call (.builtin "isinstance") [u,c]) Q E s:=by
 cases N with
 | non=>cases(show u=Value.none from r);show sK PySem.W.kitx_none I.kIn rD e (λz=>nomatch z) h
 | bl w=>cases(show u=Value.bool w from r);show sK PySem.W.kitx_bool I.kIn rD e (λz=>nomatch z) h
 | int i=>obtain⟨t,q⟩:=(show ∃t,u=Value.int i t from r);cases q;show sK PySem.W.kitx_int I.kIn rD e (λz=>nomatch z) h
 | str w=>obtain⟨t,q⟩:=(show ∃t,u=Value.str w t from r);cases q;show sK PySem.W.kitx_str I.kIn rD e (λz=>nomatch z) h
 | flt w=>obtain⟨t,q⟩:=(show ∃t,u=Value.float w t from r);cases q;show sK PySem.W.kitx_float I.kIn rD e (λz=>nomatch z) h
 | @lst a d l =>
  cases(show u=Value.ref a from r);obtain⟨_,_,n,_,j⟩:=(show Z9 X.prog X.w H s.heap a (.lst d)from I.hok a _ l)
  show sK PySem.W.kitx_list I.kIn #[_,j,rfl] e (λz=>nomatch z) h
 | @frz a i d l =>
  cases(show u=Value.ref a from r);obtain⟨_,_,_,n,_,j⟩:=(show Z9 X.prog X.w H s.heap a (.frz i<|.lst d)from I.hok a _ l)
  show sK PySem.W.kitx_list I.kIn #[_,j,rfl] e (λz=>nomatch z) h
 | @tup a d l =>
  cases(show u=Value.ref a from r);obtain⟨_,_,_,p⟩:=(show Z9 X.prog X.w H s.heap a (.tup d)from I.hok a _ l)
  obtain⟨o,j,Y,_⟩:=p;show sK PySem.W.kitx_tuple I.kIn #[o,j,Y] e (λz=>nomatch z) h
 | @dK a g l =>
  cases(show u=Value.ref a from r);obtain⟨_,_,i,_,p⟩:=(show Z9 X.prog X.w H s.heap a (.dK g)from I.hok a _ l)
  obtain⟨o,M,L,j,Y,_⟩:=p;show sK PySem.W.kitx_dict I.kIn #[o,j,Y.1] e (λz=>nomatch z) h
 | @dT a g l =>
  cases(show u=Value.ref a from r);obtain⟨_,_,d,_,o,M,L,j,Y,_⟩:=(show Z9 X.prog X.w H s.heap a (.dT g)from I.hok a _ l)
  show sK PySem.W.kitx_dict I.kIn #[o,j,Y.1] e (λz=>nomatch z) h
 | @ins a C dx fs l U G D i B =>
  cases(show u=Value.ref a from r);obtain⟨mA,O,_⟩:=Di I.hok l;obtain⟨od,J,_⟩:=O.look;show sK (PySem.W.kitx_own (U.get _) U.hd G D i B) I.kIn J e (λz=>nomatch z) h
end
structure Y2(k:Nat)(A:Around):Prop where
 hd:A.handled=none
 dp:A.depth+3 * k+5<recursionLimit
 un:A.units+16 * k+200<cLine
 gd:A.guards=some []
def Y2.mono(r:Y2 k A)(h:j<=k):Y2 j A:=#[r.hd,by have:=r.dp;lia,by have:=r.un;lia,r.gd]
def Y2.m{j k:Nat}{A:mT}(r:Y2 k A)(h:j<=k:=by lk):Y2 j A:=r.mono h
def Y2.deeper(r:Y2 (k+1) A)(env:Env):Y2 k (A.deeper env) :=
 #[r.hd,by have:=r.dp;change A.depth+1+3 * k+5<_;lia,by have:=r.un;change A.units+3+16 * k+200<_;lia,r.gd]
def WW{A:mT}{C:mG}{us:mD mH}{y:mD (mF×mH)}:(A.under<|.builtin "type.__call__" #[.ref C ::us,y]).depth=A.depth+1:=by
 first|rfl|simp[Around.under,Code.weight,Code.isCreation,Code.isGuard,Code.isCaller,Code.frames,Code.isFrame,guardIds]
def XF{A:mT}{C:mG}{us:mD mH}{y:mD (mF×mH)}:(A.under<|.builtin "type.__call__" #[.ref C ::us,y]).units=A.units+1:=by
 first|rfl|simp[Around.under,Code.cUnits,Code.frames,Code.isFrame]
def Zts{A:mT}{C:mG}{us:mD mH}{y:mD (mF×mH)}:(A.under<|.builtin "type.__call__" #[.ref C ::us,y]).guards=A.guards:=by
 first|rfl|simp[Around.under,Code.guards,Code.isGuard,guardIds,pushGuards]
def Y2.make{k:Nat}{A:mT}(r:Y2 (k+1) A)(C:mG)(us:mD mH)(y:mD (mF×mH)):Y2 k (A.under<|.builtin "type.__call__" #[.ref C ::us,y]) :=
 #[r.hd,by have:=r.dp;rw[WW];lia,by have:=r.un;rw[XF];lia,Zts.trans r.gd]
def Y2.depth(r:Y2 k A):A.depth<recursionLimit:=by have:=r.dp;lia
def Y2.units(r:Y2 k A):A.units+64<cLine:=by have:=r.un;lia
def xI:TA:=λ_ H Q=>Q [] H
def uV(w:TE)(u:TA):TA:=λy H Q=>w y H λx s=>u y s λr q=>Q (x ::r) q
def Za:PA X [] xI:=λ_ _ _ _ H Q I h=>yC #[[],H,I,.nil,h]
def Yc2(q:PE X e p)(o:PA X es t)(n:starEach (e ::es) X.env=(false,eval e X.env) ::starEach es X.env:=by rfl):PA X (e ::es) (uV p t):=by
 intro w r s y H Q I h;rw[n];change wpAny _ _ (spliced<|(false,eval e X.env) ::backTo w (starEach es X.env)) _ _ s;refine wD<|Wr (q r s y H _ I h) λu l x j i g d=>?_;show uJ (o w r l y j _ i d) λM L c a Y U N=>#[x ::c,a,Y,.cons g U,N]
abbrev Sp:=mD V->Hp->VK->XK->Prop
abbrev vB:=mD Env->Hp->mI->XK->mH->mI->Prop
structure uo(P:Program)(w:World)(K:Frag)(mg:Str->Option Value)(nI:Heap)(A:Around)(nG:List Env)(s:Shared)(H:Hp):Prop where
 frames:A.frames=some nG
 mod:Mod K mg nI
 bs:∀b o,nI.get? b=some o->s.heap.get? b=some o/\H b=none
 bsz:nI.objs.size<=#v[s]
 funs:s.heap.FunFrames nI nG
 frf:∀b∈pr nG,H b=none
 hok:pe P w H s.heap
 bare:AllBare s.gens
def CE(x:mD Env)(P:mS)(w:mP)(H:Hp)(s:mI)(Q:VK)(u:mH)(s':mI):Prop :=
 ∃v y,s'.os=s.os/\AllBare s'.gens/\Un (pr x) [] H y s.heap s'.heap/\pe P w y s'.heap/\Yc v u/\Q v y
def CR(x:vB)(y:mD Env)(P:mS)(w:mP)(H:Hp)(s:mI)(Q:VK)(E:XK)(r:Result)(s':mI):Prop :=
 match r with
 | .ok (.ret u)=>CE y P w H s Q u s'
 | .ok _=>False
 | .error e=>x y H s E e s'
structure Wz(P:Program)(w:World)(K:Frag)(mg:Str->Option Value)(nI:Heap)(CX:vB)(k:Nat)(f:Addr)(fd:FuncData)(ps:List Str)(sp:Sp):Prop where
 len:∀vs H Q E,sp vs H Q E->vs.length=ps.length
 run:∀(A:Around)(nG:List Env)(s:Shared)(H:Hp)(args:Args)(us:List Value)(vs:List V)(Q:VK)(E:XK),Y2 k A->uo P w K mg nI A nG s H->BindsTo s fd args (ps.zip us)->Z8 vs us->sp vs H Q E->
  codeAny (model P w) A (.call (.ref f) args) (CR CX nG P w H s Q E) s
def Wz.mono{P:mS}{w:mP}{K:mK}{y:mF->mJ mH}{nI:mO}{x:vB}{j k:Nat}{f:mG}{fd:mU}{ps:mD mF}{u:Sp}(F:Wz P w K y nI x j f fd ps u)(h:j<=k) :
  Wz P w K y nI x k f fd ps u:=#[F.len,λA r s H args q p Q E o=>F.run A r s H args q p Q E<|o.mono h]
def uo.make{P:mS}{w:mP}{K:mK}{y:mF->mJ mH}{nI:mO}{A:mT}{x:mD Env}{s:mI}{H:Hp}(e:uo P w K y nI A x s H)(C:mG)(us:mD mH)(u:mD (mF×mH)) :
  uo P w K y nI (A.under<|.builtin "type.__call__" #[.ref C ::us,u]) x s H:=#[by first|show e.frames|(simpa[Around.under,Code.envs,Code.isFrame,pushEnvs]using e.frames),e.mod,e.bs,e.bsz,e.funs,e.frf,e.hok,e.bare]
def nM.env0(I:nM X x y H s):uo X.prog X.w X.K X.mg X.nI X.A X.stack s H :=
 #[I.ok.frames,I.ok.mod,I.bs,oU I.ok.bsz I.sz,I.stack,I.stkFree,I.hok,I.bare]
def nM.after(I:nM X o y H s)(h:CE X.stack X.prog X.w H s Q u s'):EP X o y Q u s':=by
 obtain⟨v,n,os,x,un,w,r,q⟩:=h;obtain⟨l,g,d,t,p⟩:=s';obtain rfl:p=s.os:=os;show#[v,n,I.call (h':=l) (g':=g) (d':=d) (t':=t) (ch:=[]) un w x (λb z=>absurd z<|by simp),r,q]
def KP(x:Sp)(w:mD V)(E:XK)(t:TA):TE:=λy H Q=>t y H λu s=>x (u++w) s Q E
inductive MI(C:Addr)(m:Str)(H:Hp)(k:V->Prop):V->Prop
 | mk {a dx fs}:H a=some (.ins C dx fs)->fs.lookup m=none->k (.ref a)->MI C m H k (.ref a)
def HJ(C:mG)(m:mF)(u:Sp)(s:mD V)(E:XK)(r:TE)(t:TA):TE:=λy H Q=>r y H λx w=>MI C m w (λx=>t y w λq p=>u (x ::(q++s)) p Q E) x
def rj(K:mK)(fd:mU)(ps:mD mF)(x:mD mH):Prop :=
 ∀(s:mI)(y:mD mH),K.In s.heap->(y++x).length=ps.length->BindsTo s fd #[y,[]] (ps.zip<|y++x)
def rj.all{K:mK}{fd:mU}{ps:mD mF}(h:∀us:mD mH,us.length=ps.length->bindArgs fd #[us,[]]=pure (ps.zip us)):rj K fd ps []:=λs us _ y=>by
 rw[qM]at y ⊢;show .of_eq<|h us y
def ua(w:vB)(X:Cx)(E:XK):Prop:=∀(u:mD (mG×Obj)) (y:St) (H:Hp) (s:mI) (e:mH) (x:mI),nM X u y H s->w X.stack H s E e x->X.xe e x
def IK(F:Wz X.prog X.w X.K X.mg X.nI n k f fd ps l)(j:Y2 k X.A)(i:rj X.K fd ps w)(hd:Z8 q w)(g:ua n X E)
  (I:nM X p y H s) (r:Z8 vs us) (h:l (vs++q) H Q E):∅ (call (.ref f) us) (EP X p y Q) X.xe s:=by
 have o:Z8 (vs++q) (us++w):=r.append hd;have d:(us++w).length=ps.length:=by rw[<-o.length];show F.len _ _ _ _ h
 refine uU<|uS (F.run X.A X.stack s H #[us,[]] (us++w) (vs++q) Q E j I.env0 (i s us I.kIn d) o h) λr c x=>?_;cases r with
 | error e=>show g p y H s e c I x
 | ok e =>
  cases e with
  | ret u=>show I.after x
  | next=>show False.elim x
  | brk=>show False.elim x
  | cont=>show False.elim x
def Wd(F:Wz X.prog X.w X.K X.mg X.nI u k f fd ps o)(n:Y2 k X.A)(l:Gl X x)(j:X.mg x=some (.ref f))(i:keepIn X.K (.ref f)=true)(g:rj X.K fd ps d)(hd:Z8 c d)(a:ua u X E)
  (Y:PA X (e ::es) t) (U:(x ==("__debug__":mF))=false:=by lk) (N:starEach (e ::es) X.env=(false,eval e X.env) ::starEach es X.env:=by rfl) (M:(backTo pos<|starEach es X.env).any (·.1)=false:=by rfl) :
  PE X (.Call (.Name x p) (e ::es) [] pos) (KP o c E t):=by
 intro L s y H Q I h;refine uQ<|yF I l j ?_ U;refine AY (h₀:=X.nI) I.ok.mod.kin i (uJ (Y pos L s y H _ I h) λJ G D C w r q=>#[w.kIn,?_]) N M;show IK F n g hd a w r q
def Z6(d:PE X o Y)(c:qF X.K C)(w:Y1 X.K C m f)(F:Wz X.prog X.w X.K X.mg X.nI U k f fd ps N)(M:Y2 k X.A)(L:rj X.K fd ps J)(hd:Z8 G J)(D:ua U X E)(B:PA X (e ::es) t)
  (A:starEach (e ::es) X.env=(false,eval e X.env) ::starEach es X.env:=by rfl) (w5:(backTo pos<|starEach es X.env).any (·.1)=false:=by rfl)
  (ht:eval (.Call (.Attribute o m p) (e ::es) [] pos) X.env=(do
   let n <-eval o X.env
   standAt p.atName
   let(f,first) <-holding [n] (getMethod n m pl)
   callWith pos f first (backTo pos<|starEach (e ::es) X.env) (backToKw pos<|keywordEach [] X.env)):=by rfl) :
  PE X (.Call (.Attribute o m p) (e ::es) [] pos) (HJ C m N G E Y t):=by
 intro j s y H Q I h;refine Fs (pl:=pl) (oK (d j s y H _ I h) λu s1 h9=>?_) ht;obtain⟨x,H1,i,rx,@⟨a,dx,fs,ea,l,q⟩⟩:=h9;obtain rfl:u=Value.ref a:=rx;refine FW i ea c w l ?_;refine AY (first:=[.ref a]) (h₀:=X.nI) I.ok.mod.kin w.kp (uJ (B pos j s1 y H1 _ i q) λus x vs H2 g r q2=>#[g.kIn,?_]) A w5;show IK (us:=.ref a ::us) (vs:=.ref a ::vs) F M L hd D g (.cons rfl r) q2
def Yf{pl:Sem Bool}(j:PE X o i)(c:qF X.K C)(r:Y1 X.K C m f)(F:Wz X.prog X.w X.K X.mg X.nI g k f fd ps e)(d:Y2 k X.A)(Y:rj X.K fd ps U)(hd:Z8 N U)(M:ua g X E)
  (L:eval (.Call (.Attribute o m p) [] [] pos) X.env=(do
   let n <-eval o X.env
   standAt p.atName
   let(f,first) <-holding [n] (getMethod n m pl)
   callWith pos f first (backTo pos<|starEach [] X.env) (backToKw pos<|keywordEach [] X.env)):=by rfl) :
  PE X (.Call (.Attribute o m p) [] [] pos) (HJ C m e N E i xI):=by
 intro J s y H Q I h;refine Fs (pl:=pl) (oK (j J s y H _ I h) λu x G=>?_) L;obtain⟨x,A,w,D,@⟨a,dx,fs,B,l,q⟩⟩:=G;obtain rfl:u=Value.ref a:=D;refine FW w B c r l ?_;show PySem.W.callWith_K0 (first:=[.ref a]) w.kIn r.kp<|IK (us:=[.ref a]) (vs:=[.ref a]) F d Y hd M w (.cons rfl .nil) q
structure Mk(K:Frag)(C f:Addr):Prop where
 makes:PySem.W.makesIn K C=true
 init:findIn K (.ref C) "__init__"=some (some<|.ref f)
 fn:PySem.W.isFn K (.ref f)=true
 kp:keepIn K (.ref C)=true
def Uf(M:Mk X.K C f)(F:Wz X.prog X.w X.K X.mg X.nI g k f fd ps d)(c:Y2 (k+1) X.A)(a:rj X.K fd ps q)(hd:Z8 n q)
  (Y:ua g X E) (I:nM X l y H s) (r:Z8 vs us)
  (h:∀x p,H x=none->H p=none->p≠x->d (.ref x ::(vs++n)) (nO (nO H p<|.own x) x<|.ins C p []) (λv U=>v=.non/\Q (.ref x) U) E) :
  ∅ (call (.ref C) us) (EP X l y Q) X.xe s:=by
 have j:=h (#v[s]+1) #v[s] (I.hok.fresh<|sF _) (I.hok.fresh<|oq _) (oQ<|AN _);have o:=nM.made (C:=C) I;have i:Z8 (V.ref (#v[s]+1) ::(vs++n)) (Value.ref (#v[s]+1) ::(us++q)):=.cons rfl<|r.append hd;have N:(Value.ref (#v[s]+1) ::us++q).length=ps.length:=by
  have e:=i.length;rw[F.len _ _ _ _ j]at e;show e.symm
 refine uU (Yaq (f:=f) I.kIn M.makes M.init (sI.mp M.fn) (uS (F.run _ X.stack _ _ #[Value.ref (#v[s]+1) ::us,[]] (Value.ref (#v[s]+1) ::(us++q)) _ _ E (c.make C us [])
  (o.env0.make C us []) (a _ (Value.ref (#v[s]+1) ::us) o.kIn N) i j) λr L w=>?_))
 cases r with
 | error e=>show Y l y _ _ e L o w
 | ok J =>
  cases J with
  | ret u =>
   obtain⟨v,G,D,B,A,q3⟩:=o.after w;subst A;show#[B,#[V.ref<|#v[s]+1,G,D,rfl,q3]]
  | next=>show False.elim w
  | brk=>show False.elim w
  | cont=>show False.elim w
structure Zw(N P:List Str)(sc:Scope):Prop where
 kind:sc.kind=.function:=by rfl
 co:sc.isCoroutine=false:=by rfl
 gen:sc.isGenerator=false:=by rfl
 nd:N.Nodup:=by left
 pre:N.take P.length=P:=by rfl
 par:∀x∈P,sc.names.lookup x=some .local\/sc.names.lookup x=some .cell:=by left
 nofree:∀y∈sc.names,y.2≠.free:=by left
theorem Se{kindOf:mF->mJ NameKind}:∀{binds:mD (mF×mH)}{m:mF->mJ mH},(∀v,(x,v)∉binds)->bindL kindOf binds m x=m x
 | [],_,_=>rfl
 | (n,v) ::r,m,h=>by
  unfold bindL;rw[Se λw y=>h w<|pV _ y];split
  ·have:x≠n:=by rintro rfl;show h v pK
   simp[this]
  ·rfl
theorem Pl{kindOf:mF->mJ NameKind}:∀{binds:mD (mF×mH)}{m:mF->mJ mH},(∀v,(x,v)∉binds)->bindC kindOf binds m x=m x
 | [],_,_=>rfl
 | (n,v) ::r,m,h=>by
  unfold bindC;rw[Pl λw y=>h w<|pV _ y];split
  ·rfl
  ·have:x≠n:=by rintro rfl;show h v pK
   simp[this]
theorem LR{kindOf:mF->mJ NameKind} :∀{P:mD mF}{vs:mD mH}{i:Nat}{m:mF->mJ mH},P.Nodup->P[i]? =some x->vs[i]? =some v->kindOf x=some .local->
  bindL kindOf (P.zip vs) m x=some v
 | [],_,_,_,_,h,_,_=>by simp at h
 | _ ::_,[],_,_,_,_,h,_=>by simp at h
 | p ::P,w ::vs,0,m,s,y,u,r=>by
  simp at y u;subst y;subst u;change bindL kindOf ((p,w) ::P.zip vs) m p=_;unfold bindL;rw[Se λv q=>(qU.mp s).1 (ul q).1,og r];simp
 | p ::P,w ::vs,i+1,m,s,y,u,r=>by
  change bindL kindOf ((p,w) ::P.zip vs) m x=_;unfold bindL;show LR (i:=i) (qU.mp s).2 (by simpa using y) (by simpa using u) r
theorem OM{kindOf:mF->mJ NameKind} :∀{P:mD mF}{vs:mD mH}{i:Nat}{m:mF->mJ mH},P.Nodup->P[i]? =some x->vs[i]? =some v->kindOf x≠some .local->
  bindC kindOf (P.zip vs) m x=some v
 | [],_,_,_,_,h,_,_=>by simp at h
 | _ ::_,[],_,_,_,_,h,_=>by simp at h
 | p ::P,w ::vs,0,m,s,y,u,r=>by
  simp at y u;subst y;subst u;change bindC kindOf ((p,w) ::P.zip vs) m p=_;unfold bindC;rw[Pl λv q=>(qU.mp s).1 (ul q).1,nY r];simp
 | p ::P,w ::vs,i+1,m,s,y,u,r=>by
  change bindC kindOf ((p,w) ::P.zip vs) m x=_;unfold bindC;show OM (i:=i) (qU.mp s).2 (by simpa using y) (by simpa using u) r
def start(N:mD mF)(vs:mD V):St:=vs.map some++List.replicate (N.length-vs.length) none
def pS(u:vB)(P:mS)(w:mP)(K:mK)(mg:mF->mJ mH)(nI:mO)(N:mD mF)(qual:mF)(scope:Scope)(f:mG)(y:mH)(A:mT)(nG:mD Env)(s:mI)(H:Hp)(E:XK):Cx where
 prog:=P
 w:=w
 K:=K
 mg:=mg
 nI:=nI
 A:=A.deeper (envOfC qual scope #v[s] f y)
 N:=N
 mV:=s
 mX:=H
 env:=envOfC qual scope #v[s] f y
 nG:=nG
 stack:=envOfC qual scope #v[s] f y ::nG
 ex:=[]
 calm:=true
 fn:=λ_=>true
 pn:=[]
 xe:=λe r=>wpAny (model P w) (A.deeper<|envOfC qual scope #v[s] f y) (leaving (envOfC qual scope #v[s] f y) e) (λ_ x=>u nG H s E e x) (λq x=>u nG H s E q x) r
def LJ{y:Scope}{n:Nat}{x:mF}(h:y.names.lookup x=some .cell):∃c,(cellsFrom n y.names []).lookup x=some c:=by
 have q:=IU y.names n [] (.inl h);show Gu.mp q
def LO{J:vB}{P:mS}{w:mP}{K:mK}{M:mF->mJ mH}{nI:mO}{N ps:mD mF}{qual:mF}{scope:Scope}{f:mG}{Y:mH}{A:mT}{L:mD Env}{s I:mI}{H:Hp}{E:XK}{us:mD mH}{vs:mD V}
  (S:Zw N ps scope) (hd:A.handled=none) (l:uo P w K M nI A L s H) (hl:vs.length=ps.length) (r:Z8 vs us)
  (x:InCallC s #v[s] (bindL (envOfC qual scope #v[s] f Y).kindOf (ps.zip us) λ_=>none) (cellsFrom (#v[s]+1) scope.names []) (bindC (envOfC qual scope #v[s] f Y).kindOf (ps.zip us) λ_=>none) I) :
  nM (pS J P w K M nI N qual scope f Y A L s H E) [] (start N vs) H I:=by
 have w5:ps.length<=N.length:=by have:=pO List.length S.pre;rw[oZ]at this;lia
 obtain⟨U,tk,rfl,G⟩:=x.done;have j:∀b:mG,b∉(pS J P w K M nI N qual scope f Y A L s H E).ex:=λb z=>absurd (show b∈([]:mD mG)from z) (by simp)
 refine#[#[l.mod,S.kind,rfl,rfl,oq _,λy z c U o=>?_,λy g=>?_,λy c _ h=>?_,λ_=>hd,Around.frames_deeper l.frames,.inr #[rfl,rfl],λb z=>absurd z<|j b,l.bs,l.bsz,λb _ _=>j b,λb z=>absurd z<|j b,l.funs,l.frf],
  rfl,l.bare,Un.kept G,#[_,x.toInCall.ns,λi y v U o u=>?_],λy c h=>#[_,x.cell y c h],l.hok.fresh<|oq _,λy c h=>?_,λp d=>absurd (show p∈([]:mD (mG×Obj))from d) (by simp),l.hok.kept G,?_]
 ·show name_of_addr x.apart (tO U)<|tO o
 ·have g:scope.names.lookup y=some .cell\/scope.names.lookup y=some .free:=g;rcases g with g|g
  ·show LJ g
  ·show absurd rfl<|S.nofree _<|tO g
 ·show qm<|x.above y c<|tO h
 ·have Q:i<vs.length:=by
   unfold start at o
   by_cases Q:i<vs.length
   ·show Q
   ·rw[wU (by simpa using Q)]at o;rw[FD]at o;split at o<;>cases o
  have C:vs[i]? =some v:=by
   unfold start at o;rw[xq (by simpa using Q),oF]at o;cases e:vs[i]? with
   | none=>rw[e]at o;cases o
   | some a=>rw[e]at o;cases o;rfl
  obtain⟨u,D,B⟩:=r.get C;have d:ps[i]? =some y:=by
   rw[<-S.pre,List.getElem?_take_of_lt<|by lia];show U
  have p:ps.Nodup:=by rw[<-S.pre];show S.nd.sublist<|Eg _ _
  refine#[u,B,?_];rcases S.par y (qf d)with k|k
  ·show .inl #[k,LR p d D k]
  ·obtain⟨c,e⟩:=LJ (n:=#v[s]+1) k;refine .inr #[.inl k,c,e,?_];have q:=x.cell y c e;rw[OM p d D (by change scope.names.lookup y≠_;rw[k];decide)]at q;show q
 ·show l.hok.fresh<|qm<|x.above y c<|tO h
 ·unfold start;change _=N.length;rw[oP,nQ,QT];lia
def Ej{d:vB}{P:mS}{w:mP}{K:mK}{c:mF->mJ mH}{nI:mO}{k:Nat}{f:mG}{name qual:mF}{params:Arguments}{body:mD mM}{scope:Scope}{G kV D C j B oc:mH}{an od:mJ mG}
  {M0:Array (mJ mH)} {N ps:mD mF} {a:Sp} (lk:K.lookup f=some #[oc,od,.func<|fnOf name qual params body scope G kV D C an j B,M0]) (E3:codeIn K j qual=true) (S:Zw N ps scope)
  (len:∀vs H Q E,a vs H Q E->vs.length=ps.length)
  (w6:∀(A:mT)(i:mD Env)(s:mI)(H:Hp)(vs:mD V)(Q:VK)(E:XK),Y2 k (A.deeper<|envOfC qual scope #v[s] f j)->a vs H Q E->
   ∃t,rQ (pS d P w K c nI N qual scope f j A i s H E) body t/\t {nx:=λ_ l=>Q .non l,rt:=Q} (start N vs) H) :
  Wz P w K c nI d (k+1) f (fnOf name qual params body scope G kV D C an j B) ps a:=by
 refine#[len,λA i s H args us vs Q E Y g hb r R7=>?_];have hl:=len _ _ _ _ R7;have KX:K.In s.heap:=g.mod.kin.keeps λb o e=>(g.bs b o e).1
 have U:s.heap.NoLimit:=g.mod.nolimit.keeps λb o e=>(g.bs b o e).1
 have V2:∀y∈ps.zip us,scope.names.lookup y.1=some .local\/(scope.names.lookup y.1=some .cell/\((cellsFrom (#v[s]+1) scope.names []).lookup y.1).isSome=true):=λ⟨n,v⟩ hy=>by
  rcases S.par n (ul hy).1 with q|q
  ·show .inl q
  ·show .inr #[q,IU _ _ _<|.inl q]
 refine codeAny_call_function Y.depth (KX _ _ lk) rfl S.co S.gen rfl (Sz KX E3)<|hb _ _ _ _ ?_;refine Rf S.kind V2 λenv he s1 x=>?_
 subst he;refine#[U.keeps x.toInCall.keep,codeAny_func ?_];obtain⟨t,ht,hq⟩:=w6 A i s H vs Q E (Y.deeper _) R7;have I:nM (pS d P w K c nI N qual scope f j A i s H E) [] (start N vs) H s1:=LO S Y.hd g hl r x;refine qQ (ht [] s1 (start N vs) H _ I hq) (λfl M h=>?_) λe M h=>h
 have fin:∀{p:St}{l:Hp}{v:V}{u:mH},nM (pS d P w K c nI N qual scope f j A i s H E) [] p l M->Yc v u->Q v l->CE i P w H s Q u M :=
  λ{p l v u} J L q=>#[v,l,J.os,J.bare,J.nI,J.hok,L,q]
 cases fl with
 | ret u =>
  obtain⟨v,p,l,J,L,q⟩:=h;show fin J L q
 | next =>
  obtain⟨p,l,J,q⟩:=h;show fin (v:=V.non) (u:=Value.none) J rfl q
 | brk =>
  obtain⟨_,_,_,q⟩:=h;show False.elim q
 | cont =>
  obtain⟨_,_,_,q⟩:=h;show False.elim q
section
variable {x:mF} {p pos:Pos} {e:mQ} {es:mD mQ} {t:TA} {id T:String} {r:mD V->Hp->VK->Prop}
def yT(r:mD V->Hp->VK->Prop)(t:TA):TE:=λy H Q=>t y H λw u=>r w u Q
def Z5(u:Y7 X (.builtin id) r)(q:Gl X x)(o:X.mg x=none)(n:bootBuiltins x=some (.builtin id))(l:PA X (e ::es) t)(j:x≠ "__name__":=by lk)(i:(x ==("__debug__":mF))=false:=by lk)
  (g:starEach (e ::es) X.env=(false,eval e X.env) ::starEach es X.env:=by rfl) (d:(backTo pos<|starEach es X.env).any (·.1)=false:=by rfl):PE X (.Call (.Name x p) (e ::es) [] pos) (yT r t):=by
 intro w s y H Q I h;refine uQ<|vf I q o n ?_ j i;show JP (uJ (l pos w s y H _ I h) λc a Y U N M L=>u w a y U Y c Q N M L) g d
def Xa(u:Y7 X (.type T) r)(q:Gl X x)(o:X.mg x=none)(n:bootBuiltins x=some (.type T))(l:PA X (e ::es) t)(j:x≠ "__name__":=by lk)(i:(x ==("__debug__":mF))=false:=by lk)
  (g:starEach (e ::es) X.env=(false,eval e X.env) ::starEach es X.env:=by rfl) (d:(backTo pos<|starEach es X.env).any (·.1)=false:=by rfl):PE X (.Call (.Name x p) (e ::es) [] pos) (yT r t):=by
 intro w s y H Q I h;refine uQ<|vf I q o n ?_ j i;show yj (uJ (l pos w s y H _ I h) λc a Y U N M L=>u w a y U Y c Q N M L) g d
end
end L2
namespace HT
open PySem PyProof.Rows
section
variable {E:mH->mI->Prop}
def sIx(n d:Nat):mJ Int->Nat
 | none=>d
 | some v=>if v<0 then(v+(n:Int)).toNat else min v.toNat n
def sIx_none(n d:Nat):sIx n d none=d:=rfl
def sIx_nat(n d k:Nat):sIx n d (some (k:Int))=min k n:=by
 change(if(k:Int)<0 then((k:Int)+(n:Int)).toNat else min (k:Int).toNat n)=min k n;rw[nY (by lia),Ay]
def Ub(n d:Nat)(hd:d<=n)(o:mJ Int):sIx n d o<=n:=by
 cases o with
 | none=>show hd
 | some v =>
  change(if v<0 then(v+(n:Int)).toNat else min v.toNat n)<=n
  by_cases y:v<0
  ·rw[og y];lia
  ·rw[nY y];show Nat.min_le_right _ _
def Mz(v:Int)(n d:Nat):(if v<0 then max (v+(n:Int)) 0 else min v (n:Int))=((sIx n d (some v):Nat):Int):=by
 change(if v<0 then max (v+(n:Int)) 0 else min v (n:Int))=(((if v<0 then(v+(n:Int)).toNat else min v.toNat n):Nat):Int)
 by_cases y:v<0
 ·simp only[og y];lia
 ·simp only[nY y];lia
def Zuf(lo y:mJ Int)(n:Nat):Builtin.Slice.sliceAdjust lo y 1 (n:Int)=(((sIx n 0 lo:Nat):Int),((sIx n n y:Nat):Int)):=by
 have x:¬((1:Int)<0):=by lia
 unfold Builtin.Slice.sliceAdjust;simp only[x,rX];refine Prod.ext ?_ ?_
 ·cases lo with
  | none=>rfl
  | some v=>show Mz v n 0
 ·cases y with
  | none=>rfl
  | some v=>show Mz v n n
def SN(i j:Nat):Builtin.Slice.slicePlaces (i:Int) (j:Int) 1=j-i:=by
 unfold Builtin.Slice.slicePlaces;have y:(1:Int)>0:=by lia
 simp only[y,tY,Int.ediv_one];split<;>lia
def RM{Q:mJ Int->mI->Prop}(p:IsPart v o)(h:Q o s):wpAny (model prog w) A (Builtin.Slice.slicePartIndex v) Q E s:=by
 cases p with
 | none=>show slicePart_none h
 | int i t=>show slicePart_int h
def Ziv{p:mG}{vl q:mH}{lo y:mJ Int}{n:Nat}{Q:Int×Int×Nat->mI->Prop}(o:s.heap.IsSliceOf p vl q .none)(pl:IsPart vl lo)(l:IsPart q y)
  (h:Q (((sIx n 0 lo:Nat):Int),1,sIx n n y-sIx n 0 lo) s):wpAny (model prog w) A (Builtin.Slice.sliceApplied (.ref p)<|pure (n:Int)) Q E s:=by
 obtain⟨os,u,j,r⟩:=id o;unfold Builtin.Slice.sliceApplied Builtin.Slice.sliceFields;refine nW<|nW<|yi u r (x:=vl) rfl<|nW<|yi u r (x:=q) rfl<|nW<|yi u r (x:=.none) rfl<|ou ?_;refine nW<|slicePart_none ?_;change wpAny _ _ (if((1:Int) ==0)=true then _ else _) _ _ s;rw[nY (by lk)];refine nW<|RM pl<|nW<|RM l<|nW<|ou ?_;change wpAny _ _ (match Builtin.Slice.sliceAdjust lo y 1 (n:Int)with|(lo,y)=>pure (lo,(1:Int),Builtin.Slice.slicePlaces lo y 1)) _ _ s;rw[Zuf lo y n];change wpAny _ _ (pure (((sIx n 0 lo:Nat):Int),(1:Int),Builtin.Slice.slicePlaces ((sIx n 0 lo:Nat):Int) ((sIx n n y:Nat):Int) 1)) _ _ s;rw[SN];show ou h
def Zz6(xs:Array mH)(i k:Nat):((List.range k).filterMap λ(m:Nat)=>xs[((i:Int)+(m:Int) * 1).toNat]?).toArray=((xs.toList.drop i).take k).toArray:=by
 have e:(λ(m:Nat)=>xs[((i:Int)+(m:Int) * 1).toNat]?)=λm=>xs[i+m]? :=by
  funext m
  have:((i:Int)+(m:Int) * 1).toNat=i+m:=by lia
  rw[this]
 rw[e];have:=pick_run xs i k;rw[List.filterMap_map]at this;have y:((λx=>xs[x]?) ∘ λx=>i+x)=λm=>xs[i+m]? :=rfl
 rw[y]at this;rw[this]
def getItem_tuple_cut{t p:mG}{y:Array mH}{vl l:mH}{lo x:mJ Int}{Q:mH->mI->Prop}(u:IsTup s.heap t y)(j:s.heap.IsSliceOf p vl l .none)(pl:IsPart vl lo)(i:IsPart l x)
  (g:¬(sIx y.size 0 lo=0/\sIx y.size y.size x=y.size))
  (h:Q (.ref #v[s]) {s with heap:=s.heap.push {cls:=.type "tuple",data:=.seq ((y.toList.drop<|sIx y.size 0 lo).take (sIx y.size y.size x-sIx y.size 0 lo)).toArray}})
  (hsz:y.size<=sizeLine):wpAny (model prog w) A (getItem (.ref t)<|.ref p) Q E s:=by
 have r:sizeOk (.seq ((y.toList.drop<|sIx y.size 0 lo).take (sIx y.size y.size x-sIx y.size 0 lo)).toArray):=by
  change((y.toList.drop<|sIx y.size 0 lo).take (sIx y.size y.size x-sIx y.size 0 lo)).toArray.size<=sizeLine;rw[ph,oZ,xY,ut];show oU (Nat.min_le_right ..)<|oU (Nat.sub_le ..) hsz
 have a:sIx y.size y.size x<=y.size:=Ub _ _ (oq _) x;obtain⟨os,o,e,d⟩:=id j;have n:s.TypeIs (.ref p) "slice":=#[os,o,e]
 unfold getItem
 try with_reducible refine rJ ?_
 first|refine nW (ou ?_)|skip
 refine nW<|wpAny_sequenceKey u.typeIs (by lk) ?_;refine nW (wpAny_callSpecial?_slot (name:=Str.ofString "__getitem__") u.typeIs EI
  (ER EI u.typeIs entry_tuple_getitem ?_<|args_tuple_getitem _ _))
 change wpAny _ _ (Builtin.Tuple.tupleItemsOf (.ref t)>>=_) _ _ s;refine nW<|tupleItemsOf_ u ?_;refine nW<|Bj n ?_;rw[og (by lk)];refine nW<|Ziv j pl i ?_;have c:¬((((sIx y.size 0 lo:Nat):Int) ==0 && (1:Int) ==1 && (sIx y.size y.size x-sIx y.size 0 lo) ==y.size)=true):=by
  intro q;rw[rB,rB]at q;have Y:((sIx y.size 0 lo:Nat):Int)=0:=eq_of_beq q.1.1;have U:sIx y.size y.size x-sIx y.size 0 lo=y.size:=eq_of_beq q.2;show g #[by lia,by lia]
 change wpAny _ _ (if(((sIx y.size 0 lo:Nat):Int) ==0 && (1:Int) ==1 && (sIx y.size y.size x-sIx y.size 0 lo) ==y.size)=true then _ else _) _ _ s;rw[nY c,Zz6]
 first
  | show nW (m:=Builtin.Tuple.tupleExact _) (xC (ou #[_,rfl,ou h]) r)
  | show nW (m:=Builtin.Tuple.tupleExact _) (xC (nW<|ou<|ou #[_,rfl,ou h]) r)
  | show nW (nW (m:=Builtin.Tuple.tupleExact _)<|xC (ou<|ou #[_,rfl,ou h]) r)
  | show nW<|nW (m:=Builtin.Tuple.tupleExact _)<|xC (ou #[_,rfl,ou h]) r
end
end HT
namespace L2
open PySem PySem.Spec PyProof.Rows
abbrev TO:=St->Hp->(mJ Int->Hp->Prop)->Prop
def PO(X:Cx)(e:mJ mQ)(t:TO):Prop :=
 ∀(x:mD (mG×Obj)) (s:mI) (y:St) (H:Hp) (Q:mJ Int->Hp->Prop),nM X x y H s->t y H Q->
  ∅ (evalPart e X.env) (λu r=>∃o w,nM X x y w r/\IsPart u o/\Q o w) X.xe s
def Ta:TO:=λ_ H Q=>Q none H
def Yit(t:TE):TO:=λy H Q=>t y H λx w=>oI x λi=>Q (some i) w
section
variable {X:Cx} {e:mQ} {te:TE} {lo hi:mJ mQ} {tl th:TO} {pos p2:Pos}
def Wf:PO X none Ta:=by
 intro x s y H Q I h;rw[evalPart_none];show ou #[none,H,I,.none,h]
def X1(h:PE X e te):PO X (some e) (Yit te):=by
 intro w s y H Q I r;rw[evalPart_some];refine Wr (h w s y H _ I r) λu j x p o n l=>?_
 obtain⟨i,rfl,q⟩:=oI.out l;obtain⟨t,rfl⟩:=n;show#[some i,p,o,.int i t,q]
def sW(X:Cx)(r:V->mJ Int->mJ Int->Hp->VK->Prop):Prop :=
 ∀(w:mD (mG×Obj)) (s:mI) (y:St) (H:Hp) (x:V) (v vl u:mH) (lo hi:mJ Int) (q:mG) (Q:VK),nM X w y H s->Yc x v->s.heap.IsSliceOf q vl u .none->IsPart vl lo->IsPart u hi->r x lo hi H Q->
  ∃T id,typeLookup (.type T) "__getitem__"=pure (some<|.builtin id)/\s.TypeIs v T/\∅ (getItem v<|.ref q) (EP X w y Q) X.xe s
def sW.or{r w:V->mJ Int->mJ Int->Hp->VK->Prop}(h:sW X r)(h':sW X w):sW X (λx lo hi H Q=>r x lo hi H Q\/w x lo hi H Q):=by
 intro u s y H x v vl p lo hi o Q I n l j i q;rcases q with q|q
 ·show h u s y H x v vl p lo hi o Q I n l j i q
 ·show h' u s y H x v vl p lo hi o Q I n l j i q
def tSl(r:V->mJ Int->mJ Int->Hp->VK->Prop)(te:TE)(tl th:TO):TE:=λy H Q=>te y H λx w=>tl y w λl s=>th y s λu q=>r x l u q Q
def Xk{r:V->mJ Int->mJ Int->Hp->VK->Prop}(n:sW X r)(j:PE X e te)(i:PO X lo tl)(g:PO X hi th):PE X (.Subscript e (.Slice lo hi none p2) pos) (tSl r te tl th):=by
 intro w s y H Q I h;refine Subscript_<|Wr (j w s y H _ I h) λv d x c a Y U=>?_;refine wpAny_Slice<|oK (i w d y c _ a U) λvl N ⟨l,M,L,J,G⟩=>oK (g w N y M _ L G) λp s3 ⟨u,o,E,D,C⟩=>?_;rw[evalPart_none];refine ou ?_;have B:nM X w y o {s3 with heap:=s3.heap.push {cls:=.type "slice",data:=.fields (List.toArray [vl,p,.none])}}:=E.kept (t':=s3.toks) λb ob q=>oH _ q
 obtain⟨T,id,A,ht,hg⟩:=n w {s3 with heap:=s3.heap.push {cls:=.type "slice",data:=.fields (List.toArray [vl,p,.none])}} y o x v vl p l u #v[s3] Q B Y (Heap.IsSliceOf.new ..) J D C;change ∅ (subscriptTail e (.Slice lo hi none p2) v<|.ref #v[s3]) (EP X w y Q) X.xe {s3 with heap:=s3.heap.push {cls:=.type "slice",data:=.fields (List.toArray [vl,p,.none])}};show tail_any (ops:=[.ref #v[s3],v]) ht A hg (by with_unfolding_all rfl)
def rf(xs:mD V)(lo hi:mJ Int):mD V:=(xs.drop<|HT.sIx xs.length 0 lo).take (HT.sIx xs.length xs.length hi-HT.sIx xs.length 0 lo)
def Jx(xs:mD V)(lo hi:mJ Int):(rf xs lo hi).length<=xs.length:=by
 unfold rf;rw[oZ,xY];lia
def Ykh(K:mK):V->mJ Int->mJ Int->Hp->VK->Prop:=λx lo hi H Q=>∃a y,x=.ref a/\SqT K H a y/\
 ¬(HT.sIx y.length 0 lo=0/\HT.sIx y.length y.length hi=y.length)/\∀p,H p=none->Q (.ref p) (nO H p<|.tup<|rf y lo hi)
def Vn:sW X (Ykh X.K):=by
 intro U s y H x v vl N lo hi M Q I l j i g h;obtain⟨a,w,rfl,d,c,q⟩:=h;cases l;obtain⟨Y,r,p,n⟩:=I.tuple d;have u:Y.toArray.size=w.length:=by rw[ph];show r.length.symm
 refine#["tuple",_,EI.lookup,p.typeIs,?_];refine HT.getItem_tuple_cut p j i g (by rw[u];show c) ?_ (by rw[u];show n);rw[u];refine#[.ref #v[s],_,I.laid (t':=s.toks) (o:=.tup<|rf w lo hi) (λb a q=>oH _ q) (oq _) ?_,rfl,q _<|I.hok.fresh<|oq _];show#[oU (Jx w lo hi) n,_,(r.drop<|HT.sIx w.length 0 lo).take (HT.sIx w.length w.length hi-HT.sIx w.length 0 lo),IsTup.new _ _]
end
def wW(n:Nat)(i:Int):mJ Nat:=if 0<=i then(if i<n then some i.toNat else none)else if -(n:Int)<=i then some (i+n).toNat else none
def pz{y:Type}(xs:mD y)(i:Int):mJ y:=(wW xs.length i).bind λj=>xs[j]?
def Ydc(h:wW n i=some j):seqIndex? i n=some j/\j<n/\-(n:Int)<=i/\i<n:=by
 unfold wW at h
 by_cases x:0<=i
 ·rw[og x]at h
  by_cases y:i<n
  ·rw[og y]at h;have e:i.toNat=j:=pI h;show#[by rw[seqIndex_of x y,e],by lia,by lia,y]
  ·rw[nY y]at h;cases h
 ·rw[nY x]at h
  by_cases y:-(n:Int)<=i
  ·rw[og y]at h;have e:(i+n).toNat=j:=pI h;show#[by rw[seqIndex_neg (by lia) y,e],by lia,y,by lia]
  ·rw[nY y]at h;cases h
def Fl{y:Type}{xs:mD y}{v:y}(h:pz xs i=some v):∃j,seqIndex? i xs.length=some j/\xs[j]? =some v/\j<xs.length/\-(xs.length:Int)<=i/\i<xs.length:=by
 unfold pz at h;cases e:wW xs.length i with
 | none=>rw[e]at h;cases h
 | some j =>
  rw[e]at h;obtain⟨x,w,u,s⟩:=Ydc e;show#[j,x,h,w,u,s]
def Zm{y:Type}{xs:mD y}{j:Nat}{v:y}(h:xs[j]? =some v):pz xs (j:Int)=some v:=by
 have x:j<xs.length:=(pT.mp h).1;have e:wW xs.length (j:Int)=some j:=by
  unfold wW;rw[og (by lia),og<|by lia];simp
 unfold pz;rw[e];show h
def FL(b:mQ):Prop:=∀o i,subscripted b false o i=operate [o,i] (getItem o i)
def wg(X:Cx)(r:R2):Prop :=
 ∀(value slice:mQ)(q:mD (mG×Obj)) (s:mI) (y:St) (H:Hp) (x w:V) (v u:mH) (Q:VK),nM X q y H s->Yc x v->Yc w u->r x w H Q->
  subscripted slice false v u=operate [v,u] (getItem v u)->∅ (subscriptTail value slice v u) (EP X q y Q) X.xe s
def Bo(X:Cx)(id:String)(r:V->mD V->Hp->VK->Prop):Prop :=
 ∀(w:mD (mG×Obj)) (s:mI) (y:St) (H:Hp) (x:V) (u:mD V) (v:mH) (q:mD mH) (Q:VK),nM X w y H s->Yc x v->Z8 u q->r x u H Q->
  ∅ (call (.builtin id)<|v ::q) (EP X w y Q) X.xe s
section
variable {X:Cx} {a b:mQ} {ta tb:TE} {pos:Pos}
def wg.or(h:wg X r)(h':wg X j):wg X (λx w H Q=>r x w H Q\/j x w H Q):=by
 intro value slice p s y H x w v u Q I o n q l;rcases q with q|q
 ·show h value slice p s y H x w v u Q I o n q l
 ·show h' value slice p s y H x w v u Q I o n q l
def Mf(p:wg X r)(o:PE X a ta)(n:PE X b tb)(l:FL b):PE X (.Subscript a b pos) (rR r ta tb):=by
 intro j s y H Q I h;show Subscript_<|Jj o n I h λv u i x w g e d c q=>p a b j i y g x w v u Q e d c q<|l _ _
inductive IE(S:Hp->Addr->List V->Prop)(H:Hp)(Q:VK):V->V->Prop
 | mk {p xs i v}:S H p xs->pz xs i=some v->Q v H->IE S H Q (.ref p) (.int i)
def LW(K:mK):R2:=λx y H Q=>IE (SqL K) H Q x y
def Kf(K:mK):R2:=λx y H Q=>IE (SqT K) H Q x y
def QN:R2:=λx y H Q=>∃z i c,x=.str z/\y=.int i/\z.length<=sizeLine/\pz z.cps.toList i=some c/\Q (.str #[(List.toArray [c])]) H
def Yck:wg X (LW X.K):=by
 intro value slice e s y H x w v u Q I U N h d;obtain@⟨p,A,i,z,M,L,q⟩:=h;cases U;obtain⟨t,rfl⟩:=N;obtain⟨J,r,l,p⟩:=I.list M;obtain⟨j,n,G,p,E,D⟩:=Fl L;obtain⟨o,c,C⟩:=r.get G;have B:=r.length;have hn:=zt;have fin:EP X e y Q o s:=#[z,H,I,C,q]
 by_cases Y:0<=i
 ·have g:i.toNat=j:=by
   rw[seqIndex_of Y D]at n;show pI n
  show item_listR l.isList Y (by lia) (by rw[g];simpa using c) fin d
 ·have g:(i+(J.toArray.size:Int)).toNat=j:=by
   rw[seqIndex_neg (by lia) E]at n;rw[ph,<-B];show pI n
  show subscriptTail_builtinR (x:=o) l.isList.typeIs GG.lookup
   (wpAny_getItem_list_neg (Q:=λr p=>r=o/\EP X e y Q r p) l.isList (by lia) (by rw[ph]<;>lia) (by lia) (by rw[g];simpa using c) #[rfl,fin]) d
def WN:wg X (Kf X.K):=by
 intro value slice n s y H x w v u Q I g e h d;obtain@⟨p,G,i,z,c,Y,q⟩:=h;cases g;obtain⟨t,rfl⟩:=e;obtain⟨p,r,l,i⟩:=I.tuple c;obtain⟨j,U,N,p,i,G⟩:=Fl Y;obtain⟨o,M,L⟩:=r.get N;have J:=r.length;have E:=zt;have fin:EP X n y Q o s:=#[z,H,I,L,q]
 show subscriptTail_builtinR (x:=o) l.typeIs EI.lookup
  (getItem_tuple (j:=j) (Q:=λr p=>r=o/\EP X n y Q r p) l (by lia) (by lia) (by rw[ph,<-J];show U) (by simpa using M) #[rfl,fin]) d
def Yfx:wg X QN:=by
 intro value slice N s y H x w v u Q I p o h n;obtain⟨z,i,c,rfl,rfl,j,l,q⟩:=h;obtain⟨t,rfl⟩:=p;obtain⟨j,rfl⟩:=o;obtain⟨j,r,g,U,e,d⟩:=Fl l;have Y:z.cps.toList.length=z.length:=by simp[Str.length]
 rw[Y]at r e d;have M:=zt;show tail_any (xL s z t) slot_str_getitem.lookup (getItem_str (c:=c) (by
  have j:decide (i < -(2 ^ 63:Int))=false:=pj (by lia);have U:decide (i ≥ 2 ^ 63)=false:=pj (by lia);rw[j,U,Bool.or_false]) (by rw[r];simpa using g) #[.str #[(List.toArray [c])],H,I.tok _,#[_,rfl],q]) n
def zd(K:mK):R2:=λx y H Q=>LW K x y H Q\/Kf K x y H Q\/QN x y H Q
def Ot:wg X (zd X.K):=Yck.or<|WN.or Yfx
def SV(lo y:mJ Int)(n:Nat):(sliceBounds lo y none n).1=((HT.sIx n 0 lo:Nat):Int)/\(sliceBounds lo y none n).2.1=((HT.sIx n n y:Nat):Int)/\(sliceBounds lo y none n).2.2=1:=by
 refine#[?_,?_,rfl]
 ·cases lo with
  | none=>simp[sliceBounds,HT.sIx]
  | some i =>
   simp only[sliceBounds,HT.sIx,Option.getD_none,show(1:Int)>0 by lk,tY]
   by_cases h:i<0
   ·simp only[h,tY]<;>lia
   ·simp only[h,rX]<;>lia
 ·cases y with
  | none=>simp[sliceBounds,HT.sIx]
  | some i =>
   simp only[sliceBounds,HT.sIx,Option.getD_none,show(1:Int)>0 by lk,tY]
   by_cases h:i<0
   ·simp only[h,tY]<;>lia
   ·simp only[h,rX]<;>lia
def Zoa(y:mD mH)(lo x:mJ Int):slicePick y.toArray lo x none=((y.drop<|HT.sIx y.length 0 lo).take (HT.sIx y.length y.length x-HT.sIx y.length 0 lo)).toArray:=by
 obtain⟨w,u,s⟩:=SV lo x y.toArray.size;unfold slicePick;rw[w,u,s];simp only[sliceRange_one,pick_run,ph]<;>rfl
def Yj3(K:mK):V->mJ Int->mJ Int->Hp->VK->Prop:=λx lo w H Q=>∃a y,x=.ref a/\SqL K H a y/\∀p,H p=none->Q (.ref p) (nO H p<|.lst<|rf y lo w)
def Ydn:sW X (Yj3 X.K):=by
 intro c s y H x v vl Y lo u U Q I n l j i h;obtain⟨a,w,rfl,g,q⟩:=h;cases n;obtain⟨N,r,p,e⟩:=I.list g;have d:=r.length;refine#["list",_,GG.lookup,p.isList.typeIs,?_];refine NP p.isList l j i .none (by simp) ?_ (by rw[ph]<;>lia);rw[Zoa,<-d];refine#[.ref #v[s],_,I.laid (t':=s.toks) (o:=.lst<|rf w lo u) (λb N q=>oH _ q) (oq _) ?_,rfl,q _<|I.hok.fresh<|oq _];show#[oU (Jx w lo u) e,_,0,(r.drop<|HT.sIx w.length 0 lo).take (HT.sIx w.length w.length u-HT.sIx w.length 0 lo),pp _ rfl]
def uI:V->Bool
 | .non=>true
 | .bl _=>true
 | .int _=>true
 | .str _=>true
 | _=>false
def ud:V->V->Bool
 | .non,.non=>true
 | .bl a,.bl b=>a ==b
 | .bl a,.int b=>(if a then 1 else 0) ==b
 | .int a,.bl b=>a ==(if b then 1 else 0)
 | .int a,.int b=>a ==b
 | .str a,.str b=>a ==b
 | _,_=>false
def BS(q:Yc y u)(w:Yc x v)(o:uI y=true)(p:uI x=true):SeqAt.EqAt A s u v (ud y x):=by
 cases y with
 | non =>
  cases q;cases x with
  | non=>cases w;show CY _
  | bl b=>cases w;show SeqAt.EqAt.none_bool b
  | int b=>obtain⟨t,rfl⟩:=w;show SeqAt.EqAt.none_int b t
  | str b=>obtain⟨t,rfl⟩:=w;show SeqAt.EqAt.none_str b t
  | _=>show absurd (show false=true from p) pi
 | bl a =>
  cases q;cases x with
  | non=>cases w;show SeqAt.EqAt.bool_none a
  | bl b=>cases w;show HK a b
  | int b=>obtain⟨t,rfl⟩:=w;show SeqAt.EqAt.bool_int a b t
  | str b=>obtain⟨t,rfl⟩:=w;show SeqAt.EqAt.bool_str a b t
  | _=>show absurd (show false=true from p) pi
 | int a =>
  obtain⟨r,rfl⟩:=q;cases x with
  | non=>cases w;show SeqAt.EqAt.int_none a r
  | bl b=>cases w;show SeqAt.EqAt.int_bool a r b
  | int b=>obtain⟨t,rfl⟩:=w;show SeqAt.EqAt.int_int a r b t
  | str b=>obtain⟨t,rfl⟩:=w;show SeqAt.EqAt.int_str a r b t
  | _=>show absurd (show false=true from p) pi
 | str a =>
  obtain⟨r,rfl⟩:=q;cases x with
  | non=>cases w;show SeqAt.EqAt.str_none a r
  | bl b=>cases w;show SeqAt.EqAt.str_bool a r b
  | int b=>obtain⟨t,rfl⟩:=w;show SeqAt.EqAt.str_int a r b t
  | str b=>obtain⟨t,rfl⟩:=w;show SeqAt.EqAt.str_str a r b t
  | _=>show absurd (show false=true from p) pi
 | _=>show absurd (show false=true from o) pi
def sM(x:V)(u:mH):Bool:=match u with
 | .none=>ud .non x
 | .bool b=>ud (.bl b) x
 | .int i _=>ud (.int i) x
 | .str z _=>ud (.str z) x
 | _=>false
def Rk(r:Yc y u)(f:uI y=true):sM x u=ud y x:=by
 cases y with
 | non=>cases r;rfl
 | bl b=>cases r;rfl
 | int i=>obtain⟨t,rfl⟩:=r;rfl
 | str z=>obtain⟨t,rfl⟩:=r;rfl
 | _=>show absurd (show false=true from f) pi
def CP{xs:mD V}{us:mD mH}(h:Z8 xs us)(f:xs.all uI=true):us.any (sM x)=xs.any λy=>ud y x:=by
 induction h with
 | nil=>rfl
 | cons r _ t =>
  rw[Jc,rB]at f;rw[yL,yL,Rk r f.1,t f.2]
def ET(w:Yc x v)(q:uI x=true){xs:mD V}{us:mD mH}(h:Z8 xs us)(f:xs.all uI=true):∀u∈us,SeqAt.EqAt A s u v (sM x u):=by
 induction h with
 | nil=>show λu y=>by cases y
 | cons r _ t =>
  intro p y;rw[Jc,rB]at f;rcases oM.mp y with rfl|y
  ·rw[Rk r f.1];show BS r w f.1 q
  ·show t f.2 p y
def ue(x:V)(xs:mD V):Bool:=xs.any λy=>ud y x
inductive SB(K:Frag)(neg:Bool)(x:V)(H:Hp)(Q:VK):V->Prop
 | mk {p xs}:(SqL K H p xs\/SqT K H p xs)->uI x=true->xs.all uI=true->Q (.bl<|if neg then !ue x xs else ue x xs) H->SB K neg x H Q (.ref p)
def AT(K:mK)(neg:Bool):R2:=λx y H Q=>SB K neg x H Q y
def Pj:oS X (compareOp .In) (AT X.K false):=by
 intro Y s y H x w v u Q I g d h;obtain@⟨p,U,n,e,fs,q⟩:=h;cases d;rcases n with n|n
 ·obtain⟨l,r,j,c⟩:=I.list n;refine SeqAt.in_listAt (sM x) j.isList (λo i=>ET g e r fs o<|by simpa using i) #[.bl _,H,I,rfl,?_];rw[show l.toArray.any (sM x)=l.any (sM x) by simp,CP r fs];show q
 ·obtain⟨l,r,j,c⟩:=I.tuple n;refine SeqAt.in_tupleAt (sM x) j (λo i=>ET g e r fs o<|by simpa using i) #[.bl _,H,I,rfl,?_];rw[show l.toArray.any (sM x)=l.any (sM x) by simp,CP r fs];show q
def Zq2:oS X (compareOp .NotIn) (AT X.K true):=by
 intro Y s y H x w v u Q I g d h;obtain@⟨p,U,n,e,fs,q⟩:=h;cases d;rcases n with n|n
 ·obtain⟨l,r,j,c⟩:=I.list n;refine SeqAt.notIn_listAt (sM x) j.isList (λo i=>ET g e r fs o<|by simpa using i) #[.bl _,H,I,rfl,?_];rw[show l.toArray.any (sM x)=l.any (sM x) by simp,CP r fs];show q
 ·obtain⟨l,r,j,c⟩:=I.tuple n;refine SeqAt.notIn_tupleAt (sM x) j (λo i=>ET g e r fs o<|by simpa using i) #[.bl _,H,I,rfl,?_];rw[show l.toArray.any (sM x)=l.any (sM x) by simp,CP r fs];show q
def Zr7:Y7 X (.builtin "len") (λxs H Q=>∃p x,xs=[.ref p]/\(SqL X.K H p x\/SqT X.K H p x)/\Q (.int x.length) H):=by
 intro e s y H xs d Q I r h;obtain⟨p,x,rfl,w,q⟩:=h;obtain⟨u,rfl,j⟩:=Wp r;cases j;have c:=zt;rcases w with w|w
 ·obtain⟨i,o,n,g⟩:=I.list w;have l:=o.length;show Calls.call_len_list n.isList (by simp only[ph]<;>lia) #[.int x.length,H,I.tok _,#[s.toks+1,by rw[ph,l]],q]
 ·obtain⟨i,o,n,g⟩:=I.tuple w;have l:=o.length;show len_tuple n (by simp only[ph]<;>lia) #[.int x.length,H,I.tok _,#[s.toks+1,by rw[ph,l]],q]
def Zqo:Y7 X (.builtin "len") (λxs H Q=>∃z,xs=[.str z]/\z.length<=sizeLine/\Q (.int z.length) H):=by
 intro x s y H xs w Q I r h;obtain⟨z,rfl,u,q⟩:=h;obtain⟨u,rfl,t,rfl⟩:=Wp r;have p:=zt;show len_str (by lia) #[.int z.length,H,I.tok _,#[_,rfl],q]
def Y7.or{r x:mD V->Hp->VK->Prop}(h:Y7 X f r)(h':Y7 X f x):Y7 X f (λxs H Q=>r xs H Q\/x xs H Q):=by
 intro w s y H xs u Q I p q;rcases q with q|q
 ·show h w s y H xs u Q I p q
 ·show h' w s y H xs u Q I p q
def Zr4:Y7 X (.type "list") (λxs H Q=>∃p j,xs=[.ref p]/\(SqL X.K H p j\/SqT X.K H p j)/\∀l,H l=none->Q (.ref l) (nO H l<|.lst j)):=by
 intro L s y H xs E Q I r h;obtain⟨p,j,rfl,d,q⟩:=h;obtain⟨u,rfl,J⟩:=Wp r;cases J;have fin:∀(w:mD mH),Z8 j w->j.length<=sizeLine->∀(x:mO)(i:Nat),(∀b u,s.heap.get? b=some u->x.get? b=some u)->
   x.get? #v[s]=some {cls:=.type "list",dict:=none,data:=.seq w.toArray i,slots:=#[]}->EP X L y Q (.ref #v[s]) {s with heap:=x}:=λw g c x i Y e =>
  #[.ref #v[s],_,I.laid (t':=s.toks) Y (oq _) (show Z9 X.prog X.w _ x _ (.lst j)from#[c,w,i,g,e]),rfl,q _<|I.hok.fresh<|oq _]
 rcases d with d|d
 ·obtain⟨w,g,U,c⟩:=I.list d;have G:=g.length;obtain⟨o,N,M,n,hd⟩:=U.isList;show call_list_seq p (.inl rfl) N M hd (λx i Y e=>fin w g c x i Y e) (by simp only[ph]<;>lia)
 ·obtain⟨w,g,U,c⟩:=I.tuple d;have G:=g.length;obtain⟨o,N,M,n,hd⟩:=U;show call_list_seq p (.inr rfl) N M hd (λx i Y e=>fin w g c x i Y e) (by simp only[ph]<;>lia)
def Hi(K:mK)(T:String)(x:V)(H:Hp):Prop:=match x with
 | .str _=>T ="str"
 | .int _=>T ="int"
 | .ref p=>(T ="list"/\∃y,SqL K H p y)\/(T ="tuple"/\∃o,K.lookup p=some o/\o.cls=.type "tuple"/\o.dict=none)\/
   (T ="dict"/\((∃y,H p=some (.dK y))\/∃y,H p=some (.dT y)))\/(T ="set"/\∃S n,H p=some (.set S n))
 | _=>False
def Sa(I:nM X d y H s)(r:Yc x v)(q:Hi X.K T x H) :
  s.TypeIs v T/\∀a,v=.ref a->∃h,s.heap.get? a=some h/\h.dict=none:=by
 cases x with
 | str z =>
  obtain⟨t,rfl⟩:=r;cases(show T ="str" from q);show#[xL s z t,λ_ e=>nomatch e]
 | int i =>
  obtain⟨t,rfl⟩:=r;cases(show T ="int" from q);show#[typeIs_int s i t,λ_ e=>nomatch e]
 | ref p =>
  cases r;rcases q with⟨rfl,l,i⟩|⟨rfl,o,w,g,hd⟩|⟨rfl,w⟩|⟨rfl,S,n,w⟩
  ·obtain⟨c,_,l,_⟩:=I.list i;refine#[l.isList.typeIs,λa e=>?_];cases e;obtain⟨o,n,e,c,hd,_⟩:=l;show#[o,e,hd]
  ·refine#[#[o,I.kIn p o w,g],λa e=>?_];cases e;show#[o,I.kIn _ o w,hd]
  ·have z:∃o,s.heap.get? p=some o/\o.ExactDict:=by
    rcases w with⟨l,w⟩|⟨l,w⟩
    ·obtain⟨_,_,_,_,o,_,_,e,u,_⟩:=I.hok p _ w;show#[o,e,u]
    ·obtain⟨_,_,_,_,o,_,_,e,u,_⟩:=I.hok p _ w;show#[o,e,u]
   obtain⟨o,e,u⟩:=z;refine#[#[o,e,u.1],λa j=>?_];cases j;show#[o,e,u.2.1]
  ·obtain⟨o,_,_,_,e,u,_⟩:=I.hok p _ w;refine#[#[o,e,u.1],λa j=>?_];cases j;show#[o,e,u.2.1]
 | _=>show False.elim q
def Mr(K:mK)(T:String)(r:V->mD V->Hp->VK->Prop)(to:TE)(t:TA):TE:=λy H Q=>to y H λx w=>Hi K T x w/\t y w λu s=>r x u s Q
variable {o e:mQ} {es:mD mQ} {to:TE} {t:TA} {name:mF} {m6 g8:Pos} {T id:String} {r:V->mD V->Hp->VK->Prop}
def yb(i:PlainAttrs T)(slot:Slot T name id)(q:typeOf (.builtin id)=pure (.type "method_descriptor"))(g:Bo X id r)(d:PE X o to)(c:PA X (e ::es) t)
  (Y:attributeBase o name X.env (eval o X.env)=eval o X.env:=by rfl)
  (u:((backTo g8<|starEach (e ::es) X.env).all (λx=>!x.1) && (backToKw g8<|keywordEach [] X.env).all (λx=>x.1.isSome)
   && decide ((e ::es).length+([]:mD Keyword).length+(if([]:mD Keyword).isEmpty then 0 else 1)<30))=true:=by rfl)
  (U:(m6.endLine ==g8.line)=true:=by rfl) (N:starEach (e ::es) X.env=(false,eval e X.env) ::starEach es X.env:=by rfl) (w:(backTo g8<|starEach es X.env).any (·.1)=false:=by rfl) :
  PE X (.Call (.Attribute o name m6) (e ::es) [] g8) (Mr X.K T r to t):=by
 intro p s y H Q I h;refine wpAny_Call_method_late Y u U rfl<|oK (d p s y H _ I h) λv M L=>?_;obtain⟨x,J,n,l,G,E⟩:=L;obtain⟨D,C⟩:=Sa n l G;refine#[T,id,i,slot,q,D,C,?_];have j:=c g8 p M y J _ n E;rw[N]at j ⊢;refine wb (by change(false || (backTo g8<|starEach es X.env).any (·.1))=false;rw[w]<;>rfl)<|zU ?_;show uJ j λB A vs H2 I2 r2 q2=>g p A y H2 x vs v B Q I2 l r2 q2
/- xs.append(e),list.index on a module's tuple .. are Bo facts of 06m -/
end
def yc(X:Cx)(id:String)(r:V->mD V->Hp->VK->Prop):Prop :=
 ∀(w:mD (mG×Obj)) (s:mI) (y:St) (H:Hp) (x:V) (u:mD V) (v:mH) (q:mD mH) (Q:VK),nM X w y H s->Yc x v->Z8 u q->r x u H Q->
  ∅ (call (.builtin id)<|v ::q) (EP X w y Q) X.xe s
def Z8.one{x:V}{us:mD mH}(h:Z8 [x] us):∃u,us=[u]/\Yc x u:=by
 cases h with
 | cons r t=>cases t;show#[_,rfl,r]
def Z8.eraseIdx{xs:mD V}{us:mD mH}(i:Nat)(h:Z8 xs us):Z8 (xs.eraseIdx i) (us.eraseIdx i):=by
 induction h generalizing i with
 | nil=>show .nil
 | cons r t u =>
  cases i with
  | zero=>show t
  | succ i=>show .cons r<|u i
theorem Qk{y:Type}:∀(l:mD y)(i:Nat),(l.eraseIdx i).length<=l.length
 | [],_=>oq _
 | _ ::_,0=>sF _
 | _ ::r,i+1=>yw<|Qk r i
variable {X:Cx}
def nM.lset{w its':mD mH}{n:Nat}{f:Array mH->Array mH}{t':Nat}(I:nM X p y H s)(o:H l=some (.lst xs))
  (e:s.heap.get? l=some {cls:=.type "list",data:=.seq w.toArray n}) (j:f w.toArray=its'.toArray) (i:Z8 r its') (h:r.length<=sizeLine) :
  nM X p y (nO H l<|.lst r) {s with heap:=s.heap.update l<|Obj.mapSeq f,toks:=t'}:=by
 have q:=PySem.IsL.update e f;rw[j]at q;refine I.write (x:=l) (e:=l) (by rw[o];show trivial) (.inl rfl) (λc u g d=>(uM s.heap (Obj.mapSeq f)<|pH g).trans d) #[_,q] ?_;show#[h,its',_,i,q]
def nM.lnew(I:nM X u y H s)(r:Z8 x w)(p:x.length<=sizeLine) :
  nM X u y (nO H #v[s] (.lst x)) {s with heap:=s.heap.push {cls:=.type "list",data:=.seq w.toArray},toks:=t'} :=
 I.laid (λ_ _ q=>oH _ q) (oq _) #[p,w,0,r,pp _ rfl]
def nM.fresh(I:nM X x y H s):H #v[s]=none:=I.hok.fresh<|oq _
def nM.lstM(I:nM X u y H s)(w:H l=some (.lst xs)):xs.length<=sizeLine/\∃(x:mD mH)(n:Nat),Z8 xs x/\xs.length=x.length/\s.heap.get? l=some {cls:=.type "list",data:=.seq x.toArray n}:=by
 obtain⟨z,x,n,r,e⟩:=I.hok l _ w;show#[z,x,n,r,r.length,e]
def WA(h:n<=sizeLine):Builtin.List.listTooLong n=false:=by
 unfold Builtin.List.listTooLong;show pj (by lia)
inductive MU(H:Hp)(Q:VK):V->List V->Prop
 | mk {l xs y}:H l=some (.lst xs)->xs.length<sizeLine->Q .non (nO H l<|.lst<|xs++[y])->MU H Q (.ref l) [y]
def Ly:V->mD V->Hp->VK->Prop:=λx y H Q=>MU H Q x y
def Pg:yc X "list.append" Ly:=by
 intro d s y H x c v a Q I j i h;obtain@⟨l,Y,w,p,U,q⟩:=h;cases j;obtain⟨u,rfl,g⟩:=i.one;obtain⟨z,o,n,r,w,e⟩:=I.lstM p;refine xr Oi #[_,e,rfl] F.entry_list_append (F.args_list_append_2 _ _) (PySem.list_append l o.toArray n u<|by rw[ph];lia) #[e,?_];refine#[.non,_,I.lset (its':=o++[u]) p e (by simp) (r.append<|.cons g .nil) ?_,rfl,q];rw[oP,Bx];lia
def ZF:V->mD V->Hp->VK->Prop:=λx u H Q=>∃l b y w,x=.ref l/\u=[.ref b]/\H l=some (.lst y)/\H b=some (.lst w)/\y.length+w.length<=sizeLine/\Q .non (nO H l<|.lst<|y++w)
def Zyi:yc X "list.extend" ZF:=by
 intro M s y H x L v J Q I g d h;obtain⟨l,b,u,G,rfl,rfl,i,c,E,q⟩:=h;cases g;obtain⟨u,rfl,a⟩:=d.one;cases a;obtain⟨z,p,n,r,u,e⟩:=I.lstM i;obtain⟨u,o,Y,U,G,N⟩:=I.lstM c;have j:p.toArray.size+o.toArray.size<=sizeLine:=by rw[ph,ph];lia
 have w:¬(!p.toArray.isEmpty && Builtin.List.listTooLong (p.toArray.size+o.toArray.size))=true:=by
  rw[WA j,Bool.and_false];show pi
 refine xr Lb #[_,e,rfl] F.entry_list_extend (F.args_list_extend_2 _ _)
  (AutoSeq1.list_extend_list_list_0 l p.toArray n b o.toArray Y w (by rw[ph];lia)<|by lia) #[e,N,?_]
 refine#[.non,_,I.lset (its':=p++o) i e (by simp) (r.append U) ?_,rfl,q];rw[oP];lia
def Yfg:V->mD V->Hp->VK->Prop:=λx u H Q=>∃l w i k y,x=.ref l/\u=[.int i]/\H l=some (.lst w)/\-(2 ^ 63)<=i/\i<2 ^ 63/\seqIndex? i w.length=some k/\w[k]? =some y/\Q y (nO H l<|.lst<|w.eraseIdx k)
def OL:yc X "list.pop" Yfg:=by
 intro E s y H x D v C Q I g d h;obtain⟨l,c,i,k,w,rfl,rfl,j,a,Y,U,N,q⟩:=h;cases g;obtain⟨u,rfl,M⟩:=d.one;obtain⟨t,rfl⟩:=M;obtain⟨z,o,n,r,L,e⟩:=I.lstM j;obtain⟨p,J,G⟩:=r.get N;refine xr BL #[_,e,rfl] F.entry_list_pop (F.args_list_pop_2 _ _)
  (MeetsSeq.list_pop_at l o.toArray n i t k p (fitsIndex_both a Y) (by rw[ph,<-L];show U) (by rw[<-wu];show J)<|by rw[ph];lia) #[e,?_]
 refine#[w,_,I.lset (its':=o.eraseIdx k) j e ?_ (r.eraseIdx k) ?_,G,q]
 ·change o.toArray.eraseIdxIfInBounds k=(o.eraseIdx k).toArray;rw[MG]
 ·have:=Qk c k;lia
def Yjx:R2:=λx y H Q=>∃l b w u,x=.ref l/\y=.ref b/\H l=some (.lst w)/\H b=some (.lst u)/\w.length+u.length<=sizeLine/\∀p,H p=none->Q (.ref p) (nO H p<|.lst<|w++u)
def Ygw:oS X (binaryOp .Add) Yjx:=by
 intro U s y H x w v u Q I j i h;obtain⟨l,b,n,N,rfl,rfl,g,d,M,q⟩:=h;cases j;cases i;obtain⟨z,p,n,r,l,e⟩:=I.lstM g;obtain⟨n,o,l,c,N,a⟩:=I.lstM d;refine PySem.P.add_list e a ?_ (by rw[ph,ph];lia);have Y:p.toArray++o.toArray=(p++o).toArray:=by simp
 rw[Y];show#[.ref _,_,I.lnew (t':=s.toks) (r.append c) (by rw[oP];lia),rfl,q _ I.fresh]
section
variable {κ:Type} [DecidableEq κ]
def Y0(kvs:mD (κ×V))(k:κ):mJ V:=(kvs.find? λkv=>decide<|kv.1=k).map (·.2)
def Ww(kvs:mD (κ×V))(k:κ)(v:V):mD (κ×V) :=
 if(kvs.any λkv=>decide<|kv.1=k)=true then kvs.map (λkv=>if kv.1=k then(kv.1,v)else kv)else kvs++[(k,v)]
def uR(kvs:mD (κ×V))(k:κ):mD (κ×V):=kvs.filter λkv=>decide<|kv.1≠k
def zS{p:κ×V}{r:mD (κ×V)}{k:κ}(e:p.1=k):Y0 (p ::r) k=some p.2:=by simp[Y0,zj,e]
def xz{p:κ×V}{r:mD (κ×V)}{k:κ}(e:¬p.1=k):Y0 (p ::r) k=Y0 r k:=by simp[Y0,zj,e]
theorem BY(k:κ):∀kvs:mD (κ×V),(kvs.any λkv=>decide<|kv.1=k)=(Y0 kvs k).isSome
 | []=>rfl
 | p ::r=>by
  rw[yL]
  by_cases e:p.1=k
  ·simp only[zS e,oO e,Bool.true_or,Option.isSome_some]
  ·rw[xz e,pj e,FY];show BY k r
def Ed(kvs:mD (κ×V))(k:κ)(v:V):(Ww kvs k v).length<=kvs.length+1:=by
 unfold Ww;split
 ·rw[nQ];lia
 ·rw[oP,qr,Jn];lia
def Kz{kvs:mD (κ×V)}{k:κ}(v:V)(h:Y0 kvs k=none):Ww kvs k v=kvs++[(k,v)]:=by
 unfold Ww;rw[BY,h];show nY (by lk)
def qN.isSome_eq(r:qN o u):o.isSome=u.isSome:=by
 cases o with
 | none=>cases u with
  | none=>rfl
  | some _=>show(show False from r).elim
 | some _=>cases u with
  | none=>show(show False from r).elim
  | some _=>rfl
def qN.getD(r:qN o u)(rd:Yc d d'):Yc (o.getD d) (u.getD d'):=by
 cases o with
 | none=>cases u with
  | none=>show rd
  | some _=>show(show False from r).elim
 | some _=>cases u with
  | none=>show(show False from r).elim
  | some _=>show r
def KV.val{kvs:mD (κ×V)}{vs:mD (κ×mH)}(r:KV kvs vs)(k:κ):qN (Y0 kvs k) (valueAt vs k):=by
 unfold KV at r
 induction r with
 | nil=>show rD
 | @cons p q o y h t u =>
  obtain⟨w,s⟩:=h
  by_cases e:p.1=k
  ·have x:q.1=k:=w.symm.trans e;have b:valueAt (q ::y) k=some q.2:=by simp[valueAt,zj,x]
   rw[zS e,b];show s
  ·have x:¬q.1=k:=λz=>e<|w.trans z
   have b:valueAt (q ::y) k=valueAt y k:=by simp[valueAt,zj,x]
   rw[xz e,b];show u
def KV.any{kvs:mD (κ×V)}{vs:mD (κ×mH)}(r:KV kvs vs)(k:κ):(kvs.any λkv=>decide<|kv.1=k)=vs.any λkv=>decide (kv.1=k):=by
 unfold KV at r
 induction r with
 | nil=>rfl
 | cons h t y=>rw[yL,yL,y,h.1]
def KV.repl{kvs:mD (κ×V)}{vs:mD (κ×mH)}(r:KV kvs vs)(k:κ)(w:Yc y u) :
  KV (kvs.map λkv=>if kv.1=k then(kv.1,y)else kv) (vs.map λkv=>if kv.1=k then(kv.1,u)else kv):=by
 unfold KV at r ⊢
 induction r with
 | nil=>show .nil
 | @cons p q n l h t s =>
  rw[oR,oR];refine .cons ?_ s;obtain⟨x,o⟩:=h
  by_cases e:p.1=k
  ·rw[og e,og<|x.symm.trans e];show#[x,w]
  ·rw[nY e,nY λz=>e<|x.trans z];show#[x,o]
def KV.put{kvs:mD (κ×V)}{vs:mD (κ×mH)}(r:KV kvs vs)(k:κ)(x:Yc y u):KV (Ww kvs k y) (stored vs k u):=by
 unfold Ww stored;rw[r.any k]
 by_cases e:(vs.any λkv=>decide<|kv.1=k)=true
 ·rw[og e,og e];show r.repl k x
 ·rw[nY e,nY e];show Eo r #[rfl,x]
def KV.drop{kvs:mD (κ×V)}{vs:mD (κ×mH)}(r:KV kvs vs)(k:κ):KV (uR kvs k) (without vs k):=by
 unfold KV at r ⊢;unfold uR without
 induction r with
 | nil=>show .nil
 | @cons p q s o h t x =>
  obtain⟨y,w⟩:=h;rw[tJ,tJ]
  by_cases e:p.1=k
  ·have a:¬decide (p.1≠k)=true:=by simp[e]
   have b:¬decide (q.1≠k)=true:=by simp[y.symm.trans e]
   rw[nY a,nY b];show x
  ·have u:¬q.1=k:=λz=>e<|y.trans z
   have a:decide (p.1≠k)=true:=by simp[e]
   have b:decide (q.1≠k)=true:=by simp[u]
   rw[og a,og b];show .cons #[y,w] x
def KV.length{kvs:mD (κ×V)}{vs:mD (κ×mH)}(r:KV kvs vs):kvs.length=vs.length:=oz r
def IR(kvs:mD (κ×V))(k:κ):(uR kvs k).length<=kvs.length:=yI _ _
end
def uG(r:Yc (kV k) u):(Zz P w).is k u=true:=by
 cases k with
 | inl i=>obtain⟨t,e⟩:=(show ∃t,u=Value.int i t from r);subst e;show Zty P w i t
 | inr x=>obtain⟨t,e⟩:=(show ∃t,u=Value.str x t from r);subst e;show TW P w x t
theorem IB :∀{y:mD om}{us:mD mH},Z8 (y.map kV) us->ItemsAre (Zz P w) y us
 | [],_,r=>by rw[vq]at r;cases r;show .nil
 | k ::y,_,r=>by
  rw[oR]at r;cases r with
  | cons h t=>show .cons (uG h)<|IB t
abbrev KT(H:Hp):mD (mD om×V)->mD (mD om×mG×mH)->Prop:=Paired λp q=>p.1=q.1/\H q.2.1=some (.tup<|p.1.map kV)/\Yc p.2 q.2.2
def KT.val(r:KT H kvs xs)(k:mD om):qN (Y0 kvs k) ((atKey xs k).map (·.2)):=by
 induction r with
 | nil=>show rD
 | @cons p q o y h t u =>
  obtain⟨w,_,s⟩:=h
  by_cases e:p.1=k
  ·have x:q.1=k:=w.symm.trans e;have b:atKey (q ::y) k=some q.2:=by simp[atKey,zj,x]
   rw[zS e,b];show s
  ·have x:¬q.1=k:=λz=>e<|w.trans z
   have b:atKey (q ::y) k=atKey y k:=by simp[atKey,zj,x]
   rw[xz e,b];show u
def KT.repl(r:KT H kvs xs)(k:mD om)(s:Yc y u) :
  KT H (kvs.map λkv=>if kv.1=k then(kv.1,y)else kv) (xs.map<|putAt k u):=by
 induction r with
 | nil=>show .nil
 | @cons p q l j h t o =>
  rw[oR,oR];refine .cons ?_ o;obtain⟨x,w,n⟩:=h;unfold putAt
  by_cases e:p.1=k
  ·rw[og e,og<|x.symm.trans e];show#[x,w,s]
  ·rw[nY e,nY λz=>e<|x.trans z];show#[x,w,n]
def KT.put(r:KT H kvs xs)(k:mD om)(w:H b=some (.tup<|k.map kV))(x:Yc y u) :
  KT H (Ww kvs k y) (storedH xs k b u):=by
 have e:(kvs.any λkv=>decide<|kv.1=k)=(atKey xs k).isSome:=by
  rw[BY,(r.val k).isSome_eq,Fm]
 unfold Ww storedH;rw[e]
 by_cases q:(atKey xs k).isSome=true
 ·rw[og q,og q];show r.repl k x
 ·rw[nY q,nY q];show Eo r #[rfl,w,x]
def KT.keeps(r:KT H kvs xs)(x:∀b y,H b=some (.tup y)->w b=some (.tup y)):KT w kvs xs :=
 Paired.mapP r λ_ _ z=>#[z.1,x _ _ z.2.1,z.2.2]
section
def LM(ok:pe P w H h)(e:Rd H a u):Z9 P w H h a u:=e.ok ok
def rY(ok:pe P w H h)(e:Rd H a (.dK kvs)):kvs.length<=sizeLine/\(a ==sysModules)=false/\∃vs,KV kvs vs/\h.DictOf (Zz P w) a vs :=
 show Z9 P w H h a (.dK kvs)from LM ok e
def vT(ok:pe P w H h)(e:H a=some (.dK kvs)):kvs.length<=sizeLine/\(a ==sysModules)=false/\∃vs,KV kvs vs/\h.DictOf (Zz P w) a vs:=rY ok<|.inl e
def zh(ok:pe P w H h)(e:H a=some (.tup<|y.map kV)):(tupleKind<|Zz P w).is h y a:=by
 obtain⟨_,x,r,o,u,s,n,q⟩:=(show Z9 P w H h a (.tup<|y.map kV)from ok a _ e)
 show#[o,x.toArray,n,u,s,q,by simpa using IB r]
def yK(ok:pe P w H h)(e:Rd H a (.dT kvs)):kvs.length<=sizeLine/\(a ==sysModules)=false/\
  ∃xs,KT H kvs xs/\h.DictOfH (tupleKind<|Zz P w) a xs:=by
 obtain⟨z,y,xs,r,o,n,j,i,g,d,c,Y⟩:=(show Z9 P w H h a (.dT kvs)from LM ok e)
 refine#[z,y,xs,r,o,n,j,i,g,d,c,λx u=>?_,Y];have all:∀{l:mD (mD om×V)}{m:mD (mD om×mG×mH)},KT H l m->∀x∈m,(tupleKind<|Zz P w).is h x.1 x.2.1:=by
  intro l m q
  induction q with
  | nil=>intro x u;show nomatch u
  | @cons p q Q N s t U =>
   intro x u;rcases oM.mp u with e|u
   ·subst e;show zh ok (by rw[<-s.1];show s.2.1)
   ·show U x u
 show all r x u
def JJ(ok:pe P w H h)(e:H a=some (.dT kvs)):kvs.length<=sizeLine/\(a ==sysModules)=false/\
  ∃xs,KT H kvs xs/\h.DictOfH (tupleKind<|Zz P w) a xs:=yK ok<|.inl e
end
def Xp(H:Hp)(a:mG)(y:V)(r:mJ V):Prop :=
 (∃x k,Rd H a (.dK x)/\y=kV k/\r=Y0 x k)\/∃x k b,Rd H a (.dT x)/\y=.ref b/\H b=some (.tup<|k.map kV)/\r=Y0 x k
def rH(H:Hp)(a:mG)(y v:V)(w:Hp):Prop :=
 (∃x k,H a=some (.dK x)/\y=kV k/\x.length<sizeLine/\w=nO H a (.dK<|Ww x k v))\/
 ∃x k b,H a=some (.dT x)/\y=.ref b/\H b=some (.tup<|k.map kV)/\x.length<sizeLine/\w=nO H a (.dT<|Ww x k v)
def Xp.k{H:Hp}{a:mG}{kvs:mD (om×V)}{k:om}(e:H a=some (.dK kvs)):Xp H a (kV k) (Y0 kvs k):=.inl #[kvs,k,.inl e,rfl,rfl]
def Xp.t{H:Hp}{a b:mG}{kvs:mD (mD om×V)}{k:mD om}(e:H a=some (.dT kvs))(y:H b=some (.tup<|k.map kV)):Xp H a (.ref b) (Y0 kvs k):=.inr #[kvs,k,b,.inl e,rfl,y,rfl]
def rH.k{H:Hp}{a:mG}{kvs:mD (om×V)}{k:om}{v:V}(e:H a=some (.dK kvs))(y:kvs.length<sizeLine):rH H a (kV k) v (nO H a<|.dK<|Ww kvs k v):=.inl #[kvs,k,e,rfl,y,rfl]
def rH.t{H:Hp}{a b:mG}{kvs:mD (mD om×V)}{k:mD om}{v:V}(e:H a=some (.dT kvs))(y:H b=some (.tup<|k.map kV))(x:kvs.length<sizeLine) :
  rH H a (.ref b) v (nO H a<|.dT<|Ww kvs k v):=.inr #[kvs,k,b,e,rfl,y,x,rfl]
section
variable {E:mH->mI->Prop}
def nM.big(I:nM X x y H s):sysModules<#v[s]:=by
 have h:mainGlobals<#v[s]:=(I.mod.glob.keeps I.bk).lt;show vd (by lk) h
def Zxc{Q:mH->mI->Prop}(U:A.units+1<cLine)(I:nM X N y H s)(g:Xp H a x (some v))(Y:Yc x u)(h:∀w s',nM X N y H s'->Yc v w->Q w s') :
  wpAny (model X.prog X.w) A (getItem (.ref a) u) Q E s:=by
 rcases g with⟨r,k,e,q,l⟩|⟨r,k,b,e,q,M,l⟩
 ·subst q;obtain⟨z,hd,p,n,j⟩:=rY I.hok e;obtain⟨w,i,d⟩:=qN.some_of (v:=v) (o:=valueAt p k) (by rw[l];show n.val k);show wpAny_getItem_of (uG Y) j.mapOf i<|h w _ (I.tok _) d
 ·subst q;cases(show u=Value.ref b from Y);obtain⟨z,hd,L,n,j⟩:=yK I.hok e;obtain⟨w,i,d⟩:=qN.some_of (v:=v) (o:=(atKey L k).map (·.2)) (by rw[l];show n.val k);obtain⟨p,J,c⟩:=oN.mp i;refine wpAny_getItem_heap (Ag U) (zh I.hok M) j J ?_;rw[c];show h w _ (I.tok _) d
def UB{Q:mH->mI->Prop}(i:A.units+1<cLine)(I:nM X d y H s)(g:Xp H a x o)(j:Yc x u)(h:∀s',nM X d y H s'->Q (.bool o.isSome) s') :
  wpAny (model X.prog X.w) A (compareOp .In u<|.ref a) Q E s:=by
 rcases g with⟨w,k,e,r,l⟩|⟨w,k,b,e,r,c,l⟩
 ·subst r;obtain⟨z,hd,q,p,n⟩:=rY I.hok e;refine wpAny_in_of (uG j) hd n.mapOf ?_;rw[<-(p.val k).isSome_eq,<-l];show h _<|I.tok _
 ·subst r;cases(show u=Value.ref b from j);obtain⟨z,hd,Y,p,n⟩:=yK I.hok e;refine wpAny_in_heap (Ag i) (zh I.hok c) hd n ?_;have q:=(p.val k).isSome_eq;rw[Fm]at q;rw[<-q,<-l];show h _<|I.tok _
def Yd3{Q:mH->mI->Prop}(i:A.units+1<cLine)(I:nM X d y H s)(g:Xp H a x o)(j:Yc x u)(h:∀s',nM X d y H s'->Q (.bool (!o.isSome)) s') :
  wpAny (model X.prog X.w) A (compareOp .NotIn u<|.ref a) Q E s:=by
 rcases g with⟨w,k,e,r,l⟩|⟨w,k,b,e,r,c,l⟩
 ·subst r;obtain⟨z,hd,q,p,n⟩:=rY I.hok e;refine wpAny_notIn_of (uG j) hd n.mapOf ?_;rw[<-(p.val k).isSome_eq,<-l];show h _<|I.tok _
 ·subst r;cases(show u=Value.ref b from j);obtain⟨z,hd,Y,p,n⟩:=yK I.hok e;refine wpAny_notIn_heap (Ag i) (zh I.hok c) hd n ?_;have q:=(p.val k).isSome_eq;rw[Fm]at q;rw[<-q,<-l];show h _<|I.tok _
def zW(I:nM X u y H s)(r:AF (H a))(p:Heap.SameBut a s.heap h')(o:∃q,h'.get? a=some q)(new:Z9 X.prog X.w (nO H a w) h' a w) :
  nM X u y (nO H a w) {s with heap:=h',toks:=t'} :=
 I.write (x:=a) (e:=a) r (.inl rfl) (λb q n z=>(p.2 b n).trans z) o new
def xE(z:kvs.length<=sizeLine)(hd:(a ==sysModules)=false)(y:KV kvs vs)(dd:h'.DictOf (Zz P w) a vs) :
  Z9 P w x h' a (.dK kvs):=#[z,hd,vs,y,dd]
def XT{Q:Unit->mI->Prop}(C:A.units+1<cLine)(I:nM X B y H s)(g:rH H a x v H')(M:Yc x u)(L:Yc v r)(h:∀s',nM X B y H' s'->Q () s') :
  wpAny (model X.prog X.w) A (setItem (.ref a) u r) Q E s:=by
 rcases g with⟨w,k,e,j,l,i⟩|⟨w,k,b,e,j,J,l,i⟩
 ·subst j i;obtain⟨z,hd,c,p,d⟩:=vT I.hok e;have Y:c.length<=sizeLine:=by rw[<-p.length];show z
  have U:(Ww w k v).length<=sizeLine:=by have:=Ed w k v;lia
  refine wpAny_setItem_pairs (hsz:=Y) (uG M) d λG o N=>h _ ?_
  have D:∃q,G.get? a=some q:=let⟨q,_,_,n,_⟩:=o;#[q,n];show zW I (by rw[e];show rD) N D<|xE U hd (p.put k L) o
 ·subst j i;cases(show u=Value.ref b from M);obtain⟨z,hd,xs,p,d⟩:=JJ I.hok e;have Y:xs.length<=sizeLine:=by rw[<-oz p];show z
  have U:(Ww w k v).length<=sizeLine:=by have:=Ed w k v;lia
  refine wpAny_setItem_heap (hsz:=Y) (Ag C) (zh I.hok J) d λG o N=>h _ ?_
  obtain⟨q,es,ep,n,h2,h3,h4,_,h5⟩:=o;refine zW I (by rw[e];show rD) N #[q,n] #[U,hd,_,(p.put k J L).keeps λc ys D=>?_,q,es,ep,n,h2,h3,h4,h5];rw[Zd (Qq D e (λz=>nomatch z))];show D
def Yhm{Q:Unit->mI->Prop}(I:nM X p y H s)(e:H a=some (.dK kvs))(o:Yc (kV k) u)(l:(Y0 kvs k).isSome=true)(h:∀s',nM X p y (nO H a<|.dK<|uR kvs k) s'->Q () s') :
  wpAny (model X.prog X.w) A (delItem (.ref a) u) Q E s:=by
 obtain⟨z,hd,n,x,w⟩:=vT I.hok e;refine wpAny_delItem_slot w.typeIs (by lk) OT
  (vp OT w.typeIs PySem.F.entry_dict_delitem (PySem.F.args_dict_delitem_2 _ _) (meets_dict_delitem_pairs (Zz X.prog X.w) a<|uG o) #[n,w,by rw[<-x.length];show z,by rw[<-(x.val k).isSome_eq];show l,λj r i=>h _ ?_])
 have g:∃q,j.get? a=some q:=let⟨q,_,_,d,_⟩:=r;#[q,d];show zW I (by rw[e];show rD) i g<|xE (oU (IR kvs k) z) hd (x.drop k) r
def Yjd{Q:mH->mI->Prop}(I:nM X c y H s)(e:H a=some (.dK kvs))(r:Yc (kV k) u)(l:Y0 kvs k=some v)(n:more=[]\/∃x,more=[x])
  (h:∀w s',nM X c y (nO H a<|.dK<|uR kvs k) s'->Yc v w->Q w s'):wpAny (model X.prog X.w) A (call (.builtin "dict.pop")<|.ref a ::u ::more) Q E s:=by
 obtain⟨z,hd,j,p,g⟩:=vT I.hok e;obtain⟨w,Y,U⟩:=qN.some_of (v:=v) (o:=valueAt j k) (by rw[<-l];show p.val k);have N:(keyPart u).isSome=true:=by
  cases k with
  | inl i=>obtain⟨t,q⟩:=(show ∃t,u=Value.int i t from r);subst q;rfl
  | inr x=>obtain⟨t,q⟩:=(show ∃t,u=Value.str x t from r);subst q;rfl
 have M:argsOk "dict.pop" #[.ref a ::u ::more,[]]:=by
  rcases n with q|⟨x,q⟩
  ·subst q;show PySem.F.args_dict_pop_2 _ _
  ·subst q;show LQ _ _ _
 refine vp En g.typeIs Ra M (meets_dict_pop_there (Zz X.prog X.w) a (uG r) more n N)
  #[j,w,g,by rw[<-p.length];show z,Y,λL d J=>h w _ ?_ U]
 have G:∃q,L.get? a=some q:=let⟨q,_,_,D,_⟩:=d;#[q,D];show zW I (by rw[e];show rD) J G<|xE (oU (IR kvs k) z) hd (p.drop k) d
def VB{Q:mH->mI->Prop}(I:nM X w y H s)(e:Rd H a (.dK kvs))(h:∀t s',nM X w y H s'->Q (.int kvs.length t) s'):wpAny (model X.prog X.w) A (call (.builtin "len") [.ref a]) Q E s:=by
 obtain⟨z,hd,r,x,u⟩:=rY I.hok e;refine call_len_dict hd u (by rw[<-x.length];rw[uh]at z;lia) ?_;rw[<-x.length];show h _ _<|I.tok _
end
def QW(i:mQ):Prop:=∀y x,subscripted i false y x=operate [y,x] (getItem y x)
def Yds{prog:mS}{w:mP}{A:mT}{E:mH->mI->Prop}{s:mI}{env:Env}{value slice:mQ}{pos:Pos}{T id:String}{Q:mH->mI->Prop}
  (j:typeLookup (.type T) "__getitem__"=pure (some<|.builtin id)) (g:QW slice)
  (h:wpAny (model prog w) A (eval value env) (λo p=>wpAny (model prog w) A (eval slice env) (λi u=>u.TypeIs o T/\wpAny (model prog w) A (getItem o i) Q E u) E p) E s) :
  wpAny (model prog w) A (eval (.Subscript value slice pos) env) Q E s:=by
 refine Subscript_<|qQ h (λo p y=>qQ y (λi u q=>?_) λ_ _ x=>x) λ_ _ x=>x;obtain⟨n,q⟩:=q;unfold subscriptTail;refine nW ?_;rw[getitemInPython_of_ne n.not_modules];refine nW<|wpAny_specialOf n j ?_;have fin:wpAny (model prog w) A (subscripted slice false o i) (λr l=>wpAny (model prog w) A (letTemporaryGo value o r >>=λ_=>pure r) Q E l) E u:=by
  rw[g o i];show wpAny_operating<|qQ q (λr l y=>nW<|wpAny_letTemporaryGo<|ou y) λ_ _ x=>x
 first
  | show ou (nW fin)
  | show nW (ou<|nW fin)
  | show nW fin
def Ur(I:nM X r y H s)(g:Xp H a x o):s.TypeIs (.ref a) "dict":=by
 rcases g with⟨w,k,e,_,_⟩|⟨w,k,b,e,_,_,_⟩
 ·obtain⟨_,_,q,_,u⟩:=rY I.hok e;show u.typeIs
 ·obtain⟨_,_,q,_,u⟩:=yK I.hok e;show u.typeIs
inductive yO(H:Hp)(y:V)(Q:VK):V->Prop
 | mk {a v}:Xp H a y (some v)->Q v H->yO H y Q (.ref a)
def Yhs(u s:TE):TE:=λy H Q=>u y H λx r=>s y r λw q=>yO q w Q x
inductive LL(H:Hp)(y v:V)(k:Hp->Prop):V->Prop
 | mk {a H4}:rH H a y v H4->k H4->LL H y v k (.ref a)
def Yh7(u s r:TE):TS:=λD y H=>r y H λv q=>u y q λx p=>s y p λw o=>LL o w v (D.nx y) x
def Xy(q:X.A.units+1<cLine)(p:PE X o n)(l:PE X i j)(e:QW i):PE X (.Subscript o i pos) (Yhs n j):=by
 intro w s y H Q I h;refine Yds PySem.F.slot_dict_getitem.lookup e<|Wr (p w s y H _ I h) λu d x c Y U N=>oK (l w d y c _ Y N) λE D M=>?_;obtain⟨x,L,r,J,@⟨a,v,g,G⟩⟩:=M;obtain rfl:u=Value.ref a:=U;show#[Ur r g,Zxc q r g J λc Y x d=>#[v,L,x,d,G]]
def uj(q:X.A.units+1<cLine)(p:PE X o n)(l:PE X i j)(e:PE X value d)(c:swapsWith value (some<|.Subscript o i Y) pos.line X.env=pure false) :
  PS X (.Assign [.Subscript o i Y] value pos) (Yh7 n j d):=by
 intro w s y H D I h;refine wpAny_Assign_Subscript (Wr (e w s y H _ I h) λr U v Q N M L=>Wr (p w U y Q _ N L) λu J x G E C B=>oK (l w J y G _ E B) λiv s3 A=>?_) c;obtain⟨x,r,I3,ry,@⟨a,H4,g,q3⟩⟩:=A;obtain rfl:u=Value.ref a:=C;show XT q I3 g ry M λs4 I4=>#[y,H4,I4,q3]
def Zz1(h:mO)(y:sysModules<h.objs.size):Z9 P w H (h.push {cls:=.type "dict",data:=.dict #[]}) h.objs.size (.dK []) :=
 #[sY _,uc.mpr<|pH<|oQ y,[],.nil,Heap.DictOf.new h]
def Yaw(h:mO)(y:sysModules<h.objs.size):Z9 P w H (h.push {cls:=.type "dict",data:=.dict #[]}) h.objs.size (.dT []) :=
 #[sY _,uc.mpr<|pH<|oQ y,[],.nil,_,#[],0,pp _ rfl,#[rfl,rfl,rfl],rfl,rfl,wL]
def Tw:TE:=λ_ H Q=>∀p,H p=none->Q (.ref p) (nO H p<|.dK [])
def Yfw:TE:=λ_ H Q=>∀p,H p=none->Q (.ref p) (nO H p<|.dT [])
def YD:PE X (.Dict [] [] pos) Tw:=λx s y H Q I h =>
 wpAny_Dict_empty #[.ref #v[s],_,I.laid (a:=#v[s]) (o:=.dK []) (t':=s.toks) (λ_ _ q=>oH _ q) (oq _)<|Zz1 s.heap I.big,rfl,h _<|I.hok.fresh<|oq _]
def Ybz:PE X (.Dict [] [] pos) Yfw:=λx s y H Q I h =>
 wpAny_Dict_empty #[.ref #v[s],_,I.laid (a:=#v[s]) (o:=.dT []) (t':=s.toks) (λ_ _ q=>oH _ q) (oq _)<|Yaw s.heap I.big,rfl,h _<|I.hok.fresh<|oq _]
def zI(kvs more:mD (om×V)):mD (om×V):=more.foldl (λy kv=>Ww y kv.1 kv.2) kvs
def KV.merge:∀{more:mD (om×V)}{y:mD (om×mH)}{kvs:mD (om×V)}{vs:mD (om×mH)},KV more y->KV kvs vs->KV (zI kvs more) (merged vs y):=by
 intro more y kvs vs r;unfold KV at r
 induction r generalizing kvs vs with
 | nil=>intro q;show q
 | @cons p q u s h t x =>
  intro w;have e:KV (Ww kvs p.1 p.2) (stored vs q.1 q.2):=by
   have:=w.put p.1 h.2;rw[<-h.1];show this
  show x e
theorem MJ:∀(more kvs:mD (om×V)),(zI kvs more).length<=kvs.length+more.length
 | [],kvs=>by change kvs.length<=kvs.length+0;lia
 | p ::r,kvs=>by
  have y:=MJ r<|Ww kvs p.1 p.2;have x:=Ed kvs p.1 p.2;change(zI (Ww kvs p.1 p.2) r).length<=_;rw[qr];lia
structure M1(X:Cx)(o:Expr)(m:Str)(m6:Pos)(e:Expr)(g8:Pos):Prop where
 nI:attributeBase o m X.env (eval o X.env)=eval o X.env
 few:((backTo g8<|starEach [e] X.env).all (λx=>!x.1) && (backToKw g8<|keywordEach [] X.env).all (λx=>x.1.isSome)
  && decide (([e]:List Expr).length+([]:List Keyword).length+(if([]:List Keyword).isEmpty then 0 else 1)<30))=true
 line:(m6.endLine ==g8.line)=true
 trees:backTo g8 (starEach [e] X.env)=[(false,eval e X.env)]
structure M2(X:Cx)(o:Expr)(m:Str)(m6:Pos)(e f:Expr)(g8:Pos):Prop where
 nI:attributeBase o m X.env (eval o X.env)=eval o X.env
 few:((backTo g8<|starEach [e,f] X.env).all (λx=>!x.1) && (backToKw g8<|keywordEach [] X.env).all (λx=>x.1.isSome)
  && decide (([e,f]:List Expr).length+([]:List Keyword).length+(if([]:List Keyword).isEmpty then 0 else 1)<30))=true
 line:(m6.endLine ==g8.line)=true
 trees:backTo g8 (starEach [e,f] X.env)=[(false,eval e X.env),(false,eval f X.env)]
def AV(H:Hp)(a:mG):Prop:=(∃y,Rd H a<|.dK y)\/∃y,Rd H a<|.dT y
def DE(I:nM X o y H s)(d:AV H a) :
  s.TypeIs (.ref a) "dict"/\(∀b,Value.ref a=.ref b->∃x,s.heap.get? b=some x/\x.dict=none)/\(a ==sysModules)=false:=by
 rcases d with⟨u,e⟩|⟨u,e⟩
 ·obtain⟨_,hd,n,_,w⟩:=rY I.hok e;refine#[w.typeIs,λb q=>?_,hd];cases q;obtain⟨x,_,_,r,p,_⟩:=w;show#[x,r,p.2.1]
 ·obtain⟨_,hd,n,_,w⟩:=yK I.hok e;refine#[w.typeIs,λb q=>?_,hd];cases q;obtain⟨x,_,_,r,p,_⟩:=w;show#[x,r,p.2.1]
section
variable {E:mH->mI->Prop}
def ZR{Q:mH->mI->Prop}(c:A.units+1<cLine)(I:nM X Y y H s)(g:Xp H a x o)(j:Yc x u)(rd:Yc d r)(h:∀i s',nM X Y y H s'->Yc (o.getD d) i->Q i s') :
  wpAny (model X.prog X.w) A (call (.builtin "dict.get") [.ref a,u,r]) Q E s:=by
 rcases g with⟨q,k,e,p,l⟩|⟨q,k,b,e,p,U,l⟩
 ·subst p;obtain⟨z,hd,N,n,w⟩:=rY I.hok e;refine vp Il w.typeIs Kw (No _ _ _) (meets_dict_get_default (Zz X.prog X.w) a (uG j) hd r) #[_,w.mapOf,h _ _ (I.tok _) ?_];rw[l];show(n.val k).getD rd
 ·subst p;cases(show u=Value.ref b from j);obtain⟨z,hd,N,n,w⟩:=yK I.hok e;refine vp Il w.typeIs Kw (No _ _ _) (meetsH_dict_get_default (tupleKind<|Zz X.prog X.w) a b hd r) #[Ag c,k,N,zh I.hok U,w,h _ _ (I.tok _) ?_];rw[l];show(n.val k).getD rd
end
def Ygv(r q p:TE):TE:=λy H Q=>r y H λx u=>∃a,x=.ref a/\AV u a/\q y u λw n=>p y n λz s=>∃o,Xp s a w o/\Q (o.getD z) s
def Yg1(q p:TE):TE:=λy H Q=>q y H λx s=>∃a,x=.ref a/\AV s a/\p y s λw r=>∃u k v,r a=some (.dK u)/\w=kV k/\Y0 u k=some v/\Q v (nO r a<|.dK<|uR u k)
def Bc(q:X.A.units+1<cLine)(p:PE X o n)(l:PE X e j)(i:PE X f c)(m:M2 X o "get" Y e f U):PE X (.Call (.Attribute o "get" Y) [e,f] [] U) (Ygv n j c):=by
 intro w s y H Q I h;refine DM m.nI m.few m.line ww Il PySem.F.type_dict_get<|oK (p w s y H _ I h) λu N M=>?_;obtain⟨x,L,r,J,a,G,d,E⟩:=M;subst G;obtain rfl:u=Value.ref a:=J;obtain⟨D,C,_⟩:=DE r d;refine#[D,C,?_];rw[m.trees];refine wb rfl (zU (wD (Wr (l w N y L _ r E) λiv B x A I2 ry q2 =>
  wD (oK (i w B y A _ I2 q2) λfv s3 ⟨z,H3,I3,rz,ov,g,q3⟩=>yC ?_))))
 show ZR q I3 g ry rz λw' s4 I4 B7=>#[_,H3,I4,B7,q3]
def Lc(p:PE X o n)(j:PE X e i)(m:M1 X o "pop" g e c):PE X (.Call (.Attribute o "pop" g) [e] [] c) (Yg1 n i):=by
 intro r s y H Q I h;refine DM m.nI m.few m.line ww En QC<|oK (p r s y H _ I h) λu Y w=>?_;obtain⟨x,U,q,N,a,M,d,L⟩:=w;subst M;obtain rfl:u=Value.ref a:=N;obtain⟨J,G,_⟩:=DE q d;refine#[J,G,?_];rw[m.trees];refine wb rfl<|zU<|wD<|oK (j r Y y U _ q L) λx C w=>yC ?_;obtain⟨x,H2,E,D,C,k,v,B,A,l,q2⟩:=w;subst A;show Yjd E B D l (.inl rfl) λw' s3 I3 B7=>#[v,_,I3,B7,q2]
section
variable {E:mH->mI->Prop}
def Ybp{Q:mH->mI->Prop}(I:nM X u y H s)(e:Rd H a (.dK kvs))(h:∀p s',H p=none->nM X u y (nO H p<|.dK kvs) s'->Q (.ref p) s'):wpAny (model X.prog X.w) A (call (.type "dict") [.ref a]) Q E s:=by
 obtain⟨z,hd,q,x,r⟩:=rY I.hok e;refine kt_call_dict hd r (by rw[<-x.length];show z) λj n l=>?_
 refine h _ _ (I.hok.fresh<|oq _)<|I.laid (a:=#v[s]) (o:=.dK kvs) (t':=s.toks) (λb q w=>?_) (oq _)<|xE z (uc.mpr<|pH<|oQ I.big) x n;show(l.2 b<|oQ<|oJ w).trans (oH _ w)
end
end L2
namespace Att
open PySem PySem.W PySem.Calls PyProof.Rows
def UY :∀(y:mD Int)(vs:mD mH),WellAll P h vs (y.map WData.int)->IntsAre vs y:=by
 intro y
 induction y with
 | nil =>
  intro vs w;rw[vq]at w;cases w;show .nil
 | cons n y x =>
  intro vs w;rw[oR]at w;cases w with
  | cons a b =>
   cases a;show .cons _ _<|x _ b
def Zx5{l:OpenLaw}{n:Nat}(j:l.most=some n){P:Params}{h:mO}{args:mD WData}{vals:mD mH}
  (x:l.row.toRowW.claim.pre args=true) (s:WellAll P h vals args) :
  ∃a vs y,vals=[Value.ref a]/\args=[WData.list (y.map WData.int)]/\h.get? a=some {cls:=.type "list",data:=.seq vs.toArray}/\IntsAre vs y/\y.length<=n:=by
 have p:WShape.hasAll [] args [.list .int]=true:=(pre_splitW x).1;have o:l.pre.holds [] {args:=args}=true:=(pre_splitW x).2;obtain⟨d,r,rfl,i,g⟩:=hasAllW_cons p;obtain rfl:=hasAllW_nil g;obtain⟨r,rfl,e⟩:=hasW_list i;obtain⟨y,rfl⟩:=items_int e;have c:y.length<=n:=by
  unfold OpenLaw.pre at o;have w:(WTm.not<|.lt (.lit<|.int (n:Int))<|.len<|.arg 0).holds [] {args:=[.list (y.map .int)]}=true:=by
   have w:=(holds_andW o).1;rw[j]at w;show w
  have u:=condW_of w<|w_not<|w_lt w_lit<|w_len_list<|w_arg rfl;rw[nQ]at u;refine Nat.le_of_not_lt λq=>?_
  have Y:(n:Int)<((y.length:Nat):Int):=by lia
  first
   | (rw[oO Y]at u;show absurd u<|by lk)
   | (simp at u;lia)
 cases s with
 | cons r d =>
  cases d;cases r with
  | list U Q=>show#[_,_,y,rfl,rfl,U,UY y _ Q,c]
def Zym(l:OpenLaw)(args:mD WData):l.row.toRowW.claim.post args (.bool true) args=true :=
 postW_of (r:=l.row.toRowW) (X:=(true ==true))
  (show WShape.has [] (.bool true) .bool=true by first|rfl|decide|simp[WShape.has,WShape.arms,WShape.armsAll])
  (show(WTm.eq .res<|.lit<|.bool true).value [] {args:=args,res:=some<|.bool true,after:=args}=some (.bool<|true ==true)from w_eq_bool (w_res rfl) w_lit) rfl
def attach_call{l:OpenLaw}{n:Nat}{q:mS}{M:mD mF}{L:(mF->mJ mH)->mO->Prop}{J:mP->mO->Prop}{d:DefRec}
  (E:l.most=some n) (h:d.params.defaults=[])
  (call:∀(w:mP)(g y:mI)(p e:mF->mJ mH)(x:mG)(o:Obj)(c j U:mH)(a:mG)(vs:mD mH)(i:mD Int),
   Ground q M [] L w g p e y.heap->J w y.heap->
   y.heap.get? x=some o->o.data=.func (docDef d.name d.params d.body d.scope c j U)->y.heap.CodeRec j d.name->p d.name=some (.ref x)->
   y.heap.get? a=some {cls:=.type "list",data:=.seq vs.toArray}->IntsAre vs i->i.length<=n->y.gens=#[]->
   codeAny (model l.prog w) callerA (.call (.ref x) #[[.ref a],[]]) (λr s'=>r=.ok (.ret<|.bool true)/\OldK y.heap s'.heap/\s'.os=y.os/\AllBare s'.gens) y) :
  WalkO q M L J l.row.toRowW d [] (λf vs=>PySem.call f vs):=by
 intro w g y p e G Y x o c j U D kV C hd B I Q A args vals as u H hrd N hlo;obtain rfl:D=.none:=Dflts.none I h;obtain rfl:kV=.none:=Dflts.noKw I;obtain⟨a,vs,i,rfl,rfl,s,U6,d9⟩:=Zx5 E u N;refine enter_call<|uS (call w g y p e x o c j U a vs i G Y C (fd_plain hd) B Q s U6 d9 A) λr s' hq=>?_;obtain⟨rfl,h2,h3,h4⟩:=hq;show#[.inl #[.bool true,.bool true,[],rfl,λ_=>rfl,.bool true,Zym l _,λ_=>#[List.Pairwise.nil,λ_ hm=>(nomatch hm)]],h2,h3,h4]
end Att
namespace L2
open PySem PySem.Spec PyProof.Rows
def Vg{vs:mD mH}{y:mD Int}(h:IntsAre vs y):Z8 (y.map V.int) vs:=by
 induction h with
 | nil=>show .nil
 | cons n t _ h=>show .cons #[t,rfl] h
end L2
/- THE LAST THEOREM (shape;LID,My.* are yours):
   My.Adr:a structure of the addresses that your layer names (classes,functions);My.Txt K t:a structure (Prop) of the equations over K;
   My.txt_mk:{K} {implicit addresses ..} (e1:nsIn K mainGlobals "law"=some (some<|.ref f)) (e2:K.lookup f=some #[oc,od,.func<|fnOf "law" "law" params body scope dV kV B1 pm an c8 ct,sl]) (e3:codeIn K c8 "law"=true) .. :∃t,My.Txt K t
(the tactic k_is has no namespace:write k_is) -/
namespace L2
open PySem PySem.Spec PyProof.Rows
def Z1(s:mM)(j:Nat):mM:=match s with
 | .ClassDef _ _ _ body _ _ _ _ _ _ _=>body.getD j (.Pass #[0,0,0,0])
 | _=>.Pass #[0,0,0,0]
def W1(s:mM):Arguments:=match s with
 | .FunctionDef _ a _ _ _ _ _ _ _ _=>a
 | _=>{posonlyargs:=[],args:=[],vararg:=none,kwonlyargs:=[],kw_defaults:=[],kwarg:=none,defaults:=[]}
def Y6(s:mM):mD mM:=match s with
 | .FunctionDef _ _ b _ _ _ _ _ _ _=>b
 | _=>[]
def Zj(s:mM):Scope:=match s with
 | .FunctionDef _ _ _ _ _ _ y _ _ _=>y
 | _=>{kind:=.function,names:=[],isGenerator:=false,isCoroutine:=false}
abbrev pL:vB:=λ_ _ _ _ _ _=>False
abbrev E0:XK:=λ_ _ _=>False
def Z4:ua pL X E0:=λ_ _ _ _ _ _ _ h=>h.elim
structure rW(K:Frag)(x qual:Str)(st:Stmt)(f:Addr)(fd:FuncData):Prop where
 ex:∃(oc:Value)(od:Option Addr)(kV B1 pm:Value)(an:Option Addr)(c8 ct:Value)(M0:Array (Option Value)),
  fd=fnOf x qual (W1 st) (Y6 st) (Zj st) .none kV B1 pm an c8 ct/\K.lookup f=some #[oc,od,.func fd,M0]/\codeIn K c8 qual=true
 kp:keepIn K (.ref f)=true
section
variable {P:mS} {w:mP} {K:mK} {mg:mF->mJ mH} {nI:mO}
def rW.ok{x qual:mF}{st:mM}{f:mG}{fd:mU}{N ps:mD mF}{k:Nat}{u:Sp}(F:rW K x qual st f fd)(S:Zw N ps (Zj st))(len:∀vs H Q E,u vs H Q E->vs.length=ps.length)
  (p:∀(y:mH)(A:mT)(r:mD Env)(s:mI)(H:Hp)(vs:mD V)(Q:VK)(E:XK),Y2 k (A.deeper<|envOfC qual (Zj st) #v[s] f y)->u vs H Q E->
   ∃t,rQ (pS pL P w K mg nI N qual (Zj st) f y A r s H E).nox (Y6 st) t/\t {nx:=λ_ o=>Q .non o,rt:=Q} (start N vs) H):Wz P w K mg nI pL (k+1) f fd ps u:=by
 obtain⟨i,g,kV,e,d,c,y,a,Y,rfl,lk,n⟩:=F.ex;refine Ej lk n S len λA r s H vs Q E l j=>?_
 obtain⟨t,h,q⟩:=p y A r s H vs Q E l j;show#[t,h.nox,q]
def rW.binds{x qual:mF}{st:mM}{f:mG}{fd:mU}{ps:mD mF}(F:rW K x qual st f fd)
  (h:∀(kV y u:mH)(s:mJ mG)(r q:mH)(us:mD mH),us.length=ps.length->bindArgs (fnOf x qual (W1 st) (Y6 st) (Zj st) .none kV y u s r q) #[us,[]]=pure (ps.zip us)):rj K fd ps []:=by
 obtain⟨p,o,kV,y,u,s,r,q,n,rfl,lk,l⟩:=F.ex;show .all<|h kV y u s r q
def Jb{x qual:mF}{st:mM}{f:mG}{p:mH}{od u:mJ mG}{o:Array (mJ mH)}{kV s r y q:mH}(l:K.lookup f=some #[p,od,.func<|fnOf x qual (W1 st) (Y6 st) (Zj st) .none kV s r u y q,o])
  (c:codeIn K y qual=true) (k:keepIn K (.ref f)=true):rW K x qual st f (fnOf x qual (W1 st) (Y6 st) (Zj st) .none kV s r u y q):=#[#[p,od,kV,s,r,u,y,q,o,rfl,l,c],k]
end
def Xb(y:Y2 k A):A.units+1<cLine:=Ig (Nat.add_le_add_left (by lk:1<=64) _) y.units
def Zo(h:n<=1000):n<sizeLine:=Ig h (by lk)
variable {X:Cx}
def pv(i:Nat)(y:X.N[i]? =some x:=by rfl)(w:CA X.env.scope x:=by and_intros)(hd:(x ==("__debug__":mF))=false:=by lk)
  (u:(x ==("__classdict__":mF))=false:=by lk):PE X (.Name x pos) (sJ i):=Ygq y w hd u
def XM:Y7 X (.builtin "len") (λxs H Q=>∃a kvs,xs=[V.ref a]/\H a=some (.dK kvs)/\Q (.int kvs.length) H):=by
 intro o s y H xs n Q I r h;obtain⟨a,kvs,rfl,x,q⟩:=h;obtain⟨u,rfl,w⟩:=Wp r;cases w;show VB I (.inl x) λt l p=>#[.int kvs.length,H,p,#[t,rfl],q]
def Z7{c A B:Prop}[Decidable c](y:c->A)(x:¬c->B):if c then A else B:=by
 by_cases h:c
 ·rw[og h];show y h
 ·rw[nY h];show x h
def nH(H y:Hp):Prop:=∀b o,H b=some o->y b=some o
def nH.refl(H:Hp):nH H H:=λ_ _ h=>h
def nH.trans(a:nH H y)(b:nH y x):nH H x:=λc o h=>b c o<|a c o h
def nH.free(e:nH H y)(h:y l=Option.none):H l=Option.none:=by
 cases q:H l with
 | none=>rfl
 | some o =>
  rw[e l o q]at h;cases h
def nH.seq{K:mK}{H y:Hp}{a:mG}{xs:mD V}(e:nH H y)(h:SqL K H a xs):SqL K y a xs:=by
 rcases h with(h|⟨o,h⟩)|h
 ·show .inl<|.inl<|e _ _ h
 ·show .inl<|.inr #[o,e _ _ h]
 ·show .inr h
end L2
section
namespace L2
open PySem PySem.Spec PyProof.Rows
section
variable {R:Result->mI->Prop}
def Zfi(I:Nat->mI->Prop)
  (N:∀n s,I n s->wpAny (model prog w) A (pyNext it) (λr i=>match r with
   | none=>R (.ok .next) i
   | some v=>wpAny (model prog w) A (letOwnedTupleGo g it v) (λ_ y=>wpAny (model prog w) A (assign g env v) (λ_ d =>
     wpAny (model prog w) A (forIn a true λc r=>if r=true then do let ok <-isTrue c env (eval c env);pure (ForInStep.yield ok)else pure (ForInStep.yield r)) (λok e =>
      if ok=true then wpAny (model prog w) A (eval Y env) (λx q =>
       wpAny (model prog w) A (call (.builtin "list.append") [U,x]) (λ_ p=>∃m,m<n/\I m p) (λ_ _=>False) q) (λ_ _=>False) e
      else ∃m,m<n/\I m e) (λ_ _=>False) d) (λ_ _=>False) y) (λ_ _=>False) i) (λ_ _=>False) s)
  (n:Nat) (h:I n s) :
  codeAny (model prog w) A (.compLoop (.ListComp Y [#[g,M,a,0]] scope pos) 0 it U env) R s:=by
 refine codeAny_loop rfl I (λn s L=>?_) n h;change wpAny _ A ((compTurn (.ListComp Y [#[g,M,a,0]] scope pos) 0 it U env).onRaise (λx=>do noteFrame x env;theTreesLotGoes x)) _ _ s;refine wpAny_noted ?_;rw[compTurn_list];refine nW<|Bt<|nW<|qQ (N n s L) (λr i o=>?_) λ_ _ u=>u.elim;cases r with
 | none=>show ou o
 | some v =>
  refine nW<|qQ o (λ_ y l=>?_) λ_ _ u=>u.elim;refine nW<|qQ l (λ_ d j=>nW<|qQ j (λok e Q=>?_) λ_ _ u=>u.elim) λ_ _ u=>u.elim;cases ok with
  | false=>show ou #[rfl,Q]
  | true =>
   show nW<|nW<|qQ Q (λx q j=>nW<|qQ j (λ_ p J=>ou<|ou #[rfl,J]) λ_ _ u=>u.elim) λ_ _ u=>u.elim
end
def Y8(X:Cx)(scope:Scope)(y:mD (mF×mG))(x:mD mF)(s:mI)(H:Hp)(C:mG)(ex:mD mG):Cx where
 prog:=X.prog
 w:=X.w
 K:=X.K
 mg:=X.mg
 nI:=X.nI
 A:=X.A
 N:=x
 mV:=s
 mX:=H
 env:=compEnvC scope y C X.env
 nG:=X.stack
 stack:=X.stack
 ex:=ex
 fn:=λ_=>false
 calm:=X.calm
 pn:=[]
 xe:=λ_ _=>False
structure X6(X:Cx)(scope:Scope)(cl:List (Str×Addr))(N':List Str)(fr:St->St):Prop where
 kind:scope.kind=.function
 cell:∀y∈scope.names,y.2≠.cell
 names:∀y∈scope.names,y.2=.local->scope.names.lookup y.1=some .local
 clos:closureFor scope X.env=pure cl
 sub:∀x c,cl.lookup x=some c->X.env.cells.lookup x=some c
 has:∀x,((relabel scope X.env).names.lookup x=some .cell\/(relabel scope X.env).names.lookup x=some .free)->∃c,cl.lookup x=some c
 len:∀σ:St,σ.length=X.N.length->(fr σ).length=N'.length
 fr:∀(σ:St)(i:Nat)(x:Str)(v:V),N'[i]? =some x->(fr σ)[i]? =some (some v)->CA (relabel scope X.env) x->
  ((relabel scope X.env).names.lookup x=some .cell\/(relabel scope X.env).names.lookup x=some .free)/\
  (X.env.kindOf x=some .cell\/X.env.kindOf x=some .free)/\∃j:Nat,X.N[j]? =some x/\σ[j]? =some (some v)
def Xr(a b:St):Prop:=∀(i:Nat)(v:V),a[i]? =some (some v)->b[i]? =some (some v)
def Xr.set(h:a[i]? =some none):Xr a (a.set i<|some v):=λj u e=>by
 by_cases y:i=j
 ·subst y;rw[h]at e;cases e
 ·rw[HS y];show e
def Xr.trans(h:Xr a b)(k:Xr b c):Xr a c:=λi v e=>k i v<|h i v e
def PF(X:Cx)(w:mD mQ)(t:TT):Prop :=
 ∀(x:mD (mG×Obj)) (s:mI) (y:St) (H:Hp) (Q:Bool->Hp->Prop),nM X x y H s->t y H Q->
  ∅ (forIn w true λc r=>if r=true then do let ok <-isTrue c X.env (eval c X.env);pure (ForInStep.yield ok)else pure (ForInStep.yield r)) (TP X x y Q) X.xe s
def BE:TT:=λ_ H Q=>Q true H
def X8:PF X [] BE:=λ_ _ _ H _ I h=>wpAny_tests_nil #[H,I,h]
def sO(h:PT X c t):PF X [c] t:=λx s y H Q I w=>wpAny_tests_one<|h x s y H Q I w
def sj(J:It)(fr:St->St)(g:TG)(l:TT)(j:TE)(Q:VK)(y:St)(h:Hp)(D:mG):Prop :=
 ∃W:Nat->Nat->mD V->Hp->Prop,(∃m,W 0 m [] (nO h D<|.lst []))/\∀i m s H,W i m s H->
  (J.stop i H/\Q (.ref D) H)\/(J.go i H/\∃N:mD V->Hp->Prop,(∀r q,N r q->∃p,p<m/\W (i+1) p r q)/\
   ∀x q,J.yld i H x q->g x (fr y) q λu e=>Xr (fr y) u/\l u e λb o =>
    if b=true then j u o λw n=>n D=some (.lst s)/\s.length<sizeLine/\N (s++[w]) (nO n D<|.lst<|s++[w])else N s o)
def Bs(w:TI)(fr:St->St)(g:TG)(u:TT)(s:TE):TE:=λy H Q=>w y H λJ x=>∀D,x D=none->sj J fr g u s Q y x D
section
variable {X:Cx} {fr:St->St}
def Yd9(I:nM X l y H s)(S:X6 X scope j i fr)(p:#v[s]<=C)(r:∀b∈n,uB X l H b)(g:∀b∈n,∃o,s.heap.get? b=some o):(Y8 X scope j i s H C n).Ok where
 mod:=I.ok.mod
 kind:=S.kind
 glob:=I.ok.glob
 blt:=I.ok.blt
 above:=p
 inj:=λx w c d a=>I.ok.inj x w c (S.sub x c d) (S.sub w c a)
 has:=λx h=>S.has x h
 cab:=λx c h=>absurd (show false=true from h) pi
 hd:=I.ok.hd
 frames:=I.ok.frames
 stk:=.inl rfl
 exf:=λb u=>by
  obtain⟨o,e⟩:=g b u;refine#[oQ<|qB (oJ e) p,λx c h=>(r b u).2.2.2.2.1 x c (S.sub x c h)]
 bs:=I.bs
 bsz:=oU I.ok.bsz I.sz
 noex:=λb o e u=>by
  rcases(r b u).2.2.2.1 with z|z
  ·show I.ok.noex b o e z
  ·show absurd (qB (oJ e)<|oU I.ok.bsz z) (sr _)
 exfs:=λb u z=>by
  rcases oM.mp (I.stkSub b z)with q|q
  ·show(r b u).2.1 q
  ·show(r b u).2.2.1 q
 funs:=I.stack
 frf:=I.stkFree
def Zum{h:mF->mJ mH}(I:nM X J y H s)(S:X6 X scope G E fr)(a:#v[s]<C)(g:D=#v[s])(B:∀b∈U,uB X J H b)(A:∀b∈U,∃o,s.heap.get? b=some o)
  (n:∀b o,s.heap.get? b=some o->w.get? b=some o) (hl:w.get? D=some {cls:=.type "list",data:=.seq ([]:mD mH).toArray 0}) (hn:w.Ns C h) (hCz:w.objs.size<=C+1) :
  nM (Y8 X scope G E s H C U) [] (fr y) (nO H D<|.lst []) {s with heap:=w,toks:=tk}:=by
 have fD:H D=none:=I.hok.fresh<|yt g.symm;have fC:H C=none:=I.hok.fresh<|qm a;have Y:D≠C:=by rw[g];show oQ a
 refine#[Yd9 I S (qm a) B A,rfl,I.bare,Un.laid n (yt g.symm) fD,#[h,hn,λi x v e1 e2 e3=>?_],λx c e=>?_,?_,λx c e=>?_,λp u=>absurd (show p∈([]:mD (mG×Obj))from u) (by simp),?_,S.len y I.len]
 ·obtain⟨Q,N,j,j1,j2⟩:=S.fr y i x v e1 e2 e3;obtain⟨c,M⟩:=S.has x Q;have p:=S.sub x c M;obtain⟨m,_,S2⟩:=I.loc;obtain⟨u,r,l⟩:=S2 j x v j1 j2 (by rcases N with k|k;show .inr<|.inl k;show .inr<|.inr k);refine#[u,r,.inr #[Q,c,M,?_]];rcases l with⟨k,_⟩|⟨_,c2,L,o,z,d⟩
  ·rcases N with q|q<;>(rw[k]at q;cases q)
  ·rw[p]at L;cases L;show#[o,n _ _ z,d]
 ·obtain⟨v,o,z,d⟩:=I.cell x c<|S.sub x c e;show#[v,o,n _ _ z,d]
 ·change nO H D (.lst []) C=none;rw[Zd Y.symm];show fC
 ·change nO H D (.lst []) c=none;rw[Zd (λz=>?_)]
  ·show I.freeC x c<|S.sub x c e
  ·obtain⟨v,o,q,d⟩:=I.cell x c<|S.sub x c e;have:=oJ q;rw[z,g]at this;show sr _ this
 ·show I.hok.laid n (yt g.symm) #[sY _,[],0,.nil,hl]
def PJ(I:nM X h y H s)(d:#v[s]<C)(a:∀b∈p,uB X h H b)(J:nM (Y8 X scope D B s H C p) [] (fr y) x s2)(l:Heap.SameBut C s2.heap h') :
  nM X h y x {s2 with heap:=h'}:=by
 have g:x C=none:=J.free;have u:Un (pr X.stack) p H x s.heap s2.heap:=J.nI;have j:∀b o,s.heap.get? b=some o->b≠C:=λb o e=>oQ<|vd (oJ e) d
 have Y:Un (pr X.stack) p H x s.heap h':=by
  refine#[λb o e n w r=>?_,λb o e n w r=>?_,u.free,λb o e r=>?_,u.tups,u.frzs,u.tbls]
  ·rw[l.2 b (j b o e)];show u.keep b o e n w r
  ·obtain⟨U,q⟩:=u.slot b o e n w r;show#[U,by rw[l.2 b (j b o e)];show q]
  ·obtain⟨U,q⟩:=u.there b o e r;show#[U,by rw[l.2 b (j b o e)];show q]
 have i:pe X.prog X.w x h':=λb o e=>by
  refine(J.hok b o e).stay (λc v Q q=>?_) (λ_ q=>q) λ_ _ q=>q
  have N:c≠C:=by
   rintro rfl;rcases Q with z|z
   ·rw[<-z,g]at e;cases e
   ·rw[g]at z;cases z
  rw[l.2 c N];show q
 refine I.call' (s':={s2 with heap:=h'}) (ch:=p) J.os Y i J.bare λb w=>?_
 obtain⟨_,M,U,L,G,E⟩:=a b w;show#[L,M,G,E]
end
def Kh{fr:St->St}{use:mJ (mH->Sem Unit)}{QQ:mH->mI->Prop}
  (hc:X.calm=true) (S:X6 X scope M L fr) (hi:PI X tg u9 wi) (hg:∀s H C ex,PG (Y8 X scope M L s H C ex) tg g) (hf:∀s H C ex,PF (Y8 X scope M L s H C ex) F9 tf)
  (he:∀s H C ex,PE (Y8 X scope M L s H C ex) L3 te) (hs:∀x,foldedSetIterable u9 X.env x=pure x:=by intro _;rfl) (I:nM X a9 y H s) (h:Bs wi fr g tf te y H Q)
  (fin:∀{s2 U l C H3 s4},nM X a9 y U s2->#v[s2]<C->(∀b∈l,uB X a9 U b)->nM (Y8 X scope M L s2 U C l) [] (fr y) H3 s4->Q (.ref #v[s2]) H3->compPost (model X.prog X.w) X.A X.xe use QQ (.ref #v[s2]) C (.ok .next) s4) :
  ∅ (comprehension (.ListComp L3 [#[tg,u9,F9,0]] scope pos) scope X.env B9 (newList []) false (eval u9 X.env) use) QQ X.xe s:=by
 refine wpAny_comprehension_free (use:=use) rfl hs S.clos S.kind S.names<|oK (hi a9 s y H _ I h) λv d u=>oK u λr s2 h2=>?_;obtain⟨it,l,tn,J,U,e,I2,T,d7,f2,q⟩:=h2;subst e;refine xC<|wpAny_newFunctionEnv S.cell (by intro w u;simp at u) (λj a U3=>?_) S.kind;dsimp only at a U3 ⊢;generalize hP:s2.heap.push {cls:=.type "list",dict:=none,data:=.seq ([]:mD mH).toArray}=P at a U3 ⊢;have hPz:P.objs.size=#v[s2]+1:=by rw[<-hP,uv]
 have D:#v[s2]<P.objs.size:=by rw[hPz];show AN _
 have A:∀b∈l,∃o,s2.heap.get? b=some o:=λb Y=>let⟨o,e,_⟩:=T.obj _ _ d7 b Y;#[o,e]
 have G:∀b,b<#v[s2]->b≠P.objs.size:=λb Y=>oQ<|vd Y D
 have old:∀b o,s2.heap.get? b=some o->j.get? b=some o:=λb o e=>U3.extBut b o (G b<|oJ e)<|oH _<|hP ▸ oH _ e
 have F3:j.get? #v[s2]=some {cls:=.type "list",data:=.seq ([]:mD mH).toArray 0}:=U3.extBut _ _ (oQ D)<|oH _<|hP ▸ pp _ rfl;have fD:U #v[s2]=none:=I2.hok.fresh<|oq _;obtain⟨W,⟨m0,w0⟩,O4⟩:=q #v[s2] fD;have hz:j.objs.size<=P.objs.size+1:=by
  have e:=U3.1;rw[uv]at e;show yt e
 have st1:tn 0 j:=T.keep _ _ _ d7 λb Y o e=>old b o e
 have O5:∀{D3:mD (mG×Obj)}{E:Hp},(∀p∈D3,p.1∉l)->(∀b∈l,E b=none)->∀b∈l,uB (Y8 X scope M L s2 U P.objs.size l) D3 E b:=λ{D3 E} hp hn b Y=>by
  obtain⟨o,e⟩:=A b Y;obtain⟨_,f1,f2',u,f4,r⟩:=f2 b Y;refine#[hn b Y,G b<|oJ e,λz=>?_,.inl Y,λx c h=>f4 x c<|S.sub x c h,λp K8 z=>?_]
  ·rcases oM.mp (I2.stkSub b z)with q|q
   ·show f1 q
   ·show f2' q
  ·have u:p∈D3:=by simpa[Y8]using K8
   show hp p u (by rw[z];show Y)
 have B:∀s3:mI,s3={s2 with heap:=j,toks:=s2.toks+([]:mD (mF×mH)).length}->
   codeAny (model X.prog X.w) X.A (.compLoop (.ListComp L3 [#[tg,u9,F9,0]] scope pos) 0 (.ref it) (.ref #v[s2])<|compEnvC scope M P.objs.size X.env) (compPost (model X.prog X.w) X.A X.xe use QQ (.ref #v[s2]) P.objs.size) s3:=by
  rintro s3 rfl;have I3:nM (Y8 X scope M L s2 U P.objs.size l) [] (fr y) (nO U #v[s2] (.lst [])) {s2 with heap:=j,toks:=s2.toks+([]:mD (mF×mH)).length}:=Zum I2 S D rfl f2 A old F3 a hz;refine Zfi (λn u=>∃i ys E,nM (Y8 X scope M L s2 U P.objs.size l) [] (fr y) E u/\tn i u.heap/\(∀b∈l,E b=none)/\W i n ys E) ?_ m0 #[0,[],_,I3,st1,λb Y=>?_,w0]
  ·rintro n s3 ⟨i,ys,H3,I3,x9,fr3,w3⟩;rcases O4 i n ys H3 w3 with⟨stop,qn⟩|⟨go,N,hN,step⟩
   ·refine oK (T.done (Y8 X scope M L s2 U P.objs.size l) rfl rfl rfl hc i [] s3 (fr y) H3 _ I3 (O5 (by simp) fr3) x9 stop) λr s4 ⟨hr,u⟩=>?_
    subst hr;show fin I2 D f2 u qn
   ·refine oK (T.item (Y8 X scope M L s2 U P.objs.size l) rfl rfl rfl hc i [] s3 (fr y) H3 _ I3 (O5 (by simp) fr3) x9 go) λr s4 ⟨u,hr,h4⟩=>?_
    subst hr;refine oK h4 λ_ s5 h9=>?_
    obtain⟨x,H5,I5,r5,y5,C1,fr5⟩:=h9;have I5':=I5.pinned (O5 (by simp) fr5)<|T.obj _ _ C1;refine oK (hg s2 U P.objs.size l _ s5 (fr y) H5 x u _ I5' r5<|step x H5 y5) λ_ s6 ⟨J,H6,I6,kp,q6⟩=>?_
    refine oK (hf s2 U P.objs.size l _ s6 J H6 _ I6 q6) λok s7 ⟨H7,I7,q7⟩=>?_
    have again:∀{σ8:St}{H8:Hp}{s8:mI}{c:mD V},Xr (fr y) σ8->nM (Y8 X scope M L s2 U P.objs.size l) ([]++AO l s5.heap) σ8 H8 s8->N c H8->
      ∃m,m<n/\∃i ys E,nM (Y8 X scope M L s2 U P.objs.size l) [] (fr y) E s8/\tn i s8.heap/\(∀b∈l,E b=none)/\W i m ys E:=λ{σ8 H8 s8 c} kp8 I8 n8=>by
     obtain⟨m',hm,w8⟩:=hN c H8 n8;refine#[m',hm,i+1,c,H8,(I8.unpinned).weak (by rw[I8.len];show S.len y I2.len) kp8,T.keep _ _ _ C1 λb Y o e=>(I8.pin (b,o)<|rN _<|rN _<|Dv Y e).1,λb Y=>?_,w8];obtain⟨o,e,d⟩:=T.obj _ _ C1 b Y;show(I8.pin (b,o)<|rN _<|rN _<|Dv Y e).2.1
    cases ok with
    | false=>show again kp I7 q7
    | true =>
     refine oK (he s2 U P.objs.size l _ s7 J H7 _ I7 q7) λuy s8 h9=>?_
     obtain⟨w,H8,I8,r8,d,hz8,q8⟩:=h9;show Wr (Pg _ s8 J H8 (.ref #v[s2]) [w] (.ref #v[s2]) [uy] (λ_ H9=>N (ys++[w]) H9) I8 rfl (.cons r8 .nil) #[d,hz8,q8]) λ_ s9 v9 H9 I9 _ q9=>again kp I9 q9
  ·change nO U #v[s2] (.lst []) b=none;obtain⟨o,e⟩:=A b Y;rw[Zd (oQ<|oJ e)];show(f2 b Y).1
 show codeAny_compStart_list (B _ rfl)<|T.self X.A 0 _ _ _ st1<|B _ rfl
def WT{fr:St->St}
  (j:X.calm=true) (S:X6 X scope u r fr) (i:PI X o n e) (d:∀s H C w,PG (Y8 X scope u r s H C w) o g) (c:∀s H C w,PF (Y8 X scope u r s H C w) a Y)
  (U:∀s H C w,PE (Y8 X scope u r s H C w) N M) (L:∀x,foldedSetIterable n X.env x=pure x:=by intro _;rfl):PE X (.ListComp N [#[o,n,a,0]] scope pos) (Bs e fr g Y M):=by
 intro A s y H Q I h;rw[eval_ListComp];show Kh j S i d c U L I h λJ q G l E=>let⟨D,p,_⟩:=l.loc;#[D,p,λh' B=>#[.ref _,_,PJ J q G l B,rfl,E]]
section
variable {K:mK} {a:mG} {fr:St->St} {g:TG} {tf:TT} {te:TE} {Q:VK} {σ:St} {H1:Hp} {D:mG}
def ro(fr:St->St)(g:TG)(tf:TT)(te:TE)(σ:St)(D:mG)(x:V)(u:mD V)(H:Hp)(N:mD V->Hp->Prop):Prop :=
 g x (fr σ) H λw q=>Xr (fr σ) w/\tf w q λb s=>if b=true then te w s λy r=>r D=some (.lst u)/\u.length<sizeLine/\N (u++[y]) (nO r D<|.lst<|u++[y])else N u s
def Yp(Pv:Nat->mD V->Hp->Prop)(q:Pv 0 [] (nO H1 D<|.lst []))(u:∀i w H,i<=xs.length->Pv i w H->SqL K H a xs)
  (o:∀i x w H,xs[i]? =some x->Pv i w H->ro fr g tf te σ D x w H (Pv<|i+1)) (hd:∀w H,Pv xs.length w H->Q (.ref D) H):sj (vJ K a) fr g tf te Q σ H1 D:=Xx Pv q (λs H p=>#[xs,u _ s H (oq _) p,oq _]) (λi s H r p=>#[#[xs,xs[i],u i s H (qm r) p,pJ r],λx n ⟨e,y⟩=>e ▸ o i x s _ (y xs<|u i s H (qm r) p) p]) hd
def GK(Pv:Nat->mD V->Hp->Prop)(q:Pv 0 [] (nO H1 D<|.lst []))(u:∀i w H,i<=xs.length->Pv i w H->SqT K H a xs)
  (o:∀i x w H,xs[i]? =some x->Pv i w H->ro fr g tf te σ D x w H (Pv<|i+1)) (hd:∀w H,Pv xs.length w H->Q (.ref D) H):sj (CC K a) fr g tf te Q σ H1 D:=Xx Pv q (λs H p=>#[xs,u _ s H (oq _) p,oq _]) (λi s H r p=>#[#[xs,xs[i],u i s H (qm r) p,pJ r],λx n ⟨e,y⟩=>e ▸ o i x s _ (y xs<|u i s H (qm r) p) p]) hd
def Zut{lo:Int}{n:Nat}(Pv:Nat->mD V->Hp->Prop)(r:Pv 0 [] (nO H1 D<|.lst []))
  (q:∀i w H,i<n->Pv i w H->ro fr g tf te σ D (.int<|lo+i) w H (Pv<|i+1)) (hd:∀w H,Pv n w H->Q (.ref D) H):sj (zp lo n) fr g tf te Q σ H1 D:=Xx Pv r (λ_ _ _=>oq _) (λi s H u p=>#[u,λx o ⟨e,y⟩=>by subst e y;show q i s _ u p]) hd
def Ft(x:mF):It:=#[λi _=>i<x.cps.size,λi H v y=>y=H/\∃c,x.cps[i]? =some c/\v=.str #[(List.toArray [c])],λi _=>x.cps.size<=i]
def Uw(Pv:Nat->mD V->Hp->Prop)(w:Pv 0 [] (nO H1 D<|.lst []))
  (u:∀i c y H,x.cps[i]? =some c->Pv i y H->ro fr g tf te σ D (.str #[(List.toArray [c])]) y H (Pv<|i+1)) (hd:∀y H,Pv x.cps.size y H->Q (.ref D) H):sj (Ft x) fr g tf te Q σ H1 D:=Xx Pv w (λ_ _ _=>oq _) (λi s H r p=>#[r,λv n ⟨e,c,q,o⟩=>by subst e o;show u i c s _ q p]) hd
end
def SW{P:mS}{w:mP}{K:mK}{D:mQ}(it:mG)(x:mF)(t:Tok):vI P w K D (Ft x) [it] it (λi h=>h.IsStrIter it "str_ascii_iterator" x t i) where
 mem:=by simp
 obj:=λi h st b u=>by
  have e:b=it:=by simpa using u
  subst e;obtain⟨o,e,c,d⟩:=st;show#[o,e,λv z=>by rw[d]at z;cases z]
 keep:=λi h q st k=>by
  obtain⟨o,e,r⟩:=st;show#[o,k it (by simp) o e,r]
 item:=by
  intro X n l j M i L s y H E I p st g;subst n l j;obtain⟨a,Y,C,U,Q,N⟩:=p it (by simp);have J:i<x.cps.size:=g;refine wpAny_pyNext_ascii_item st (c:=x.cps[i]) (by simp[J]) λq G B=>?_
  have A:nM X L y H {s with heap:=q,toks:=s.toks+1}:=I.turned (λb o u e=>(B.2 b u).trans e) a Y U Q N;obtain⟨o,e,c,d⟩:=id G;show#[_,rfl,xS (s:={s with heap:=q,toks:=s.toks+1}) e c d (by lk) #[.str #[(List.toArray [x.cps[i]])],H,A,#[_,rfl],#[rfl,_,by simp[J],rfl],G,λb u=>(p b u).1]]
 done:=by
  intro X n l j M i L s y H E I p st g;subst n l j;obtain⟨a,Y,C,U,Q,N⟩:=p it (by simp);have C0:x.cps.size<=i:=g;show wpAny_pyNext_ascii_end (I.ok.hd M) st (by simp[C0]) λq eb=>#[rfl,I.turned (t':=s.toks) (λb o u e=>eb b o u e) a Y U Q N]
 self:=λ_ _ _ _ _ st h=>wpAny_pyIter_striter_ascii st h
def ZW(w:TE):TI:=λy H R=>w y H λv u=>∃x,v=.str x/\x.cps.all (· < 128)=true/\R (Ft x) u
def TU{X:Cx}{n l:mQ}{p:TE}(j:PE X l p):PI X n l (ZW p):=by
 intro i s y H R I h;refine Wr (j i s y H _ I h) λv u x g r d c=>?_
 obtain⟨w,e,a,q⟩:=c;subst e;obtain⟨t,rfl⟩:=d;refine wpAny_pyIter_ascii a ?_;refine#[#v[u],[#v[u]],_,_,g,rfl,r.kept (t':=u.toks) λb o e=>oH _ e,SW _ w t,#[_,pp _ rfl,rfl,rfl],λb Y=>?_,q];have e:b=#v[u]:=by simpa using Y
 subst e;show r.fpOk (oq _)<|r.hok.fresh<|oq _
def Z8.at_bool{bs:mD Bool}{us:mD mH}{i:Nat}{u:mH}(h:Z8 (bs.map V.bl) us)(e:us[i]? =some u):∃b,bs[i]? =some b/\u=.bool b:=by
 induction bs generalizing us i with
 | nil=>cases h;cases e
 | cons b bs y =>
  cases h with
  | cons r t =>
   cases i with
   | zero=>cases e;show#[b,rfl,r]
   | succ i=>show y t e
def Zxz(bs:mD Bool):(List.range bs.length).all (λi=>bs.getD i false)=bs.all id:=by
 have e:(List.range bs.length).map (λi=>bs.getD i false)=bs:=by
  apply List.ext_getElem
  ·simp
  ·intro i y x;simp at y;simp[y]
 calc (List.range bs.length).all (λi=>bs.getD i false)=((List.range bs.length).map (λi=>bs.getD i false)).all id:=by rw[List.all_map];rfl
  _=bs.all id:=by rw[e]
def Tk(j:X.calm=true):Y7 X (.builtin "all") (λxs H Q=>∃(p:mG)(bs:mD Bool),xs=[.ref p]/\SqL X.K H p (bs.map V.bl)/\Q (.bl<|bs.all id) H):=by
 intro N s y H xs M Q I r h;obtain⟨p,bs,rfl,g,q⟩:=h;obtain⟨u,rfl,d⟩:=Wp r;cases d;obtain⟨w,l,n,x⟩:=I.list g;have c:p<#v[s]:=by obtain⟨_,_,e,_⟩:=n;show oJ e
 refine call_all_walk<|yH n.isList ?_;refine#[#v[s],_,_,w.toArray.size,_,_,λi=>bs.getD i false,rfl,Bp (A:=X.A.in1) (show X.A.in1.handled=none from I.ok.hd j) #v[s] p (oQ c) w.toArray,#[#[_,pp _ rfl,rfl,rfl],n.isList.push _],?_,λx tk k=>?_]
 ·intro i v u o L a Y;obtain⟨b,U,rfl⟩:=Z8.at_bool (i:=i) l (by simpa using a);refine vj ?_;have e:bs.getD i false=b:=by rw[ub,U];rfl
  have x:o (bs.getD i false) u:=Y;rw[e]at x;show x
 ·have x:=l.length;rw[nQ]at x;refine#[.bl<|bs.all id,H,?_,?_,q]
  ·refine I.kept (t':=tk) λb o e=>k b o ?_<|oH _ e
   have:=oJ e;intro z;have u:b=#v[s]:=by simpa using z
   rw[u]at this;show sr _ this
  ·change Value.bool ((List.range w.toArray.size).all λi=>bs.getD i false)=Value.bool (bs.all id);rw[ph,<-x,Zxz]
def Zss:Y7 X (.builtin "isinstance") (λxs H Q=>∃x c b t,xs=[x,c]/\Xw X.K H x t/\((∃n,c=.ty n/\kitOne X.K t (.type n)=some b)\/∃a,c=.ref a/\kitOne X.K t (.ref a)=some b)/\Q (.bl b) H):=by
 intro l s y H xs j Q I r h;obtain⟨x,c,b,t,rfl,w,k,q⟩:=h;obtain⟨u,i,rfl,p,o⟩:=xk r;rcases k with⟨n,rfl,k⟩|⟨a,rfl,k⟩
 ·cases o;show Sw I p w k λtk=>#[.bl b,H,I.tok tk,rfl,q]
 ·cases o;show Sw I p w k λtk=>#[.bl b,H,I.tok tk,rfl,q]
def Nx:V->mJ Int->mJ Int->Hp->VK->Prop:=λx lo y H Q=>∃z,x=.str z/\z.length<=sizeLine/\Q (.str<|Txt.slice z lo y) H
def Ygb:sW X Nx:=by
 intro U s y H x v vl N lo M L Q I c a Y e h;obtain⟨z,rfl,r,q⟩:=h;obtain⟨t,rfl⟩:=c;refine#["str",_,F.slot_str_getitem.lookup,xL _ _ _,?_];obtain⟨o,p,n,hd⟩:=a;cases Y with
 | none =>
  cases e with
  | none=>show Cn (l:=none) (u:=none) (st:=none) #[o,p,n,hd] rfl (CI #[oU (Ek z none none) r,λw k=>#[.str<|Txt.slice z none none,H,I.tok k,#[w,rfl],q]])
  | int j g=>show Cn (l:=none) (u:=some (j,g)) (st:=none) #[o,p,n,hd] rfl (CI #[oU (Ek z none<|some j) r,λw k=>#[.str<|Txt.slice z none<|some j,H,I.tok k,#[w,rfl],q]])
 | int i d =>
  cases e with
  | none=>show Cn (l:=some (i,d)) (u:=none) (st:=none) #[o,p,n,hd] rfl (CI #[oU (Ek z (some i) none) r,λw k=>#[.str<|Txt.slice z (some i) none,H,I.tok k,#[w,rfl],q]])
  | int j g=>show Cn (l:=some (i,d)) (u:=some (j,g)) (st:=none) #[o,p,n,hd] rfl<|CI #[oU (Ek z (some i)<|some j) r,λw k=>#[.str<|Txt.slice z (some i)<|some j,H,I.tok k,#[w,rfl],q]]
def Kx(M:St->Hp->St->Hp->Prop)(t:TS):TS:=λD y H=>t {D with nx:=M y H} y H/\∀x w,M y H x w->D.nx x w
def YH{X:Cx}{st:mM}{t:TS}(M:St->Hp->St->Hp->Prop)(h:PS X st t):PS X st (Kx M t):=by
 intro r s y H D I w;refine oK (h r s y H {D with nx:=M y H} I w.1) λf o q=>?_
 cases f with
 | next=>obtain⟨x,u,p,m⟩:=q;show#[x,u,p,w.2 x u m]
 | brk=>show q
 | cont=>show q
 | ret u=>show q
def Cg:mQ->Bool
 | .Starred .. =>false
 | _=>true
def AB(h:Cg e=true):starEach (e ::es) env=(false,eval e env) ::starEach es env:=by
 cases e<;>first
  | rfl
  | show absurd h pi
def Zb(y:PE X e x)(w:PA X es t)(h:Cg e=true:=by rfl):PA X (e ::es) (uV x t):=Yc2 y w<|AB h
structure WSs(X:Cx)(b:List Stmt)(D:qD)(σ:St)(H:Hp):Prop where
 run:∀(a9:List (Addr×Obj)) (s:Shared),nM X a9 σ H s->∅ (execs b X.env) (SP X a9 D) X.xe s
structure WS(X:Cx)(st:Stmt)(D:qD)(σ:St)(H:Hp):Prop where
 run:∀(a9:List (Addr×Obj)) (s:Shared),nM X a9 σ H s->∅ (exec st X.env) (SP X a9 D) X.xe s
structure WE(X:Cx)(e:Expr)(σ:St)(H:Hp)(Q:VK):Prop where
 run:∀(a9:List (Addr×Obj)) (s:Shared),nM X a9 σ H s->∅ (eval e X.env) (EP X a9 σ Q) X.xe s
section
variable {X:Cx} {b Zs:mD mM} {st:mM} {e:mQ} {D:qD} {σ:St} {H:Hp} {t:TS} {te:TE} {Q:VK}
def Zq:rQ X b (WSs X b):=λy s _ _ _ I h=>h.run y s I
def Up:PS X st (WS X st):=λy s _ _ _ I h=>h.run y s I
def BG:PE X e (WE X e):=λy s _ _ _ I h=>h.run y s I
def WSs.of(h:rQ X b t)(q:t D σ H):WSs X b D σ H:=#[λy s I=>h y s σ H D I q]
def WS.of(h:PS X st t)(q:t D σ H):WS X st D σ H:=#[λy s I=>h y s σ H D I q]
def WE.of(h:PE X e te)(q:te σ H Q):WE X e σ H Q:=#[λy s I=>h y s σ H Q I q]
def WSs.step(h:PS X st t)(q:t {D with nx:=WSs X Zs D} σ H):WSs X (st ::Zs) D σ H:=WSs.of (VP h Zq) q
def WSs.last(h:PS X st t)(q:t D σ H):WSs X [st] D σ H:=WSs.of (Ycq h) q
def WSs.nil(q:D.nx σ H):WSs X [] D σ H:=WSs.of Zk q
def WSs.cut(M:St->Hp->Prop)(h:WS X st {D with nx:=M} σ H)(k:∀y x,M y x->WSs X Zs D y x):WSs X (st ::Zs) D σ H:=by
 refine WSs.step (t:=Kx (λ_ _=>M)<|WS X st) (YH (λ_ _=>M) Up) #[h,λy x m=>k y x m]
end
def vK{y:Type}(P:y->Prop):mD y->Prop
 | []=>True
 | a ::l=>P a/\vK P l
theorem vK.mem{y:Type}{P:y->Prop}:∀{l:mD y}{a:y},vK P l->a∈l->P a
 | _ ::_,a,h,m=>by
  rcases oM.mp m with rfl|m
  ·show h.1
  ·show vK.mem h.2 m
theorem JF{env:Env}:∀{names:mD (mF×NameKind)}{x:mF},names.lookup x=some .free->
  (names.map λ(n,k)=>if(k ==NameKind.free && env.scope.kind ==.function && env.kindOf n ==some .cell)then(n,NameKind.cell)else(n,k)).lookup x=some .cell\/
  (names.map λ(n,k)=>if(k ==NameKind.free && env.scope.kind ==.function && env.kindOf n ==some .cell)then(n,NameKind.cell)else(n,k)).lookup x=some .free
 | [],_,h=>by simp at h
 | (n,k) ::r,x,h=>by
  have u:=@JF env r x
  by_cases y:x ==n
  ·have s:k=.free:=by
    rw[tP,y]at h;show pI h
   subst s
   by_cases w:(NameKind.free ==NameKind.free && env.scope.kind ==.function && env.kindOf n ==some .cell)=true
   ·left
    rw[oR];change List.lookup x ((if _ then(n,NameKind.cell)else(n,NameKind.free)) ::_)=_;rw[og w,tP,y]
   ·right
    rw[oR];change List.lookup x ((if _ then(n,NameKind.cell)else(n,NameKind.free)) ::_)=_;rw[nY w,tP,y]
  ·have y:(x ==n)=false:=by simpa using y
   rw[tP,y]at h;have q:=u h;rw[oR];have e:∀(b:Bool)(l:mD (mF×NameKind)),List.lookup x ((if b=true then(n,NameKind.cell)else(n,k)) ::l)=l.lookup x:=λb l=>by
    cases b<;>simp[tP,y]
   rcases q with q|q
   ·show .inl<|(e _ _).trans q
   ·show .inr<|(e _ _).trans q
def Qb{env:Env}:∀{names:mD (mF×NameKind)}{x:mF},
    ((names.map λ(n,k)=>if(k ==NameKind.free && env.scope.kind ==.function && env.kindOf n ==some .cell)then(n,NameKind.cell)else(n,k)).lookup x=some .cell\/
     (names.map λ(n,k)=>if(k ==NameKind.free && env.scope.kind ==.function && env.kindOf n ==some .cell)then(n,NameKind.cell)else(n,k)).lookup x=some .free)->
    names.lookup x=some .cell\/names.lookup x=some .free
  | [],_,h=>by simp at h
  | (n,k) ::r,x,h=>by
    have w:=@Qb env r x;rw[oR]at h
    by_cases y:x ==n
    · rw[tP,y];have e:∀(c:Prop) [Decidable c] (l:mD (mF×NameKind)),List.lookup x ((if c then(n,NameKind.cell)else(n,k)) ::l)=some (if c then .cell else k):=λc _ l=>by
        split<;>rw[tP,y]
      rcases h with h|h
      · have h:=(e _ _).symm.trans h;have h:=pI h;split at h
        · rename_i c
          right
          have:k=.free:=by
            rw[rB,rB]at c;simpa using c.1.1
          rw[this]
        · left;rw[h]
      · have h:=(e _ _).symm.trans h;have h:=pI h;split at h
        · cases h
        · right;rw[h]
    · have y:(x ==n)=false:=by simpa using y
      have e:∀(c:Prop) [Decidable c] (l:mD (mF×NameKind)),List.lookup x ((if c then(n,NameKind.cell)else(n,k)) ::l)=l.lookup x:=λc _ l=>by
        split<;>rw[tP,y]
      rw[tP,y];show w<|h.imp (λz=>(e _ _).symm.trans z) λz=>(e _ _).symm.trans z
def X6.std{X:Cx}{scope:Scope}{l:mD (mF×mG)}{d:mD mF}(n:Nat)(r:mD Nat)(kind:scope.kind=.function)(cell:∀w∈scope.names,w.2≠.cell)
  (names:∀w∈scope.names,w.2=.local->scope.names.lookup w.1=some .local) (clos:closureFor scope X.env=pure l) (L:vK (λp=>X.env.cells.lookup p.1=some p.2) l)
  (Q:(scope.names.all λw=>w.2 !=.free || ((l.lookup w.1).isSome && (X.env.kindOf w.1 ==some .cell || X.env.kindOf w.1 ==some .free)))=true)
  (J:d.length=n+r.length) (I:vK (λp:Nat×Nat=>∃x,d[n+p.1]? =some x/\X.N[p.2]? =some x/\scope.names.lookup x=some .free) ((List.range r.length).zip r)) :
  X6 X scope l d (λy=>List.replicate n none++r.map λj=>(y[j]?).join) where
 kind:=kind
 cell:=cell
 names:=names
 clos:=clos
 sub:=λx c h=>vK.mem (P:=λp=>X.env.cells.lookup p.1=some p.2) (a:=(x,c)) L (tO h)
 has:=λx h=>by
  rcases Qb (env:=X.env) h with h|h
  ·show absurd rfl<|cell _<|tO h
  ·have q:=xx.mp Q _<|tO h;simp only[Ei,FY,rB]at q;show Gu.mp q.1
 len:=λy _=>by simp[J]
 fr:=λy i x v H u _=>by
  have G:n<=i:=by
   rcases zL i n with g|Y
   ·rw[xq (by simpa using g),FD,og g]at u;cases u
   ·show Y
  rw[wU (by simpa using G),QT,oF]at u;cases s:r[i-n]? with
  | none=>rw[s]at u;cases u
  | some j =>
   rw[s]at u;have u:(y[j]?).join=some v:=pI u;have g:i-n<r.length:=by
    rcases zL (i-n) r.length with z|z
    ·show z
    ·rw[vP z]at s;cases s
   have E:(i-n,j)∈(List.range r.length).zip r:=by
    rw[Kj];refine#[i-n,?_];rw[List.getElem?_zip_eq_some];show#[by simp[g],s]
   obtain⟨o,U,D,N⟩:=vK.mem I E;have e:n+(i-n)=i:=by lia
   simp only[e]at U;rw[H]at U;cases U;have q:=xx.mp Q _<|tO N;simp only[Ei,FY,rB,DF,sI]at q;refine#[JF N,q.2,j,D,?_];cases M:y[j]? with
   | none=>rw[M]at u;cases u
   | some o=>rw[M]at u;show pO some u
inductive Tr where
 | non|int (i:Int)|str (x:Str)|tup (ts:List Tr)|lst (ts:List Tr)
noncomputable instance:DecidableEq Tr:=λ_ _=>Classical.propDecidable _
mutual
inductive Im(K:Frag)(H:Hp):Nat->Tr->V->Prop where
 | non {n:Nat}:Im K H n .non .non
 | int {n:Nat} (i:Int):Im K H n (.int i) (.int i)
 | str {n:Nat} (x:Str):Im K H n (.str x) (.str x)
 | tupI {n:Nat} {a:Addr} {xs:List V} {ts:List Tr}:SqT K H a xs->wx K H n ts xs->Im K H (n+1) (.tup ts) (.ref a)
 | lstI {n:Nat} {a:Addr} {xs:List V} {ts:List Tr}:SqL K H a xs->wx K H n ts xs->Im K H (n+1) (.lst ts) (.ref a)
inductive wx(K:Frag)(H:Hp):Nat->List Tr->List V->Prop where
 | nil {n:Nat}:wx K H n [] []
 | cons {n:Nat} {t:Tr} {v:V} {ts:List Tr} {vs:List V}:Im K H n t v->wx K H n ts vs->wx K H n (t ::ts) (v ::vs)
end
theorem wx.toP{K:mK}{H:Hp}{n:Nat}:∀{ts:mD Tr}{xs:mD V},wx K H n ts xs->Paired (Im K H n) ts xs
 | [],_,h=>by cases h;show .nil
 | _ ::_,_,h=>by
  cases h with
  | cons r t=>show .cons r t.toP
def wx.ofP{K:mK}{H:Hp}{n:Nat}{ts:mD Tr}{xs:mD V}(h:Paired (Im K H n) ts xs):wx K H n ts xs:=by
 induction h with
 | nil=>show .nil
 | cons r _ t=>show .cons r t
def Im.tup{K:mK}{H:Hp}{n:Nat}{a:mG}{xs:mD V}{ts:mD Tr}(y:SqT K H a xs)(ps:Paired (Im K H n) ts xs):Im K H (n+1) (.tup ts) (.ref a):=.tupI y<|.ofP ps
def Im.lst{K:mK}{H:Hp}{n:Nat}{a:mG}{xs:mD V}{ts:mD Tr}(y:SqL K H a xs)(ps:Paired (Im K H n) ts xs):Im K H (n+1) (.lst ts) (.ref a):=.lstI y<|.ofP ps
theorem Paired.get{y x:Type}{R:y->x->Prop}:∀{l₁:mD y}{l₂:mD x}{i:Nat}{a:y},Paired R l₁ l₂->l₁[i]? =some a->∃b,l₂[i]? =some b/\R a b
 | _,_,_,_,.nil,e=>by simp at e
 | _,_,0,_,.cons r _,e=>by simp at e;subst e;show#[_,rfl,r]
 | _,_,i+1,a,.cons _ t,e=>by
  obtain⟨u,w,s⟩:=Paired.get (i:=i) (a:=a) t (by simpa using e);show#[u,by simpa using w,s]
theorem Paired.get'{x y:Type}{R:x->y->Prop}:∀{l₁:mD x}{l₂:mD y}{i:Nat}{b:y},Paired R l₁ l₂->l₂[i]? =some b->∃a,l₁[i]? =some a/\R a b
 | _,_,_,_,.nil,e=>by simp at e
 | _,_,0,_,.cons r _,e=>by simp at e;subst e;show#[_,rfl,r]
 | _,_,i+1,a,.cons _ t,e=>by
  obtain⟨u,w,s⟩:=Paired.get' (i:=i) (b:=a) t (by simpa using e);show#[u,by simpa using w,s]
def Paired.append{y x:Type}{R:y->x->Prop}{w:mD y}{u:mD x}{q:mD y}{p:mD x}(h:Paired R w u)(s:Paired R q p):Paired R (w++q) (u++p):=by
 induction h with
 | nil=>show s
 | cons r t o=>show .cons r o
theorem Paired.strs{K:mK}{H:Hp}{n:Nat}:∀xs:mD mF,Paired (Im K H n) (xs.map Tr.str) (xs.map V.str)
 | []=>.nil
 | x ::xs=>.cons (.str x)<|Paired.strs (K:=K) (H:=H) (n:=n) xs
def nH.at(e:nH H y)(h:H b=some o):y b=some o:=e b o h
def nH.new(h:H p=none):nH H (nO H p o):=λb u e=>by rw[Zd (Zf e h)];show e
def Paired.uniq{y x:Type}{R:y->x->Prop}(f:∀a u b,R a b->R u b->a=u){l w:mD y}{m:mD x}(h:Paired R l m)(h':Paired R w m):l=w:=by
 induction h generalizing w with
 | nil=>cases h';rfl
 | cons r t s=>cases h' with
  | cons q p=>rw[f _ _ _ r q,s p]
variable {X:Cx}
def nM.lt_excl(I:nM X r y H s)(h:SqL X.K H a xs)(h':SqT X.K H a q):False:=by
 obtain⟨p,_,w,_⟩:=I.list h;obtain⟨x,_,u,_⟩:=I.tuple h';show SeqAt.ne_of_list_tuple w.isList (show s.heap.IsTuple a x.toArray from u) rfl
def Im.inj(I:nM X g y H s):∀{n:Nat}{t u:Tr}{v:V},Im X.K H n t v->Im X.K H n u v->t=u:=by
 intro n
 induction n with
 | zero=>intro t u v h r;cases h<;>cases r<;>rfl
 | succ n j =>
  intro t u v h r;cases h with
  | non=>cases r;rfl
  | int i=>cases r;rfl
  | str x=>cases r;rfl
  | tupI p o =>
   cases r with
   | tupI q w =>
    have e:=I.tuple_inj p q;subst e;rw[Paired.uniq (R:=Im X.K H n) (λ_ _ _ z l=>j z l) o.toP w.toP]
   | lstI q w=>show(I.lt_excl q p).elim
  | lstI p o =>
   cases r with
   | tupI q w=>show(I.lt_excl p q).elim
   | lstI q w =>
    have e:=I.list_inj p q;subst e;rw[Paired.uniq (R:=Im X.K H n) (λ_ _ _ z l=>j z l) o.toP w.toP]
def Yj(h:SeqAt.EqAt A s u v b)(e:b=y):SeqAt.EqAt A s u v y:=e ▸ h
def Nh(ts us:mD Tr):(((List.range<|min ts.length us.length).all λj=>decide<|ts[j]? =us[j]?) && ts.length ==us.length)=decide (ts=us):=by
 rw[tL];simp only[rB,xx,yS,zw,sI]
 constructor
 ·rintro⟨h,e⟩;refine List.ext_getElem? λi=>?_
  by_cases y:i<ts.length
  ·show h i (by lia)
  ·rw[vP (by lia),vP<|by lia]
 ·rintro rfl;show#[λ_ _=>rfl,rfl]
def TY{ts us:mD Tr}(h:ts.length=us.length):((List.range ts.length).all λj=>decide<|ts[j]? =us[j]?)=decide (ts=us):=by
 have q:=Nh ts us;rw[h,Nat.min_self,Ce,Bool.and_true]at q;rw[h];show q
def Wj(A:mT):A.in1.units=A.units+1:=rfl
def Ee
  (c:∀{t u:Tr}{x y:V}{h g:mH},Im X.K H n t x->Im X.K H n u y->Yc x h->Yc y g->SeqAt.EqAt A s h g (decide<|t=u))
  (ps:Paired (Im X.K H n) ts xs) (a:Paired (Im X.K H n) us p) (e:Z8 xs w) (d:Z8 p its') :
  ∀j (o:j<w.toArray.size) (l:j<its'.toArray.size),SeqAt.EqAt A s w.toArray[j] its'.toArray[j] (decide<|ts[j]? =us[j]?):=by
 intro j o l;have Y:=e.length;have U:=d.length;have r:j<xs.length:=by simpa[Y]using o
 have q:j<p.length:=by simpa[U]using l
 obtain⟨t,Q,N⟩:=Paired.get' ps (i:=j) (b:=xs[j]) (by simp[r]);obtain⟨u,M,L⟩:=Paired.get' a (i:=j) (b:=p[j]) (by simp[q]);obtain⟨J,I,G⟩:=e.get (i:=j) (x:=xs[j]) (by simp[r]);obtain⟨E,D,C⟩:=d.get (i:=j) (x:=p[j]) (by simp[q]);have B:w.toArray[j]=J:=by
  have:w[j]? =some w.toArray[j]:=by simp[show j<w.length by simpa using o]
  rw[I]at this;show(pI this).symm
 have k2:its'.toArray[j]=E:=by
  have:its'[j]? =some its'.toArray[j]:=by simp[show j<its'.length by simpa using l]
  rw[D]at this;show(pI this).symm
 rw[B,k2,Q,M];refine Yj (c N L G C) ?_;rw[tL];simp
def Im.tuple_rc(I:nM X E y H s)
  (i:∀{t u:Tr}{x w:V}{h g:mH},Im X.K H n t x->Im X.K H n u w->Yc x h->Yc w g->SeqAt.EqAt A.in1 s h g (decide<|t=u)) (d:A.units<cLine)
  (U:SqT X.K H a xs) (ps:Paired (Im X.K H n) ts xs) (Q:SqT X.K H b N) (p:Paired (Im X.K H n) us N) :
  SeqAt.RcAt A s (.ref a) (.ref b) (decide<|Tr.tup ts=Tr.tup us)/\SeqAt.RcNeAt A s (.ref a) (.ref b) (!decide (Tr.tup ts=Tr.tup us)):=by
 obtain⟨q,o,c,_⟩:=I.tuple U;obtain⟨r,l,Y,_⟩:=I.tuple Q;have M:=o.length;have L:=l.length;have J:=oz ps;have G:=oz p;have e:((List.range<|min q.toArray.size r.toArray.size).all (λj=>decide<|ts[j]? =us[j]?) && q.toArray.size ==r.toArray.size)=decide (Tr.tup ts=Tr.tup us):=by
  rw[ph,ph,<-M,<-L,<-J,<-G,Nh,tL];simp
 constructor
 ·rw[<-e];show SeqAt.RcAt.tuples (show s.heap.IsTuple a q.toArray from c) (show s.heap.IsTuple b r.toArray from Y) d<|Ee i ps p o l
 ·rw[<-e];show SeqAt.RcNeAt.tuples (show s.heap.IsTuple a q.toArray from c) (show s.heap.IsTuple b r.toArray from Y) d<|Ee i ps p o l
def Im.list_rc(I:nM X E y H s){n:Nat}{A:mT}{a b:mG}{ts us:mD Tr}{xs c:mD V}
  (Y:∀{t u:Tr}{x w:V}{U Q:mH},Im X.K H n t x->Im X.K H n u w->Yc x U->Yc w Q->SeqAt.EqAt A.in1 s U Q (decide<|t=u)) (p:A.units<cLine)
  (M:SqL X.K H a xs) (ps:Paired (Im X.K H n) ts xs) (L:SqL X.K H b c) (i:Paired (Im X.K H n) us c) :
  SeqAt.RcAt A s (.ref a) (.ref b) (decide<|Tr.lst ts=Tr.lst us)/\SeqAt.RcNeAt A s (.ref a) (.ref b) (!decide (Tr.lst ts=Tr.lst us)):=by
 obtain⟨h,g,o,_⟩:=I.list M;obtain⟨r,d,l,_⟩:=I.list L;have J:=g.length;have D:=d.length;have G:=oz ps;have C:=oz i
 by_cases N:ts.length=us.length
 ·have e:((List.range h.toArray.size).all λj=>decide<|ts[j]? =us[j]?)=decide (Tr.lst ts=Tr.lst us):=by
   rw[ph,<-J,<-G,TY N,tL];simp
  have q:h.toArray.size=r.toArray.size:=by rw[ph,ph];lia
  constructor
  ·rw[<-e];show SeqAt.RcAt.lists o.isList l.isList q p<|Ee Y ps i g d
  ·rw[<-e];show SeqAt.RcNeAt.lists o.isList l.isList q p<|Ee Y ps i g d
 ·have e:decide (Tr.lst ts=Tr.lst us)=false:=pj λz=>N (by injection z with z;rw[z])
  have q:(h.toArray.size !=r.toArray.size)=true:=by rw[ph,ph];simp;lia
  rw[e];show#[SeqAt.RcAt.lists_lengths o.isList l.isList q p,SeqAt.RcNeAt.lists_lengths o.isList l.isList q p]
def Im.eqAt(I:nM X a9 y H s):∀(n:Nat)(A:mT){t u:Tr}{x w:V}{U Q:mH},Im X.K H n t x->Im X.K H n u w->Yc x U->Yc w Q->A.units+n<cLine->SeqAt.EqAt A s U Q (decide<|t=u):=by
 intro n
 induction n with
 | zero =>
  intro A t u x w U Q h N c o C;cases h<;>cases N<;>show Yj (BS c o rfl rfl) (by rw[tL];(delta ud;simp))
 | succ n B =>
  intro A t u x w U Q h N c o C;have e:A.units<cLine:=by lia
  have D:A.in1.units+n<cLine:=by rw[Wj];lia
  have L:∀{t u:Tr}{x w:V}{U Q:mH},Im X.K H n t x->Im X.K H n u w->Yc x U->Yc w Q->SeqAt.EqAt A.in1 s U Q (decide<|t=u):=λz z' r r'=>B A.in1 z z' r r' D
  cases h with
  | @tupI _ a xs ts M J =>
   cases c;obtain⟨G,rv,Y,_⟩:=I.tuple M;cases N with
   | non=>cases o;show Yj (SeqAt.EqAt.tuple_none (show s.heap.IsTuple _ G.toArray from Y) e) (pj λz=>nomatch z).symm
   | int i=>obtain⟨g,rfl⟩:=o;show Yj (SeqAt.EqAt.tuple_int i g (show s.heap.IsTuple _ G.toArray from Y) e) (pj λz=>nomatch z).symm
   | str i=>obtain⟨g,rfl⟩:=o;show Yj (SeqAt.EqAt.tuple_str i g (show s.heap.IsTuple _ G.toArray from Y) e) (pj λz=>nomatch z).symm
   | @tupI _ b ys us l p =>
    cases o
    by_cases E:a=b
    ·subst E;rw[Im.inj I (Im.tupI M J) (Im.tupI l p),oO rfl];show CY _
    ·show SeqAt.EqAt.of_refs E (Im.tuple_rc I L e M J.toP l p.toP).1
   | lstI l p =>
    cases o;obtain⟨q,Q6,d,_⟩:=I.list l;show Yj (SeqAt.EqAt.tuple_list (show s.heap.IsTuple _ G.toArray from Y) d.isList e) (pj λz=>nomatch z).symm
  | @lstI _ a xs ts M J =>
   cases c;obtain⟨G,rv,Y,_⟩:=I.list M;cases N with
   | non=>cases o;show Yj (SeqAt.EqAt.list_none Y.isList e) (pj λz=>nomatch z).symm
   | int i=>obtain⟨g,rfl⟩:=o;show Yj (SeqAt.EqAt.list_int i g Y.isList e) (pj λz=>nomatch z).symm
   | str i=>obtain⟨g,rfl⟩:=o;show Yj (SeqAt.EqAt.list_str i g Y.isList e) (pj λz=>nomatch z).symm
   | tupI l p =>
    cases o;obtain⟨q,Q6,d,_⟩:=I.tuple l;show Yj (SeqAt.EqAt.list_tuple Y.isList (show s.heap.IsTuple _ q.toArray from d) e) (pj λz=>nomatch z).symm
   | @lstI _ b ys us l p =>
    cases o
    by_cases E:a=b
    ·subst E;rw[Im.inj I (Im.lstI M J) (Im.lstI l p),oO rfl];show CY _
    ·show SeqAt.EqAt.of_refs E (Im.list_rc I L e M J.toP l p.toP).1
  | non =>
   cases c;cases N with
   | non=>cases o;show Yj (CY _) (oO rfl).symm
   | int i=>obtain⟨g,rfl⟩:=o;show Yj (SeqAt.EqAt.none_int i g) (pj λz=>nomatch z).symm
   | str i=>obtain⟨g,rfl⟩:=o;show Yj (SeqAt.EqAt.none_str i g) (pj λz=>nomatch z).symm
   | tupI l p=>cases o;obtain⟨q,_,d,_⟩:=I.tuple l;show Yj (SeqAt.EqAt.none_tuple (show s.heap.IsTuple _ q.toArray from d) e) (pj λz=>nomatch z).symm
   | lstI l p=>cases o;obtain⟨q,_,d,_⟩:=I.list l;show Yj (SeqAt.EqAt.none_list d.isList e) (pj λz=>nomatch z).symm
  | int j =>
   cases N with
   | tupI l p=>obtain⟨g,rfl⟩:=c;cases o;obtain⟨q,_,d,_⟩:=I.tuple l;show Yj (SeqAt.EqAt.int_tuple j g (show s.heap.IsTuple _ q.toArray from d) e) (pj λz=>nomatch z).symm
   | lstI l p=>obtain⟨g,rfl⟩:=c;cases o;obtain⟨q,_,d,_⟩:=I.list l;show Yj (SeqAt.EqAt.int_list j g d.isList e) (pj λz=>nomatch z).symm
   | _=>show Yj (BS c o rfl rfl) (by rw[tL];(delta ud;simp))
  | str j =>
   cases N with
   | tupI l p=>obtain⟨g,rfl⟩:=c;cases o;obtain⟨q,_,d,_⟩:=I.tuple l;show Yj (SeqAt.EqAt.str_tuple j g (show s.heap.IsTuple _ q.toArray from d) e) (pj λz=>nomatch z).symm
   | lstI l p=>obtain⟨g,rfl⟩:=c;cases o;obtain⟨q,_,d,_⟩:=I.list l;show Yj (SeqAt.EqAt.str_list j g d.isList e) (pj λz=>nomatch z).symm
   | _=>show Yj (BS c o rfl rfl) (by rw[tL];(delta ud;simp))
def Dg(K:mK)(neg:Bool):R2:=λx y H Q=>∃n t u,n<=60/\((∃w s,t=Tr.tup w/\u=Tr.tup s)\/∃w s,t=Tr.lst w/\u=Tr.lst s)/\Im K H n t x/\Im K H n u y/\Q (.bl<|if neg then !decide (t=u)else decide (t=u)) H
def XY{X:Cx}(M:X.A.units+64<cLine):oS X (compareOp .Eq) (Dg X.K false):=by
 intro L s y H x w v u Q I e d h;obtain⟨n,t,J,G,Y,c,a,q⟩:=h;rcases Y with⟨U,N,rfl,rfl⟩|⟨U,N,rfl,rfl⟩
 ·cases c with
  | tupI o l =>
   cases a with
   | tupI j p =>
    cases e;cases d;show(Im.tuple_rc (A:=X.A) I (λz i r g=>Im.eqAt I _ _ z i r g<|by rw[Wj];lia) (by lia) o l.toP j p.toP).1 _ _ _ _ #[.bl _,H,I,rfl,q]
 ·cases c with
  | lstI o l =>
   cases a with
   | lstI j p =>
    cases e;cases d;show(Im.list_rc (A:=X.A) I (λz i r g=>Im.eqAt I _ _ z i r g<|by rw[Wj];lia) (by lia) o l.toP j p.toP).1 _ _ _ _ #[.bl _,H,I,rfl,q]
def ZM{X:Cx}(M:X.A.units+64<cLine):oS X (compareOp .NotEq) (Dg X.K true):=by
 intro L s y H x w v u Q I e d h;obtain⟨n,t,J,G,Y,c,a,q⟩:=h;rcases Y with⟨U,N,rfl,rfl⟩|⟨U,N,rfl,rfl⟩
 ·cases c with
  | tupI o l =>
   cases a with
   | tupI j p =>
    cases e;cases d;show(Im.tuple_rc (A:=X.A) I (λz i r g=>Im.eqAt I _ _ z i r g<|by rw[Wj];lia) (by lia) o l.toP j p.toP).2 _ _ _ _ #[.bl _,H,I,rfl,q]
 ·cases c with
  | lstI o l =>
   cases a with
   | lstI j p =>
    cases e;cases d;show(Im.list_rc (A:=X.A) I (λz i r g=>Im.eqAt I _ _ z i r g<|by rw[Wj];lia) (by lia) o l.toP j p.toP).2 _ _ _ _ #[.bl _,H,I,rfl,q]
def KJ(t:TA):TE:=λy H Q=>t y H λw u=>w.length<=sizeLine/\∀p x,nH u x->u p=none->x p=some (.tup w)->Q (.ref p) x
def TQ(t:TA):TE:=λy H Q=>t y H λw u=>w.length<=sizeLine/\∀p x,nH u x->u p=none->x p=some (.lst w)->Q (.ref p) x
def Zi{n}(h:PA X es t):PE X (.Tuple es n pos) (KJ t):=by
 intro l s y H Q I j;refine wpAny_Tuple_spliced<|oK (h pos l s y H _ I j) λi x ⟨g,w,p,r,z,q⟩=>#[by rw[<-r.length];show z,?_];have o:w #v[x]=none:=p.hok.fresh<|oq _;refine#[.ref #v[x],nO w #v[x] (.tup g),p.laid (t':=x.toks) (λb u e=>oH _ e) (oq _) ?_,rfl,q _ _ (nH.new o) o Zc];show#[z,i,r,#[_,pp _ rfl,rfl,_,rfl]]
def Zn(h:PA X es t):PE X (.List es pos) (TQ t):=by
 intro n s y H Q I l;refine wpAny_List_spliced<|oK (h pos n s y H _ I l) λj x ⟨i,w,p,r,z,q⟩=>#[by rw[<-r.length];show z,?_];have o:w #v[x]=none:=p.hok.fresh<|oq _;refine#[.ref #v[x],nO w #v[x] (.lst i),p.laid (t':=x.toks) (λb u e=>oH _ e) (oq _) ?_,rfl,q _ _ (nH.new o) o Zc];show#[z,j,0,r,pp _ rfl]
def oS.imp{f:mH->mH->Sem mH}(h:oS X f r)(g:∀x w H Q,p x w H Q->r x w H Q):oS X f p:=λo s y H x w v u Q I n l q=>h o s y H x w v u Q I n l<|g _ _ _ _ q
def sW.imp{r w:V->mJ Int->mJ Int->Hp->VK->Prop}(h:sW X r)(g:∀x l u H Q,w x l u H Q->r x l u H Q):sW X w:=λp s y H x v vl o lo n j Q I i e d c q=>h p s y H x v vl o lo n j Q I i e d c<|g _ _ _ _ _ q
def Y7.imp{r x:mD V->Hp->VK->Prop}(h:Y7 X f r)(g:∀xs H Q,x xs H Q->r xs H Q):Y7 X f x:=λw s y H xs u Q I p q=>h w s y H xs u Q I p<|g _ _ _ q
def qv(H:Hp)(o:HO)(Q:VK):Prop:=∀p y,nH H y->H p=none->y p=some o->Q (.ref p) y
def qv.at(h:qv H o Q)(p:mG)(y:H p=none):Q (.ref p) (nO H p o):=h p _ (nH.new y) y Zc
inductive NJ(H:Hp)(Q:VK):V->V->Prop
 | mk {l b xs zs}:H l=some (.lst xs)->H b=some (.lst zs)->xs.length+zs.length<=sizeLine->qv H (.lst<|xs++zs) Q->NJ H Q (.ref l) (.ref b)
def MC:R2:=λx y H Q=>NJ H Q x y
def WR:oS X (binaryOp .Add) MC:=Ygw.imp λx y H Q h=>by
 obtain@⟨l,b,w,u,s,r,q,o⟩:=h;show#[l,b,w,u,rfl,rfl,s,r,q,λp n=>o.at p n]
inductive Ry(K:Frag)(lo hi:Option Int)(H:Hp)(Q:VK):V->Prop
 | mk {a xs}:SqT K H a xs->¬(HT.sIx xs.length 0 lo=0/\HT.sIx xs.length xs.length hi=xs.length)->qv H (.tup<|rf xs lo hi) Q->Ry K lo hi H Q (.ref a)
def QB(K:mK):V->mJ Int->mJ Int->Hp->VK->Prop:=λx lo y H Q=>Ry K lo y H Q x
def UC:sW X (QB X.K):=Vn.imp λx l u H Q h=>by
 obtain@⟨a,y,w,s,r⟩:=h;show#[a,y,rfl,w,s,λp q=>r.at p q]
inductive Ct(K:Frag)(lo hi:Option Int)(H:Hp)(Q:VK):V->Prop
 | mk {a xs}:SqL K H a xs->qv H (.lst<|rf xs lo hi) Q->Ct K lo hi H Q (.ref a)
def LY(K:mK):V->mJ Int->mJ Int->Hp->VK->Prop:=λx lo y H Q=>Ct K lo y H Q x
def UM:sW X (LY X.K):=Ydn.imp λx l u H Q h=>by
 obtain@⟨a,y,w,s⟩:=h;show#[a,y,rfl,w,λp r=>s.at p r]
def wJ(o:mD V->Hp->VK->Prop)(M:Mk X.K C f)
  (F:Wz X.prog X.w X.K X.mg X.nI l k f fd ps j) (i:Y2 (k+1) X.A) (g:Gl X x) (d:X.mg x=some (.ref C)) (c:rj X.K fd ps a) (hd:Z8 Y a) (U:ua l X E)
  (u:∀vs H Q,o vs H Q->∀x w,H x=none->H w=none->w≠x->j (.ref x ::(vs++Y)) (nO (nO H w<|.own x) x<|.ins C w []) (λv N=>v=.non/\Q (.ref x) N) E)
  (L:PA X (e ::es) t) (J:(x ==("__debug__":mF))=false:=by lk) (G:starEach (e ::es) X.env=(false,eval e X.env) ::starEach es X.env:=by rfl) (D:(backTo pos<|starEach es X.env).any (·.1)=false:=by rfl) :
  PE X (.Call (.Name x p) (e ::es) [] pos) (yT o t):=by
 intro B s y H Q I h;refine uQ<|yF I g d ?_ J;refine AY (h₀:=X.nI) I.ok.mod.kin M.kp (uJ (L pos B s y H _ I h) λus s1 vs A n r q=>#[n.kIn,?_]) G D;show Uf M F i c hd U n r<|u vs A Q q
def Yf3(r:X.A.units+1<cLine):oS X (compareOp .In) (λw x H Q=>∃a o,x=.ref a/\Xp H a w o/\Q (.bl o.isSome) H):=by
 intro i s y H w x v u Q I p n h;obtain⟨a,l,rfl,g,q⟩:=h;cases n;show UB r I g p λe j=>#[.bl l.isSome,H,j,rfl,q]
def TF(r:X.A.units+1<cLine):oS X (compareOp .NotIn) (λw x H Q=>∃a o,x=.ref a/\Xp H a w o/\Q (.bl (!o.isSome)) H):=by
 intro i s y H w x v u Q I p n h;obtain⟨a,l,rfl,g,q⟩:=h;cases n;show Yd3 r I g p λe j=>#[.bl (!l.isSome),H,j,rfl,q]
def W0:oS X (binaryOp .Add) (λx y H Q=>xc (λi j=>.int<|i+j) x y H Q\/(∃i j,x=.str i/\y=.str j/\i.length+j.length<=sizeLine/\Q (.str<|i++j) H)\/MC x y H Q):=Vt.or<|Zun.or WR
def sz(h:n<=1000):n<=sizeLine:=qm<|Zo h
structure yg(K:Frag)(x qual:Str)(st:Stmt)(dV:Value)(f:Addr)(fd:FuncData):Prop where
 ex:∃(oc:Value)(od:Option Addr)(kV B1 pm:Value)(an:Option Addr)(c8 ct:Value)(M0:Array (Option Value)),
  fd=fnOf x qual (W1 st) (Y6 st) (Zj st) dV kV B1 pm an c8 ct/\K.lookup f=some #[oc,od,.func fd,M0]/\codeIn K c8 qual=true
 kp:keepIn K (.ref f)=true
section
variable {P:mS} {w:mP} {K:mK} {mg:mF->mJ mH} {nI:mO}
def yg.ok{x qual:mF}{st:mM}{q:mH}{f:mG}{fd:mU}{N ps:mD mF}{k:Nat}{u:Sp}(F:yg K x qual st q f fd)(S:Zw N ps (Zj st))(len:∀vs H Q E,u vs H Q E->vs.length=ps.length)
  (p:∀(y:mH)(A:mT)(r:mD Env)(s:mI)(H:Hp)(vs:mD V)(Q:VK)(E:XK),Y2 k (A.deeper<|envOfC qual (Zj st) #v[s] f y)->u vs H Q E->
   WSs (pS pL P w K mg nI N qual (Zj st) f y A r s H E).nox (Y6 st) {nx:=λ_ o=>Q .non o,rt:=Q} (start N vs) H):Wz P w K mg nI pL (k+1) f fd ps u:=by
 obtain⟨i,h,kV,g,e,d,y,c,a,rfl,lk,n⟩:=F.ex;refine Ej lk n S len λA r s H vs Q E l j=>?_
 show#[_,rQ.nox Zq,p y A r s H vs Q E l j]
def rW.okW{x qual:mF}{st:mM}{f:mG}{fd:mU}{N ps:mD mF}{k:Nat}{y:Sp}(F:rW K x qual st f fd)(S:Zw N ps (Zj st))
  (u:∀(c8:mH)(A:mT)(nG:mD Env)(s:mI)(H:Hp)(vs:mD V)(Q:VK)(E:XK),Y2 k (A.deeper<|envOfC qual (Zj st) #v[s] f c8)->y vs H Q E->
   let X:=(pS pL P w K mg nI N qual (Zj st) f c8 A nG s H E).nox;let D:qD:={nx:=λ_ r=>Q .non r,rt:=Q};WSs X (Y6 st) D (start N vs) H) (len:∀vs H Q E,y vs H Q E->vs.length=ps.length:=by bv_omega):Wz P w K mg nI pL (k+1) f fd ps y :=
 F.ok S len λc8 A nG s H vs Q E hr h=>#[_,Zq,u c8 A nG s H vs Q E hr h]
def rW.okA{x qual:mF}{st:mM}{f:mG}{fd:mU}{ps:mD mF}{k:Nat}{y:Sp}(F:rW K x qual st f fd)
  (u:∀(c8:mH)(A:mT)(nG:mD Env)(s:mI)(H:Hp)(vs:mD V)(Q:VK)(E:XK),Y2 k (A.deeper<|envOfC qual (Zj st) #v[s] f c8)->y vs H Q E->
   let X:=(pS pL P w K mg nI ps qual (Zj st) f c8 A nG s H E).nox;let D:qD:={nx:=λ_ r=>Q .non r,rt:=Q};WSs X (Y6 st) D (start ps vs) H) (len:∀vs H Q E,y vs H Q E->vs.length=ps.length:=by bv_omega) (S:Zw ps ps (Zj st):=by show{}):Wz P w K mg nI pL (k+1) f fd ps y:=F.okW S u len
def Oe{x qual:mF}{st:mM}{f:mG}{o u:mH}{od s:mJ mG}{n:Array (mJ mH)}{kV r q y p:mH}(l:K.lookup f=some #[o,od,.func<|fnOf x qual (W1 st) (Y6 st) (Zj st) u kV r q s y p,n])
  (c:codeIn K y qual=true) (k:keepIn K (.ref f)=true):yg K x qual st u f (fnOf x qual (W1 st) (Y6 st) (Zj st) u kV r q s y p):=#[#[o,od,kV,r,q,s,y,p,n,rfl,l,c],k]
end
structure Dn(K:Frag)(x qual:Str)(st:Stmt)(ps:List Str) where
 f:Addr
 fd:FuncData
 F:rW K x qual st f fd
 b:rj K fd ps []
def Iu{y:Type}{l:mD y}{a:y}(h:l[i]? =some a):l.drop i=a ::l.drop (i+1):=by
 have x:i<l.length:=by
  rcases zL i l.length with z|z
  ·show z
  ·rw[vP z]at h;cases h
 rw[zv x];rw[pJ x]at h;rw[pI h]
theorem Wa:∀l:mD mF,(l.map V.str).all uI=true
 | []=>rfl
 | _ ::l=>by rw[oR,Jc,Wa l];rfl
theorem W3(x:mF):∀l:mD mF,ue (.str x) (l.map V.str)=decide (x∈l)
 | []=>by simp[ue]
 | y ::l=>by
  have w:=W3 x l;unfold ue at w ⊢;rw[oR,yL,w,tL]
  delta ud
  simp only[DF,sI,zw,oM]
  constructor
  ·rintro(h|h)
   ·show .inl h.symm
   ·show .inr h
  ·rintro(h|h)
   ·show .inl h.symm
   ·show .inr h
end L2
end
section
namespace NM
open PySem L2
def rG:mD Nat:=[97,98,99,100,101,102,103,104,105,106,107,108,109,110,111,112,113,114,115,116,117,118,119,120,121,122]
def Dc:("abcdefghijklmnopqrstuvwxyz":mF).cps.toList=rG:=by left
def Cr:("abcdefghijklmnopqrstuvwxyz":mF).length=26:=by left
end NM
end
section
namespace L2
open PySem PySem.Spec PyProof.Rows
def WV:HO->Bool
 | .dK _=>true
 | .dT _=>true
 | _=>false
variable {X:Cx}
def pe.retold(x:pe P w H h)(hd:H d=some v)(r:∀y,v≠.own y)(p:∀xs,v≠.tup xs)(nz:∀o y,v≠.frz o (.own y))(n:∀ps,v≠.tbl ps)(new:Z9 P w (nO H d u) h d u):pe P w (nO H d u) h:=λb q e=>by
 by_cases s:b=d
 ·subst s;rw[Zc]at e;cases e;show new
 ·rw[Zd s]at e;refine(x b q e).stay (λ_ _ _ z=>z) (λc z=>?_) (λc xs z=>?_) (λc l z=>?_) (λc ps z=>?_)
  ·rw[Zd (λy=>by subst y;rw[hd]at z;show r _<|pI z)];show z
  ·rw[Zd (λy=>by subst y;rw[hd]at z;show p _<|pI z)];show z
  ·rw[Zd (λy=>by subst y;rw[hd]at z;show nz _ _<|pI z)];show z
  ·rw[Zd (λy=>by subst y;rw[hd]at z;show n _<|pI z)];show z
def Ny(hd:H d=some v)(s:∀y,v≠.own y)(r:∀xs,v≠.tup xs)(nz:∀o y,v≠.frz o (.own y))(q:∀ps,v≠.tbl ps)(x:Z9 P w H h d u):Z9 P w (nO H d p) h d u :=
 x.stay (λ_ _ _ z=>z) (λc z=>by rw[Zd (λy=>by subst y;rw[hd]at z;show s _<|pI z)];show z) (λc xs z=>by rw[Zd (λy=>by subst y;rw[hd]at z;show r _<|pI z)];show z) (λc n z=>by rw[Zd (λy=>by subst y;rw[hd]at z;show nz _ _<|pI z)];show z) (λc ps z=>by rw[Zd (λy=>by subst y;rw[hd]at z;show q _<|pI z)];show z)
def nM.retell(I:nM X h y H s)(hd:H d=some v)(g:∀x,v≠.own x)(l:∀xs,v≠.tup xs)(nz:∀o x,v≠.frz o (.own x))(j:∀ps,v≠.tbl ps)(a:∀o u,X.mX d≠some (.frz o u))(new:Z9 X.prog X.w (nO H d i) s.heap d i) :
  nM X h y (nO H d i) s:=by
 have r:∀b,H b=none->b≠d:=λb n z=>by subst z;rw[n]at hd;cases hd
 refine#[I.ok,I.os,I.bare,?_,I.loc,I.cell,?_,λw c e=>?_,λp Y=>?_,I.hok.retold hd g l nz j new,I.len]
 ·have b:=I.nI;refine#[b.keep,b.slot,λc q e n U=>?_,b.there,λc xs e=>?_,λc Q q e=>?_,λc ps e=>?_]
  ·have z:=b.free c q e n U;rw[Zd (r c z)];show z
  ·have z:=b.tups c xs e;rw[Zd (λx=>by subst x;rw[hd]at z;show l _<|pI z)];show z
  ·have z:=b.frzs c Q q e;rw[Zd (λx=>by subst x;show a _ _ e)];show z
  ·obtain⟨m,z⟩:=b.tbls c ps e;show#[m,by rw[Zd (λx=>by subst x;rw[hd]at z;show j _<|pI z)];show z]
 ·rw[Zd (r _ I.free)];show I.free
 ·rw[Zd (r _<|I.freeC w c e)];show I.freeC w c e
 ·obtain⟨U,q,Q⟩:=I.pin p Y;show#[U,by rw[Zd (r _ q)];show q,Q]
def nM.notFrz(I:nM X x y H s)(hd:H d=some v)(n:∀o u,v≠.frz o u):∀o u,X.mX d≠some (.frz o u):=λo u z=>by
 have:=I.nI.frzs d o u z;rw[hd]at this;show n _ _<|pI this
def nM.freeze(I:nM X n y H s)(hd:H d=some u)(w:WV u=true)(l:s.heap.get? d=some o):nM X n y (nO H d<|.frz o u) s:=by
 have r:∀x,u≠.own x:=λx z=>by subst z;cases w
 have q:∀j,u≠.tup j:=λx z=>by subst z;cases w
 have p:∀o x,u≠.frz o (.own x):=λo x z=>by subst z;cases w
 refine I.retell hd r q p (λx z=>by subst z;cases w) (I.notFrz hd λ_ _ z=>by subst z;cases w) #[l,Ny hd r q p (λx z=>by subst z;cases w)<|I.hok d u hd]
def nM.thaw(I:nM X p y H s)(hd:H d=some (.frz o u))(n:∀o u,X.mX d≠some (.frz o u))(l:∀x,u≠.own x:=by show λ_ z=>nomatch z):nM X p y (nO H d u) s:=by
 obtain⟨_,q⟩:=I.hok d _ hd;have w:∀r x,HO.frz o u≠.frz r (.own x):=λr x z=>l x (HO.frz.inj z).2
 show I.retell hd (λ_ z=>nomatch z) (λ_ z=>nomatch z) w (λ_ z=>nomatch z) n<|Ny hd (λ_ z=>nomatch z) (λ_ z=>nomatch z) w (λ_ z=>nomatch z) q
def nH.thaw(hd:H d=some u)(h:nH (nO H d<|.frz o u) x):nH H (nO x d u):=λb q e=>by
 by_cases y:b=d
 ·subst y;rw[hd]at e;cases e;show Zc
 ·rw[Zd y];show h b q (by rw[Zd y];show e)
def nH.rd(e:nH H y)(h:Rd H a u):Rd y a u:=by
 rcases h with h|⟨o,h⟩
 ·show .inl<|e _ _ h
 ·show .inr #[o,e _ _ h]
def Hz(d:mG)(o:Obj)(kvs:mD (om×V)):It :=
 #[λi H=>H d=some (.frz o<|.dK kvs)/\i<kvs.length,λi H x y=>y=H/\∃kv,kvs[i]? =some kv/\x=kV kv.1,λi H=>H d=some (.frz o<|.dK kvs)/\kvs.length<=i]
def FG(h:(Zz P w).is k u=true):Yc (kV k) u:=by
 rcases Xe (show xy k u=true from h)with⟨i,t,rfl,rfl⟩|⟨x,t,rfl,rfl⟩
 ·show#[t,rfl]
 ·show#[t,rfl]
def KV.get{kvs:mD (om×V)}{vs:mD (om×mH)}{i:Nat}{kv:om×V}(r:KV kvs vs)(h:kvs[i]? =some kv):∃u,vs[i]? =some (kv.1,u)/\Yc kv.2 u:=by
 obtain⟨q,y,x,w⟩:=Paired.get r h;show#[q.2,by rw[y,x],w]
def Zxq{P:mS}{w:mP}{K:mK}{tg:mQ}{d:mG}{o:Obj}{kvs:mD (om×V)}{vs:mD (om×mH)}{ep:Nat}(it:mG)(G:KV kvs vs)
  (D:∀h:mO,h.get? d=some o->h.DictAt (Zz P w) d vs ep):vI P w K tg (Hz d o kvs) [it] it (λi h=>h.IsKeyIter it d i vs.length ep) where
 mem:=by simp
 obj:=λi h st b x=>by
  have e:b=it:=by simpa using x
  subst e;obtain⟨r,e,c,n⟩:=st;show#[r,e,λv z=>by rw[n]at z;cases z]
 keep:=λi h q st k=>st.at λr e=>k it (by simp) r e
 item:=by
  intro X l j g C i B s y H E I p st a;subst l j g;obtain⟨Y,A⟩:=a;obtain⟨U,Q,f2,N,M,L⟩:=p it (by simp);have J:s.heap.get? d=some o:=(I.hok d _ Y).1;obtain⟨u,hu,_⟩:=G.get (i:=i) (kv:=kvs[i]) (by simp[A]);refine wpAny_pyNext_dict_item (knd:=Zz X.prog X.w) st (D _ J) hu λkey q F2 C7 sb=>?_
  have I1:nM X B y H {s with heap:=q}:=I.turned (t':=s.toks) (λb o x e=>(sb.2 b x).trans e) U Q N M L;obtain⟨r,e,c,n⟩:=id C7;show#[key,rfl,xS (s:={s with heap:=q}) e c n (by lk) #[kV kvs[i].1,H,I1,FG F2,#[rfl,kvs[i],by simp[A],rfl],C7,λb x=>(p b x).1]]
 done:=by
  intro X l j g C i B s y H E I p st a;subst l j g;obtain⟨Y,u⟩:=a;obtain⟨U,Q,f2,N,M,L⟩:=p it (by simp);have J:s.heap.get? d=some o:=(I.hok d _ Y).1;have hl:=KV.length G;show wpAny_pyNext_dict_end (knd:=Zz X.prog X.w) (I.ok.hd C) st (D _ J) (vP<|by lia) λq eb=>#[rfl,I.turned (t':=s.toks) (λb o x e=>eb b o x e) U Q N M L]
 self:=λ_ _ _ _ _ st h=>wpAny_pyIter_keyiter st h
def NF(X:Cx)(d:mG)(u:HO):Prop:=(∀o u,X.mX d≠some (.frz o u))/\∀y,u≠.own y
def yD(X:Cx)(Q:Hp->Prop)(H:Hp):Prop:=∃d o u,H d=some (.frz o u)/\NF X d u/\Q (nO H d u)
def yD.run{Q:Hp->Prop}(I:nM X r y H s)(h:yD X Q H):∃x,nM X r y x s/\Q x:=by
 obtain⟨d,o,u,hd,w,q⟩:=h;show#[_,I.thaw hd w.1 w.2,q]
inductive IH(X:Cx)(I:Addr->Obj->List (om×V)->It)(R:It->Hp->Prop)(H:Hp):V->Prop
 | mk {d kvs}:H d=some (.dK kvs)->(∀o,NF X d (.dK kvs)->R (I d o kvs) (nO H d<|.frz o<|.dK kvs))->IH X I R H (.ref d)
def Yiq(X:Cx)(w:TE):TI:=λy H R=>w y H λx u=>IH X Hz R u x
def EK{P:mS}{w:mP}{h:mO}{d:mG}{o:Obj}{vs:mD (om×mH)}(x:h.DictOf (Zz P w) d vs)(y:h.get? d=some o):∃ep,∀h':mO,h'.get? d=some o->h'.DictAt (Zz P w) d vs ep:=by
 obtain⟨s,u,ep,e,r⟩:=x;rw[y]at e;cases e;show#[ep,λh' s=>#[o,u,s,r]]
def Ydu{X:Cx}{c l:mQ}{n:TE}(a:PE X l n):PI X c l (Yiq X n):=by
 intro j s y H R I h;refine Wr (a j s y H _ I h) λv s1 x Y w U Q=>?_
 obtain@⟨d,u,hd,q⟩:=Q;cases U;obtain⟨E,N,M,kv,i⟩:=vT w.hok hd;obtain⟨o,_,_,r,_⟩:=id i;obtain⟨L,g⟩:=EK i r;have p:=w.freeze hd rfl r;refine wpAny_pyIter_dict (knd:=Zz X.prog X.w) N (g _ r) ?_;have J:nM X j y (nO Y d<|.frz o<|.dK u) {s1 with heap:=s1.heap.push {cls:=.type "dict_keyiterator",data:=.fields (List.toArray [.ref d,.int 0 0,.int M.length 0,.int L 0])}}:=p.kept (t':=s1.toks) λb o e=>oH _ e
 refine#[#v[s1],[#v[s1]],_,_,_,rfl,J,Zxq _ kv g,#[_,pp _ rfl,rfl,rfl],λb G=>?_,q o #[w.notFrz hd (λ_ _ z=>nomatch z),λ_ z=>nomatch z]];have e:b=#v[s1]:=by simpa using G
 subst e;show p.fpOk (oq _)<|p.hok.fresh<|oq _
def Yhx(X:Cx)(t:TS):TS:=λD y H=>t {nx:=λx=>yD X<|D.nx x,rt:=λv=>yD X<|D.rt v,bk:=λx=>yD X<|D.bk x,ct:=λx=>yD X (D.ct x)} y H
def Ao{X:Cx}{st:mM}{t:TS}(h:PS X st t):PS X st (Yhx X t):=by
 intro j s y H D I i;refine oK (h j s y H _ I i) λf g z=>?_
 cases f with
 | next=>obtain⟨x,l,w,q⟩:=z;obtain⟨p,o,n⟩:=q.run w;show#[x,p,o,n]
 | brk=>obtain⟨x,l,w,q⟩:=z;obtain⟨p,o,n⟩:=q.run w;show#[x,p,o,n]
 | cont=>obtain⟨x,l,w,q⟩:=z;obtain⟨p,o,n⟩:=q.run w;show#[x,p,o,n]
 | ret u=>obtain⟨v,x,l,w,r,q⟩:=z;obtain⟨p,o,n⟩:=q.run w;show#[v,x,p,o,r,n]
def TB(X:Cx)(t:TE):TE:=λy H Q=>t y H λv=>yD X<|Q v
def Jm(h:PE X e t):PE X e (TB X t):=by
 intro x s y H Q I w;refine Wr (h x s y H _ I w) λu j v i p r q=>?_
 obtain⟨o,n,l⟩:=q.run p;show#[v,o,n,r,l]
def Yam{d:mG}{o:Obj}{kvs:mD (om×V)}{g:TG}{u:TS}{D:qD}{y:St}{H:Hp}(Pv:Nat->St->Hp->Prop)(n:Pv 0 y H)(r:∀i y H,i<=kvs.length->Pv i y H->H d=some (.frz o<|.dK kvs))
  (l:∀i kv y H,kvs[i]? =some kv->Pv i y H->g (kV kv.1) y H λw j=>u {D with nx:=Pv<|i+1,ct:=Pv<|i+1,bk:=D.nx} w j) (hd:∀y H,Pv kvs.length y H->D.nx y H) :
  yd (Hz d o kvs) g u D y H:=Xx Pv n (λs H p=>#[r _ s H (oq _) p,oq _]) (λi s H q p=>#[#[r i s H (qm q) p,q],λx a ⟨e,kv,h,c⟩=>by subst e c;show l i kv s _ h p]) hd
def nM.turnedNew{ch:mD mG}{o:HO}{h':mO}{t':Nat}(I:nM X h y H s)(l:∀b∈ch,uB X h H b)(k:∀b u,b∉ch->s.heap.get? b=some u->h'.get? b=some u)
  (new:Z9 X.prog X.w (nO H #v[s] o) h' #v[s] o):nM X h y (nO H #v[s] o) {s with heap:=h',toks:=t'}:=by
 have w:H #v[s]=none:=I.fresh;have j:∀b u,s.heap.get? b=some u->b≠#v[s]:=λb u e=>oQ<|oJ e
 have trk:∀b u,H b=some u->b∉ch:=λb u e z=>by rw[(l b z).1]at e;cases e
 refine I.step (g':=s.gens) (d':=s.drawn) (ch:=ch) (λb p=>?_) (λb o _ _ x e _=>k b o x e) (λb o _ _ x e _=>#[o.slots,k b o x e]) (λb o _ e n=>by rw[Zd (j b o e)];show n)
  (λb o x e=>#[o,k b o x e]) (λb g e=>by rw[Zd (Zf e w)];show e) (λb i u e=>by rw[Zd (Zf e w)];show e) (λb r e=>#[#[],by rw[Zd (Zf e w),e];simp]) (λm d=>?_) (λb u e=>?_) I.bare
 ·obtain⟨a,r,Y,q,n,c⟩:=l b p;show#[q,r,n,c]
 ·obtain⟨i,q,n,c,r⟩:=d;show#[i,q,n,k _ i (λz=>(l _ z).2.1 rfl) c,r]
 ·by_cases p:b=#v[s]
  ·subst p;rw[Zc]at e;cases e;show new
  ·rw[Zd p]at e;refine(I.hok b u e).stay (λc v x q=>k c v ?_ q) (λc q=>by rw[Zd (Zf q w)];show q) λc g q=>by rw[Zd (Zf q w)];show q
   rcases x with z|z
   ·rw[z];show trk b u e
   ·show trk c _ z
def EH(K:mK)(l:mG):It :=
 #[λi H=>∃w x,SqL K H l w/\w[i]? =some x,λi H x u=>∃p y,x=.ref p/\H p=none/\u=nO H p (.tup [.int (i:Nat),y])/\∀w,SqL K H l w->w[i]? =some y,λi H=>∃w,SqL K H l w/\w.length<=i]
def YX{P:mS}{w:mP}{K:mK}{Q0:mD mQ}{x1:Nat}{pos:Pos}{l:mG}(e it:mG)(A:e≠it) :
  vI P w K (.Tuple Q0 x1 pos) (EH K l) [e,it] e (λi h=>(∃r,IsEnum h e it (i:Nat) r)/\h.IsListIter it l i) where
 mem:=by simp
 obj:=λi h st b n=>by
  obtain⟨⟨r,j⟩,g⟩:=st;rcases oM.mp n with rfl|n
  ·show#[_,j,λv z=>nomatch z]
  ·have q:b=it:=by simpa using n
   subst q;obtain⟨o,e,c,d⟩:=g;show#[o,e,λv z=>by rw[d]at z;cases z]
 keep:=λi h h' st k=>by
  obtain⟨⟨r,j⟩,g⟩:=st;show#[#[r,k e (by simp) _ j],g.at λo q=>k it (by simp) o q]
 item:=by
  intro X Q N M hc i a9 s y H E I Y st L;subst Q N M;obtain⟨⟨r,j⟩,g⟩:=st;obtain⟨xs,x,U,J⟩:=L;obtain⟨b9,G,p,hz⟩:=I.list U;obtain⟨u,hu,ru⟩:=G.get J;refine wpAny_pyNext_enum_item j g p.isList (x:=u) (by simpa using hu) A λh' ho U4 ht hsz kk=>?_
  refine#[_,rfl,wpAny_letOwnedTupleGo_enum ho λD C B=>?_];have O7:e<#v[s]:=oJ j;have E6:it<#v[s]:=let⟨o,q,_⟩:=g;oJ q;have k2:∀b v,b∉[e,it]->s.heap.get? b=some v->D.get? b=some v:=λb v n q=>by
   have b1:b≠e:=λz=>n (by simp[z])
   have b2:b≠it:=λz=>n (by simp[z])
   show(B.2 b b1).trans (kk b v b1 b2 q)
  have a:D.get? #v[s]=some {cls:=.type "tuple",data:=.seq (List.toArray [.int i s.toks,u])}:=(B.2 _<|wV O7).trans ht;have new:Z9 X.prog X.w (nO H #v[s] (.tup [.int (i:Nat),x])) D #v[s] (.tup [.int (i:Nat),x]) :=
   #[sz (by simp),[.int i s.toks,u],.cons #[_,rfl]<|.cons ru .nil,#[_,a,rfl,_,rfl]]
  refine#[.ref #v[s],_,I.turnedNew (t':=s.toks+1) Y k2 new,rfl,#[_,x,rfl,I.fresh,rfl,λc d=>by rw[I.list_inj d U];show J],#[#[_,C],?_],λb n=>?_]
  ·show U4.at λo q=>(B.2 it A.symm).trans q
  ·rw[Zd ?_]
   ·show(Y b n).1
   ·rcases oM.mp n with rfl|n
    ·show oQ O7
    ·have q:b=it:=by simpa using n
     subst q;show oQ E6
 done:=by
  intro X Q N M hc i a9 s y H E I Y st L;subst Q N M;obtain⟨⟨r,j⟩,g⟩:=st;obtain⟨xs,U,J⟩:=L;obtain⟨b9,G,p,hz⟩:=I.list U;obtain⟨f0,f1,d,f3,f4,f5⟩:=Y it (by simp);have hl:=G.length;show wpAny_pyNext_enum_end (I.ok.hd hc) j g p.isList (by simp;lia) λh' eb=>#[rfl,I.turned (t':=s.toks) (λb o n e=>eb b o n e) f0 f1 f3 f4 f5]
 self:=λ_ _ _ _ _ st h=>by
  obtain⟨⟨r,j⟩,_⟩:=st;show wpAny_pyIter_enum j h
inductive Qr(K:Frag)(R:It->Hp->Prop)(H:Hp):List V->Prop
 | mk {l xs}:SqL K H l xs->R (EH K l) H->Qr K R H [.ref l]
def UU(K:mK)(x:TA):TI:=λy H R=>x y H λw u=>Qr K R u w
def yQ{X:Cx}{g:mD mQ}{d:Nat}{w:Pos}{a:mQ}{o:TA}{p pos:Pos}(c:Gl X "enumerate")(Y:X.mg "enumerate"=none)(U:PA X [a] o)(Q:starEach [a] X.env=[(false,eval a X.env)]:=by rfl) :
  PI X (.Tuple g d w) (.Call (.Name "enumerate" p) [a] [] pos) (UU X.K o):=by
 intro n s y H R I h;refine Call_<|vf I c Y boot_enumerate<|yj (uJ (U pos n s y H _ I h) λu s1 l j x N M=>?_) Q rfl;obtain@⟨l,u,L,q⟩:=M;obtain⟨u,rfl,J⟩:=Wp N;cases J;obtain⟨u,l,G,e⟩:=x.list L;refine call_enumerate_list G.isList λE i D C B=>wpAny_pyIter_enum i ?_
 have A:nM X n y j {s1 with heap:=E}:=x.kept (t':=s1.toks) B;refine#[#v[s1]+1,[#v[s1]+1,#v[s1]],_,_,j,rfl,A,YX _ _<|Nat.succ_ne_self _,#[#[_,i],D],λb r=>?_,q];rcases oM.mp r with rfl|r
 ·show x.fpOk (sF _)<|x.hok.fresh<|sF _
 ·have e:b=#v[s1]:=by simpa using r
  subst e;show x.fpOk (oq _)<|x.hok.fresh<|oq _
def Ai{K:mK}{l:mG}{xs:mD V}{g:TG}{n:TS}{D:qD}{y:St}{H:Hp}(Pv:Nat->St->Hp->Prop)(h:Pv 0 y H)(u:∀i y H,i<=xs.length->Pv i y H->SqL K H l xs)
  (d:∀i x y H,xs[i]? =some x->Pv i y H->∀p r,nH H r->H p=none->r p=some (.tup [.int (i:Nat),x])->g (.ref p) y r λq c=>n {D with nx:=Pv<|i+1,ct:=Pv<|i+1,bk:=D.nx} q c) (hd:∀y H,Pv xs.length y H->D.nx y H) :
  yd (EH K l) g n D y H:=Xx Pv h (λs H p=>#[xs,u _ s H (oq _) p,oq _]) (λi s H o p=>#[#[xs,xs[i],u i s H (qm o) p,pJ o],λx Q ⟨a,w,e,j,Y,U⟩=>by subst e Y;show d i w s H (U xs<|u i s H (qm o) p) p a _ (nH.new j) j Zc]) hd
def Zy7{K:mK}{l:mG}{xs:mD V}{fr:St->St}{g:TG}{n:TT}{j:TE}{Q:VK}{y:St}{h:Hp}{D:mG}(Pv:Nat->mD V->Hp->Prop)(c:Pv 0 [] (nO h D<|.lst []))(r:∀i u H,i<=xs.length->Pv i u H->SqL K H l xs)
  (Y:∀i x u H,xs[i]? =some x->Pv i u H->∀p q,nH H q->H p=none->q p=some (.tup [.int (i:Nat),x])->ro fr g n j y D (.ref p) u q (Pv<|i+1)) (hd:∀u H,Pv xs.length u H->Q (.ref D) H):sj (EH K l) fr g n j Q y h D:=Xx Pv c (λs H p=>#[xs,r _ s H (oq _) p,oq _]) (λi s H o p=>#[#[xs,xs[i],r i s H (qm o) p,pJ o],λx M ⟨a,w,e,d,U,N⟩=>by subst e U;show Y i w s H (N xs<|r i s H (qm o) p) p a _ (nH.new d) d Zc]) hd
def Cy(d:mG)(o:Obj)(kvs:mD (om×V)):It :=
 #[λi H=>H d=some (.frz o<|.dK kvs)/\i<kvs.length,λi H x y=>∃p kv,x=.ref p/\H p=none/\kvs[i]? =some kv/\y=nO H p (.tup [kV kv.1,kv.2]),λi H=>H d=some (.frz o<|.dK kvs)/\kvs.length<=i]
def Zue{P:mS}{w:mP}{K:mK}{Q0:mD mQ}{x1:Nat}{pos:Pos}{d:mG}{o:Obj}{kvs:mD (om×V)}{vs:mD (om×mH)}{ep:Nat}(it:mG)(M:KV kvs vs)
  (L:∀h:mO,h.get? d=some o->h.DictAt (Zz P w) d vs ep):vI P w K (.Tuple Q0 x1 pos) (Cy d o kvs) [it] it (λi h=>∃ok r,IsItemIter h it d i vs.length ep ok r) where
 mem:=by simp
 obj:=λi h st b x=>by
  have e:b=it:=by simpa using x
  subst e;obtain⟨ok,r,e⟩:=st;show#[_,e,λv z=>nomatch z]
 keep:=λi h J st k=>by
  obtain⟨ok,r,e⟩:=st;show#[ok,r,k it (by simp) _ e]
 item:=by
  intro X j g c G i a9 s y H E I l st a;subst j g c;obtain⟨ok,r,p⟩:=st;obtain⟨Y,D⟩:=a;have U:s.heap.get? d=some o:=(I.hok d _ Y).1;obtain⟨u,hu,ru⟩:=M.get (i:=i) (kv:=kvs[i]) (by simp[D]);refine wpAny_pyNext_items_item (knd:=Zz X.prog X.w) p (L _ U) hu λkey J F2 ho ht hsz kk=>?_
  refine#[_,rfl,wpAny_letOwnedTupleGo_items ho λQ N C=>?_];have B:it<#v[s]:=oJ p;have k2:∀b v,b∉[it]->s.heap.get? b=some v->Q.get? b=some v:=λb v x q=>by
   have A:b≠it:=λz=>x (by simp[z])
   show(C.2 b A).trans (kk b v A q)
  have n:Q.get? #v[s]=some {cls:=.type "tuple",data:=.seq (List.toArray [key,u])}:=(C.2 _<|wV B).trans ht;have new:Z9 X.prog X.w (nO H #v[s] (.tup [kV kvs[i].1,kvs[i].2])) Q #v[s] (.tup [kV kvs[i].1,kvs[i].2]) :=
   #[sz (by simp),[key,u],.cons (FG F2)<|.cons ru .nil,#[_,n,rfl,_,rfl]]
  refine#[.ref #v[s],_,I.turnedNew (t':=s.toks) l k2 new,rfl,#[_,kvs[i],rfl,I.fresh,by simp[D],rfl],#[_,_,N],λb x=>?_];have e:b=it:=by simpa using x
  subst e;rw[Zd (oQ B)];show(l _ x).1
 done:=by
  intro X j g c G i a9 s y H E I l st a;subst j g c;obtain⟨ok,r,p⟩:=st;obtain⟨Y,C0⟩:=a;obtain⟨f0,f1,f2,f3,f4,f5⟩:=l it (by simp);have U:s.heap.get? d=some o:=(I.hok d _ Y).1;have hl:=KV.length M;show wpAny_pyNext_items_end (knd:=Zz X.prog X.w) (I.ok.hd G) p (L _ U) (vP<|by lia) λJ eb=>#[rfl,I.turned (t':=s.toks) (λb o x e=>eb b o x e) f0 f1 f3 f4 f5]
 self:=λ_ _ _ _ _ st h=>by
  obtain⟨ok,r,p⟩:=st;show PySem.W.kcp_self p h
def UV(X:Cx)(w:TE):TI:=λy H R=>w y H λx u=>IH X Cy R u x
def yk{X:Cx}{U:mD mQ}{Q:Nat}{w i g:Pos}{o:mQ}{to:TE}(N:PE X o to)(M:attributeBase o "items" X.env (eval o X.env)=eval o X.env:=by rfl)(L:(i.endLine ==g.line)=true:=by rfl) :
  PI X (.Tuple U Q w) (.Call (.Attribute o "items" i) [] [] g) (UV X to):=by
 intro c s y H R I h;refine CU M L<|Wr (N c s y H _ I h) λv s1 x J p G E=>?_;obtain@⟨d,n,hd,q⟩:=E;cases G;obtain⟨x,D,C,kv,u⟩:=vT p.hok hd;obtain⟨l,_,_,r,B,_⟩:=id u;obtain⟨x,Y⟩:=EK u r;refine#["dict","dict.items",ww,Lr,PySem.F.type_dict_items,u.typeIs,λa e=>?_,wb rfl<|CF ?_]
 ·cases e;show#[l,r,B.2.1]
 refine vp Lr u.typeIs PySem.F.entry_dict_items (PySem.F.args_dict_items_1 _) (meets_dict_items (Zz X.prog X.w) d D) #[#[C,u],?_];have A:=p.freeze hd rfl r;have j:nM X c y (nO J d<|.frz l<|.dK n) {s1 with heap:=s1.heap.push {cls:=.type "dict_items",data:=.fields (List.toArray [.ref d])}}:=A.kept (t':=s1.toks) λb o e=>oH _ e
 refine wpAny_pyIter_items (knd:=Zz X.prog X.w) (d:=d) #[_,pp _ rfl,rfl,rfl] (Y _<|oH _ r) ?_;refine#[_,[_],_,_,_,rfl,j.kept (t':=s1.toks) λb o e=>oH _ e,Zue _ kv Y,#[_,_,pp _ rfl],λb hb=>?_,q l #[p.notFrz hd (λ_ _ z=>nomatch z),λ_ z=>nomatch z]];have e:=qG.mp hb;subst e;show j.fpOk (oq _)<|j.hok.fresh<|oq _
def EX{d:mG}{o:Obj}{kvs:mD (om×V)}{g:TG}{r:TS}{D:qD}{y:St}{H:Hp}(Pv:Nat->St->Hp->Prop)(j:Pv 0 y H)(q:∀i y H,i<=kvs.length->Pv i y H->H d=some (.frz o<|.dK kvs))
  (h:∀i kv y H,kvs[i]? =some kv->Pv i y H->∀p w,nH H w->H p=none->w p=some (.tup [kV kv.1,kv.2])->g (.ref p) y w λu c=>r {D with nx:=Pv<|i+1,ct:=Pv<|i+1,bk:=D.nx} u c) (hd:∀y H,Pv kvs.length y H->D.nx y H) :
  yd (Cy d o kvs) g r D y H:=Xx Pv j (λs H p=>#[q _ s H (oq _) p,oq _]) (λi s H n p=>#[#[q i s H (qm n) p,n],λx Q ⟨a,kv,e,l,Y,U⟩=>by subst e U;show h i kv s H Y p a _ (nH.new l) l Zc]) hd
def Ak(K:mK)(H:Hp)(x y:V):Prop:=(uI x=true/\uI y=true/\ud x y=true)\/∃n t,n<=60/\Im K H n t x/\Im K H n t y
def Ak.eqAt(I:nM X i y H s)(h:Ak X.K H x w)(r:Yc x u)(q:Yc w v)(g:A.units+60<cLine):SeqAt.EqAt A s u v true:=by
 rcases h with⟨p,o,e⟩|⟨n,t,d,l,j⟩
 ·show Yj (BS r q p o) e
 ·show Yj (Im.eqAt I n A l j r q<|by lia)<|oO rfl
def Oz(K:mK):R2:=λx y H Q=>∃a b w u,x=.ref a/\y=.ref b/\Rd H a (.dK w)/\Rd H b (.dK u)/\w.length=u.length/\(∀kv∈w,∃v,Y0 u kv.1=some v/\Ak K H kv.2 v)/\Q (.bl true) H
def Um(hu:X.A.units+64<cLine):oS X (compareOp .Eq) (Oz X.K):=by
 intro a9 s y H x w v u Q I M j h;obtain⟨a,b,ka,L,rfl,rfl,J,G,E,D,q⟩:=h;cases M;cases j;obtain⟨_,C,B,e,da⟩:=rY I.hok J;obtain⟨_,sb,d,c,db⟩:=rY I.hok G;have la:=KV.length e;have lb:=KV.length c;have K1:∀{o:mD (om×V)}{n:mD (om×mH)},KV o n->(∀kv∈o,∃v,Y0 L kv.1=some v/\Ak X.K H kv.2 v)->PySem.W.KeqHits X.A.in1 s d n true:=by
  intro o n r
  induction r with
  | nil=>intro _;show .nil
  | cons r t ih =>
   rename_i p q l m;intro Y;obtain⟨e1,r2⟩:=r;obtain⟨v,i,g⟩:=Y p pK;have U:=KV.val c p.1;rw[i]at U;obtain⟨w,N,j⟩:=qN.some_of U;rw[e1]at N;have:=PD (k:=q.1) (v:=q.2) N (g.eqAt (A:=X.A.in1) I r2 j<|by rw[Wj];lia)<|ih λkv D7=>Y kv<|pV _ D7;simpa using this
 refine PySem.W.keq_eq (knd:=Zz X.prog X.w) C sb da db (by lia) (λ_=>K1 e D) #[.bl true,H,I,?_,q];rw[show(B.length ==d.length)=true by rw[<-la,<-lb,E];simp]
 rfl
def BH(K:mK):R2:=λx y H Q=>Qh x y H Q\/Dg K false x y H Q\/Oz K x y H Q
inductive Gn(K:Frag)(H:Hp)(Q:VK):List V->Prop
 | mk {p ys}:(SqL K H p ys\/SqT K H p ys)->Q (.int ys.length) H->Gn K H Q [.ref p]
def Mo(K:mK):mD V->Hp->VK->Prop:=λx H Q=>Gn K H Q x\/(∃z,x=[.str z]/\z.length<=sizeLine/\Q (.int z.length) H)\/∃a y,x=[V.ref a]/\H a=some (.dK y)/\Q (.int y.length) H
def su(K:mK):V->mJ Int->mJ Int->Hp->VK->Prop:=λx lo y H Q=>QB K x lo y H Q\/LY K x lo y H Q\/Nx x lo y H Q
def El(y:Y2 k X.A):oS X (compareOp .Eq) (BH X.K):=Qv.or<|(XY y.units).or (Um y.units)
def XW:Y7 X (.builtin "len") (Mo X.K):=(Zr7.imp λy H Q (h:Gn X.K H Q y)=>by
 obtain@⟨p,x,w,u⟩:=h;show#[p,x,rfl,w,u]).or (Zqo.or XM)
def sE:sW X (su X.K):=UC.or<|UM.or Ygb
inductive KL(K:Frag)(H:Hp)(Q:VK):List V->Prop
 | mk {p ys}:(SqL K H p ys\/SqT K H p ys)->qv H (.lst ys) Q->KL K H Q [.ref p]
def EG(K:mK):mD V->Hp->VK->Prop:=λy H Q=>KL K H Q y
def Jk:Y7 X (.type "list") (EG X.K):=Zr4.imp λs H Q h=>by
 obtain@⟨p,y,x,w⟩:=h;show#[p,y,rfl,x,λl u=>w.at l u]
inductive JH(H:Hp)(Q:VK):List V->Prop
 | mk {p kvs}:Rd H p (.dK kvs)->qv H (.dK kvs) Q->JH H Q [.ref p]
def GX:mD V->Hp->VK->Prop:=λy H Q=>JH H Q y
def Km:Y7 X (.type "dict") GX:=by
 intro l s y H j i Q I r h;obtain@⟨p,x,hd,q⟩:=h;obtain⟨u,rfl,w⟩:=Wp r;cases w;show Ybp I hd λa g o n=>#[.ref a,_,n,rfl,q.at a o]
def Yc1:TE:=λ_ H Q=>qv H (.dK []) Q
def ye:PE X (.Dict [] [] pos) Yc1:=λx s y H Q I h=>YD x s y H Q I λp w=>h.at p w
def Ydw:TE:=λ_ H Q=>qv H (.dT []) Q
def NV:PE X (.Dict [] [] pos) Ydw:=λx s y H Q I h=>Ybz x s y H Q I λp w=>h.at p w
def PP(K:mK):mD V->Hp->VK->Prop:=λy H Q=>∃(p:mG)(bs:mD Bool),y=[.ref p]/\SqL K H p (bs.map V.bl)/\Q (.bl<|bs.all id) H
def Th(y:X.calm=true):Y7 X (.builtin "all") (PP X.K):=Tk y
inductive Qs(K:Frag)(H:Hp)(Q:VK):List V->Prop
 | mk {x c b t}:Xw K H x t->((∃n,c=.ty n/\kitOne K t (.type n)=some b)\/∃a,c=.ref a/\kitOne K t (.ref a)=some b)->Q (.bl b) H->Qs K H Q [x,c]
def yU(K:mK):mD V->Hp->VK->Prop:=λy H Q=>Qs K H Q y
def DC:Y7 X (.builtin "isinstance") (yU X.K):=Zss.imp λs H Q h=>by
 obtain@⟨x,c,b,t,y,w,u⟩:=h;show#[x,c,b,t,rfl,y,w,u]
def Zvl{fr:St->St}
  (hN:X.N.Nodup) (U4:X.N[i]? =some w) (hy:vY X.env.scope w) (hc:X.calm=true) (S:X6 X scope Q N fr) (hi:PI X c r wi) (hg:∀s H C q,PG (Y8 X scope Q N s H C q) c g) (hf:∀s H C q,PF (Y8 X scope Q N s H C q) M tf)
  (he:∀s H C q,PE (Y8 X scope Q N s H C q) L te) (hs:∀x,foldedSetIterable r X.env x=pure x:=by intro _;rfl)
  (J:swapsWith (.ListComp L [#[c,r,M,0]] scope pos) (some<|.Name w a) n.line X.env=pure true:=by rfl) (L0:X.fn w=true\/X.env.scope.names.lookup w=some .local:=by and_intros) :
  PS X (.Assign [.Name w a] (.ListComp L [#[c,r,M,0]] scope pos) n) (AJ (Bs wi fr g tf te)<|rT i):=by
 intro G s y H D I h;rw[exec_Assign_Name_used _ _ _ _ J];refine nW<|Bt<|nW ?_;change wpAny _ X.A (do let _ <-comprehension (.ListComp L [⟨c,r,M,0⟩] scope pos) scope X.env _ (newList []) false (eval r X.env) (some (assign (.Name w a) X.env))) _ _ s;refine nW<|qQ (Kh (use:=some<|assign (.Name w a) X.env) (QQ:=λ_ s'=>∃o H',nM X G o H' s'/\D.nx o H') hc S hi hg hf he hs I h λ{E o fp C Y U} I2 l f2 B qn=>?_) (λ_ s' o=>ou<|ou o) λ_ _ e=>e;obtain⟨m4,A,_⟩:=B.loc;obtain⟨oC,esC,epC,hoC,j⟩:=id A;have J0:nM X G y Y U:=PJ I2 l f2 B (h':=U.heap) #[rfl,λ_ _=>rfl];have big:#v[E]<=C:=qm l;have fC:Y C=none:=B.free;have u:=I2.fpOk big fC;have J1:nM X (G++[(C,oC)]) y Y U:=J0.pins_of λp d=>by
  rcases pC.mp d with d|d
  ·show J0.pin p<|rN _ d
  ·have e:p=(C,oC):=by simpa using d
   subst e;show#[hoC,fC,u.2.1,u.2.2.1,λv z=>by rw[j.1]at z;cases z]
 refine oK (FA hN U4 hy L0 (X:=X) (pos:=a) _ U y Y (.ref #v[E]) (.ref #v[E]) _ J1 rfl qn) λ_ s5 ⟨σ5,H5,I5,q5⟩=>?_
 obtain⟨p1,p2,p3,o,p5⟩:=I5.pin (C,oC) (rN _<|rN _<|by simp);show#[m4,#[oC,esC,epC,p1,j],λh' F7=>#[σ5,H5,(I5.unpinned).turned (t':=s5.toks) (it:=C) (λb o hb e=>(F7.2 b hb).trans e) p2 p3 u.2.2.2.1 u.2.2.2.2.1 u.2.2.2.2.2,q5]]
def xB{X:Cx}{K:mK}{es:mD mQ}{k:Nat}{pos:Pos}{t:yB}{n:Nat}(y:X.K=K)(x:X.calm=true)(h:zM X es t)
  (w:(assignEach es X.env).length=n:=by rfl) (u:(assignEach es X.env).findIdx? (·.1)=none:=by rfl):PG X (.Tuple es k pos) (GN K n t):=y ▸ tN x h w u
def XB:mD V->Hp->VK->Prop:=λx H Q=>∃p y,x=[.ref p]/\Rd H p (.dK y)/\qv H (.lst<|y.map λkv=>kV kv.1) Q
def LS{kvs:mD (om×V)}{y:mD (om×mH)}(g:KV kvs y):∀{vs:mD mH},vs.length=y.length->(∀(j:Nat)(v:mH),vs[j]? =some v->∃(k:om)(x:mH),y[j]? =some (k,x)/\(Zz P w).is k v=true)->Z8 (kvs.map λkv=>kV kv.1) vs:=by
 induction g with
 | nil =>
  intro vs h _;obtain rfl:=BJ.mp h;show .nil
 | cons r t q =>
  intro vs h s;cases vs with
  | nil=>cases h
  | cons v vs =>
   obtain⟨k,x,e,p⟩:=s 0 v rfl;simp only[List.getElem?_cons_zero,Option.some.injEq]at e;subst e;rw[oR];refine .cons ?_ (q (by simpa using h) λj u o=>by simpa using s (j+1) u (by simpa using o));rw[r.1];show FG p
def Yg2(i:X.calm=true):Y7 X (.type "list") XB:=by
 intro E s y H D C Q I r h;obtain⟨p,x,rfl,hd,q⟩:=h;obtain⟨u,rfl,g⟩:=Wp r;cases g;obtain⟨d,lo,c,kv,a⟩:=rY I.hok hd;obtain⟨Y,U⟩:=a.dictAt;have B:=KV.length kv;refine PySem.W.kdl_call (PySem.W.kdl_dict (knd:=Zz X.prog X.w) (kvs:=c) (ep:=Y) lo) (I.ok.hd i) U (by lia) λN tk n M L J l=>?_
 have G:Z8 (x.map λkv=>kV kv.1) n.toList:=LS (P:=X.prog) (w:=X.w) kv (by rw[ut];show l.1) λj v e=>l.2 j v (by rw[<-wu];show e)
 show#[.ref #v[s],_,I.laid (o:=.lst<|x.map λkv=>kV kv.1) (t':=tk) L (oq _) (show Z9 X.prog X.w _ N _ (.lst _)from#[by rw[nQ];show d,n.toList,M,G,by rw[J]]),rfl,q.at _<|I.hok.fresh<|oq _]
def JK(K:mK):R2:=λx y H Q=>∃a b w u,x=.ref a/\y=.ref b/\Rd H a (.dK w)/\Rd H b (.dK u)/\w.length=u.length/\(∀kv∈w,∃v,Y0 u kv.1=some v/\Ak K H kv.2 v)/\Q (.bl false) H
def VD(hu:X.A.units+64<cLine):oS X (compareOp .NotEq) (JK X.K):=by
 intro a9 s y H x w v u Q I M j h;obtain⟨a,b,ka,L,rfl,rfl,J,G,E,D,q⟩:=h;cases M;cases j;obtain⟨_,C,B,e,da⟩:=rY I.hok J;obtain⟨_,sb,d,c,db⟩:=rY I.hok G;have la:=KV.length e;have lb:=KV.length c;have K1:∀{o:mD (om×V)}{n:mD (om×mH)},KV o n->(∀kv∈o,∃v,Y0 L kv.1=some v/\Ak X.K H kv.2 v)->PySem.W.KeqHits X.A.in1 s d n true:=by
  intro o n r
  induction r with
  | nil=>intro _;show .nil
  | cons r t ih =>
   rename_i p q l m;intro Y;obtain⟨e1,r2⟩:=r;obtain⟨v,i,g⟩:=Y p pK;have U:=KV.val c p.1;rw[i]at U;obtain⟨w,N,j⟩:=qN.some_of U;rw[e1]at N;have:=PD (k:=q.1) (v:=q.2) N (g.eqAt (A:=X.A.in1) I r2 j<|by rw[Wj];lia)<|ih λkv D7=>Y kv<|pV _ D7;simpa using this
 refine PySem.W.keq_ne (knd:=Zz X.prog X.w) C sb da db (by lia) (λ_=>K1 e D) #[.bl false,H,I,?_,q];rw[show(B.length ==d.length)=true by rw[<-la,<-lb,E];simp]
 rfl
def Ds(K:mK)(neg:Bool):R2:=λx y H Q=>∃(p:mG)(n:Nat)(t:Tr)(w:mD Tr)(u:mD mG),y=.ref p/\SqL K H p (u.map V.ref)/\n<=60/\Im K H n t x/\Paired (Im K H n) w (u.map V.ref)/\Q (.bl<|if neg then !decide (t∈w)else decide (t∈w)) H
def vt(K:mK)(H:Hp)(n:Nat)(t:Tr)(u:mH):Bool:=match u with
 | .ref a=>@decide (Im K H n t<|.ref a) (Classical.propDecidable _)
 | _=>false
theorem Ii(I:nM X x y H s) :∀{ts:mD Tr}{as:mD mG}{us:mD mH},Paired (Im X.K H n) ts (as.map V.ref)->Z8 (as.map V.ref) us->us.any (vt X.K H n t)=decide (t∈ts)
 | [],[],_,_,v=>by rw[vq]at v;cases v;simp
 | [],a ::as,_,p,_=>by rw[oR]at p;cases p
 | t' ::ts,[],_,p,_=>by rw[vq]at p;cases p
 | t' ::ts,a ::as,us,p,v=>by
  rw[oR]at p v;cases p with
  | cons i p =>
   cases v with
   | cons r v =>
    cases r;rw[yL,Ii I p v,tL,DF];simp only[vt,zw,oM]
    constructor
    ·rintro(z|z)
     ·show .inl<|Im.inj I z i
     ·show .inr z
    ·rintro(z|z)
     ·show .inl<|z ▸ i
     ·show .inr z
theorem FE(I:nM X h y H s)(w:A.units+n<cLine)(q:Im X.K H n t x)(o:Yc x l) :
  ∀{ts:mD Tr}{as:mD mG}{us:mD mH},Paired (Im X.K H n) ts (as.map V.ref)->Z8 (as.map V.ref) us->∀u∈us,SeqAt.EqAt A s u l (vt X.K H n t u)
 | [],[],_,_,v=>by rw[vq]at v;cases v;simp
 | [],a ::as,_,p,_=>by rw[oR]at p;cases p
 | t' ::ts,[],_,p,_=>by rw[vq]at p;cases p
 | t' ::ts,a ::as,us,p,v=>by
  rw[oR]at p v;cases p with
  | cons i p =>
   cases v with
   | cons r v =>
    cases r;intro u j;rcases oM.mp j with e|e
    ·subst e;refine Yj (Im.eqAt I n A i q rfl o w) ?_;simp only[vt,Ea];show#[λz=>z ▸ i,λz=>(Im.inj I z i).symm]
    ·show FE I w q o p v u e
def Yft(a:X.A.units+64<cLine):oS X (compareOp .In) (Ds X.K false):=by
 intro Y s y H x w v u Q I j i h;obtain⟨p,n,t,c,U,rfl,g,N,e,o,q⟩:=h;cases i;obtain⟨l,r,d,p⟩:=I.list g;refine SeqAt.in_listAt (vt X.K H n t) d.isList (λp c=>FE I (by rw[Wj];lia) e j o r p<|by simpa using c) #[.bl _,H,I,rfl,?_];rw[show l.toArray.any (vt X.K H n t)=l.any (vt X.K H n t) by simp,Ii I o r];show q
def Zxm(a:X.A.units+64<cLine):oS X (compareOp .NotIn) (Ds X.K true):=by
 intro Y s y H x w v u Q I j i h;obtain⟨p,n,t,c,U,rfl,g,N,e,o,q⟩:=h;cases i;obtain⟨l,r,d,p⟩:=I.list g;refine SeqAt.notIn_listAt (vt X.K H n t) d.isList (λp c=>FE I (by rw[Wj];lia) e j o r p<|by simpa using c) #[.bl _,H,I,rfl,?_];rw[show l.toArray.any (vt X.K H n t)=l.any (vt X.K H n t) by simp,Ii I o r];show q
def uY(K:mK):R2:=λx y H Q=>RY x y H Q\/Dg K true x y H Q\/JK K x y H Q
def wm(y:Y2 k X.A):oS X (compareOp .NotEq) (uY X.K):=Yir.or<|(ZM y.units).or (VD y.units)
def Cz(K:mK):R2:=λx y H Q=>AT K false x y H Q\/(∃a o,y=.ref a/\Xp H a x o/\Q (.bl o.isSome) H)\/(∃i j,x=.str i/\y=.str j/\Q (.bl (!(Builtin.Str.occurrences j i 0 j.length 1).isEmpty)) H)\/Ds K false x y H Q
def Hc(y:Y2 k X.A):oS X (compareOp .In) (Cz X.K):=Pj.or<|(Yf3<|Xb y).or (Zyv.or<|Yft y.units)
def CM(K:mK):R2:=λx y H Q=>AT K true x y H Q\/(∃a o,y=.ref a/\Xp H a x o/\Q (.bl (!o.isSome)) H)\/Ds K true x y H Q
def Iv(y:Y2 k X.A):oS X (compareOp .NotIn) (CM X.K):=Zq2.or<|(TF<|Xb y).or (Zxm y.units)
end L2
end
section
namespace L2
open PySem
def TrX(h nI:mO)(e:mG)(cls s:mH)(r:mJ mG)(q:mH):Prop :=
 ∃y x T w u,h.get? e=some y/\y.cls=cls/\y.dict=r/\y.data=.fields x/\(x[0]? =some s/\x[2]? =some .none)/\x[1]? =some (.ref T)/\nI.get? T=none/\T≠e/\h.get? T=some w/\w.data=.fields u/\u[3]? =some q
def qR(nI:mO)(l:mD Env)(e:mG)(cls y:mH)(x:mJ mG)(w:mH)(h:mO):Prop:=nI.StaysIn h/\nI.get? e=none/\h.FunFrames nI l/\TrX h nI e cls y x w
def Zx7(f:Array mH->Array mH)(o:Obj):(Obj.mapFields f o).dict=o.dict:=by
 obtain⟨c,d,y,x⟩:=o;cases y<;>rfl
def qR.there(x:qR nI l e cls p w o h):∃y,h.get? e=some y/\y.cls=cls/\y.dict=w/\∃vs,y.data=.fields vs:=by
 obtain⟨_,_,_,u,vs,_,_,_,s,r,q,hd,_⟩:=x;show#[u,s,r,q,vs,hd]
def qR.ctx(x:qR nI l e cls r q p h):∃y vs,h.get? e=some y/\y.data=.fields vs/\vs[2]? =some .none:=by
 obtain⟨_,_,_,w,vs,_,_,_,u,o,n,hd,s,_⟩:=x;show#[w,vs,u,hd,s.2]
section
variable {M:Model} {A:mT} {E:mH->mI->Prop} {s:mI} {nI:mO} {env:Env} {nG l:mD Env} {L e:mG} {oe:Obj} {vs:Array mH} {head a0 cls fl:mH} {dx:mJ mG} {Q:Unit->mI->Prop}
def RZ(D:A.frames=some (env ::nG))(r:s.heap.FunFrames nI (env ::nG))(C:env.frame=some L)(p:s.heap.get? e=some oe)(j:nI.StaysIn s.heap)(i:nI.get? e=none)(hd:oe.data=.fields vs)(hsz:1<vs.size)
  (d:vs[0]? =some a0/\vs[2]? =some .none) (h:∀h',qR nI (env ::nG) e oe.cls a0 oe.dict (rawInt L) h'->s.heap.UpToSlots h'->Q () {s with heap:=h'}) :
  wpAny M A (do let a <-frameOf env;let pl <-entryPlaceOf L hadNext;let b <-EntryCells.newEntry head a .none (rawInt L) .none pl;setField (.ref e) 1 b) Q E s:=by
 have off:e∉(env ::nG).filterMap (·.frame):=λz=>by
  obtain⟨_,o,q,w⟩:=r.mem z;rw[p]at q;cases q;show w vs hd
 refine nW<|wpAny_frameOf_fun D r C λg n=>nW<|wpAny_entryPlaceOf λpl c=>?_;unfold EntryCells.newEntry newFields;refine nW<|xC ?_<|c.sizeOk5 _ _ _ _ _;have Y:g.get? e=some oe:=by rw[n.2.1 e off];show p
 have U:nI.StaysIn g:=λb o q=>by
  rw[n.2.1 b λz=>by rw[(r.mem z).1]at q;cases q];show j b o q
 generalize N:({cls:=.type "traceback",dict:=none,data:=.fields ([head,.ref L,.none,rawInt L,.none]++(if pl.isEmpty then List.replicate 6 Value.none else pl)).toArray}:Obj)=x;have J:(g.push x).get? e=some oe:=oH _ Y;have I:g.objs.size≠e:=wV<|oJ Y;have B:(g.push x).get? g.objs.size=some x:=pp g (by rw[<-N];rfl);refine Hy J hd hsz<|h _ ?_ ?_
 ·have H:=Cq hd (·.setIfInBounds 1 (Value.ref g.objs.size));have e3:=CN (Obj.mapFields (·.setIfInBounds 1 (Value.ref g.objs.size))) J<|Cw H;have t3:((g.push x).update e (Obj.mapFields (·.setIfInBounds 1 (Value.ref g.objs.size)))).get? g.objs.size=some x:=by rw[uM _ _ I.symm];show B
  have u:∀b o,b≠e->g.get? b=some o->((g.push x).update e (Obj.mapFields (·.setIfInBounds 1 (Value.ref g.objs.size)))).get? b=some o:=λb o nb q=>by
   rw[uM _ _ nb.symm];show oH _ q
  refine#[λb o q=>u b o (λz=>by rw[z,i]at q;cases q)<|U b o q,i,r.of_keeps λb o q w=>?_,?_]
  ·obtain⟨G,z⟩:=n.2.2 b o q;refine#[_,u b _ (λy=>?_) z,rfl];rw[y,p]at q;cases q;show w vs hd
  ·refine#[_,_,g.objs.size,x,_,e3,Obj.cls_mapFields _ _,Zx7 _ _,H,?_,by simp[hsz],U.fresh,I,t3,by rw[<-N],?_]
   ·show#[by rw[NG (by lk)];show d.1,by rw[NG (by lk)];show d.2]
   ·rcases c with rfl|⟨_,_,_,_,_,_,_,rfl⟩<;>simp
 ·intro b o q w;obtain⟨G,z⟩:=n.2.2 b o q;refine#[G,?_];change((g.push x).update e (Obj.mapFields (·.setIfInBounds 1 (Value.ref g.objs.size)))).get? b=_;rw[uM _ _ λy=>by rw[<-y,p]at q;cases q;show w vs hd];show oH _ z
def ZG(r:A.frames=some (env ::nG))(q:s.heap.FunFrames nI (env ::nG))(x:env.frame=some L)(w:s.heap.get? e=some oe)(y:nI.StaysIn s.heap)(p:nI.get? e=none)(hd:oe.data=.fields vs)
  (u:vs[1]? =some .none) (o:vs[0]? =some a0/\vs[2]? =some .none) (h:∀h',qR nI (env ::nG) e oe.cls a0 oe.dict (rawInt L) h'->s.heap.UpToSlots h'->Q () {s with heap:=h'}):wpAny M A (noteFrame (.ref e) env) Q E s:=by
 unfold noteFrame;simp only[x];refine nW<|yi w hd u ?_;rw[nY (by lk)];show RZ r q x w y p hd (Df.mp u).1 o h
def Kv(c:A.frames=some (env ::nG))(n:env.frame=some L)(x:qR nI (env ::nG) e cls a0 dx .none s.heap)
  (h:∀h',qR nI (env ::nG) e cls a0 dx (rawInt L) h'->s.heap.UpToSlots h'->Q () {s with heap:=h'}):wpAny M A (noteFrame (.ref e) env) Q E s:=by
 obtain⟨u,a,Y,oe,vs,T,oT,U,j,N,J,hd,I,i,H,G,r,p,g⟩:=x;subst N J;unfold noteFrame;simp only[n];refine nW<|yi j hd i ?_;rw[og (by simp)];refine nW<|yi r p g ?_;rw[nY (by simp[rawInt])];refine nW<|Hy r p (Df.mp g).1 ?_;have y:∀b,b≠T->(s.heap.update T<|Obj.mapFields (·.setIfInBounds 3 Value.none)).get? b=s.heap.get? b:=λb D=>uM _ _ D.symm
 have d:∀b o,s.heap.get? b=some o->(∀vs,o.data≠.fields vs)->b≠T:=λb o q w z=>by
  rw[z,r]at q;cases q;show w U p
 refine RZ c (Y.of_keeps λb o q w=>#[o,by rw[y b (d b o q w)];show q,rfl]) n (by rw[y e G.symm];show j) (λb o q=>?_) a hd (Df.mp i).1 I λh' C B=>h h' C λb o q w=>B b o (by
  change(s.heap.update T _).get? b=_;rw[y b (d b o q w)];show q) w
 change(s.heap.update T _).get? b=_;rw[y b λz=>by rw[z,H]at q;cases q];show u b o q
def DD(x:qR nI l e cls a0 dx fl s.heap)(h:∀h',qR nI l e cls a0 dx .none h'->s.heap.UpToSlots h'->Q () {s with heap:=h'}):wpAny M A (setFlight (.ref e) none) Q E s:=by
 obtain⟨p,Y,U,oe,vs,T,D,j,i,N,J,hd,I,g,d,c,n,r,H⟩:=x;have w:3<j.size:=(Df.mp H).1;have y:∀b,b≠T->(s.heap.update T<|Obj.mapFields (·.setIfInBounds 3 ((none:mJ mG).elim Value.none λf=>rawInt f))).get? b=s.heap.get? b:=λb G=>uM _ _ G.symm
 have a:∀b o,s.heap.get? b=some o->(∀vs,o.data≠.fields vs)->b≠T:=λb o q u z=>by
  rw[z,n]at q;cases q;show u j r
 unfold setFlight;refine nW<|yi i hd g ?_;rw[og (by simp)];refine Hy n r w<|h _ #[λb o q=>?_,Y,U.of_keeps λb o q u=>#[o,?_,rfl],oe,vs,T,_,_,?_,N,J,hd,I,g,d,c,CN _ n<|Cw<|Cq r _,Cq r _,by simp[w]] λb o q u=>#[o.slots,?_]
 ·rw[y b λz=>by rw[z,d]at q;cases q];show p b o q
 ·rw[y b (a b o q u)];show q
 ·rw[y e c.symm];show i
 ·change(s.heap.update T _).get? b=_;rw[y b (a b o q u)];show q
def qR.out(x:qR nI (env ::nG) e cls a0 dx fl s.heap):qR nI nG e cls a0 dx fl s.heap:=by
 obtain⟨a,b,⟨_,_,c⟩,d⟩:=x;show#[a,b,c,d]
def NX(w:A.frames=some (env ::nG))(u:env.frame=some L)(x:qR nI (env ::nG) e cls a0 dx .none s.heap)(h:∀h',qR nI nG e cls a0 dx .none h'->s.heap.UpToSlots h'->Q () {s with heap:=h'}) :
  wpAny M A (leaving env<|.ref e) Q E s:=by
 unfold leaving;refine nW<|Kv w u x λr q p=>DD (s:={s with heap:=r}) q λy o n=>h y ?_<|p.trans n;show qR.out (s:={s with heap:=y}) o
def KN(u:A.frames=some (env ::nG))(r:s.heap.FunFrames nI (env ::nG))(q:env.frame=some L)(p:s.heap.get? e=some oe)(y:nI.StaysIn s.heap)(o:nI.get? e=none)(hd:oe.data=.fields vs)
  (x:vs[1]? =some .none) (n:vs[0]? =some a0/\vs[2]? =some .none) (h:∀h',qR nI nG e oe.cls a0 oe.dict .none h'->s.heap.UpToSlots h'->Q () {s with heap:=h'}):wpAny M A (leaving env<|.ref e) Q E s:=by
 unfold leaving;refine nW<|ZG u r q p y o hd x n λx j i=>DD (s:={s with heap:=x}) j λw g d=>h w ?_<|i.trans d;show qR.out (s:={s with heap:=w}) g
end
end L2
end
section
namespace L2
open PySem PySem.Spec PyProof.Rows
def ED(K:mK)(y:mF->mJ mH)(x:mF)(C:mG)(bm:mD mH)(newId:String):Prop:=∀h:mO,K.In h->OwnCls x C bm newId y h
def Nq(f:mG->String->mD mH->Bool)(m:mD mH)(l:mD (mJ mH)):Bool:=PySem.W.excIn.match_1 (λ_ _=>Bool) m l (λy x _ _ _ _ n _=>f y n x) λ_ _=>false
def Qy(f:ClassData->Array (mJ mH)->Bool)(o:mJ Obj):Bool:=PySem.W.excIn.match_6 (λ_=>Bool) o (λ_ y x=>f y x) λ_=>false
def WJ{P:Prop}{f:ClassData->Array (mJ mH)->Bool}{o:mJ Obj}(q:Qy f o=true)(k:∀dd y x,o=some #[.type "type",dd,.cls y,x]->f y x=true->P):P:=by
 rcases o with _|⟨w,dd,u,x⟩
 ·show(pi q).elim
 cases w
 case type s =>
  by_cases e:s ="type"
  ·subst e;cases u
   case cls y=>show k _ _ _ rfl q
   all_goals show(pi q).elim
  ·delta Qy PySem.W.excIn.match_6 at q
   change(if h:s ="type" then _ else false)=true at q
   rw[dif_neg e]at q;show(pi q).elim
 all_goals show(pi q).elim
def Tc{P:Prop}{f:mG->String->mD mH->Bool}{m l}(q:Nq f m l=true)(k:∀y bm k0 k1 k2 k3 n k5,m=.ref y ::bm->l=[k0,k1,k2,k3,some<|.builtin n,k5]->f y n bm=true->P):P:=by
 rcases m with _|⟨v,x⟩
 ·show(pi q).elim
 cases v
 case ref =>
  rcases l with _|⟨k0,_|⟨k1,_|⟨k2,_|⟨k3,_|⟨_|x,t⟩⟩⟩⟩⟩
  case cons.cons.cons.cons.cons.some =>
   cases x
   case builtin =>
    rcases t with _|⟨k5,_|_⟩
    case cons.nil=>show k _ _ _ _ _ _ _ _ rfl rfl q
    all_goals show(pi q).elim
   all_goals show(pi q).elim
  all_goals show(pi q).elim
 all_goals show(pi q).elim
def uX{K:mK}{p:mF->mJ mH}{x:mF}{C:mG}{y:mD mH}{newId:String}(m:p x=some (.ref C))(q:PySem.W.excIn K C y newId=true):ED K p x C y newId:=λh X=>WJ (f:=λw s=>Nq (λr n c=>r ==C && n ==newId && !w.hasDel && PySem.W.tailIn K y c && PySem.W.nsOkIn K w.ns && nsIn K w.ns "__init__"==some none) w.mro s.toList) q λa w s Y q=>Tc q λr U o l j i n g e Q q=>by
 obtain⟨nm,bs,mro,N,M,u,L,sub,J,col,qz⟩:=w;rw[rB,rB,rB,rB,rB]at q;obtain⟨⟨⟨⟨⟨I,H⟩,G⟩,E⟩,d⟩,D⟩:=q;have B:r=C:=sI.mp I;have A:n=newId:=sI.mp H;have e5:s=(List.toArray [o,l,j,i,some<|.builtin n,g]):=Array.toList_inj.mp Q;have e6:qz=false:=by simpa using G
 dsimp only at e;subst B A e e5 e6;show#[m,U,N,nm,M,bs,u,L,sub,J,col,a,o,l,j,i,g,_,X _ _ Y,.of_isNs<|PySem.W.isNs_of_in X d,PySem.W.nsMap_none_of_in X d<|sI.mp D,PySem.W.tail_of_in X E]
def TD(y:mD Env)(cls:mH)(x:mJ mG)(w:Hp)(g:mO)(u:mG)(h:mO):Prop :=
 ∃s B,qR B y u cls s x .none h/\∀b o,h.get? b=some o->((∃r,g.get? b=some r)\/w b≠none)->b∉pr y->B.get? b=some o
def pU(P:mS)(w:mP):vB:=λu H s E e y=>∃r cls q x,e=.ref r/\y.os=s.os/\AllBare y.gens/\Un (pr u) [] H x s.heap y.heap/\pe P w x y.heap/\TD u cls q x s.heap r y.heap/\E cls q x
def Z9.there(x:Z9 P w H h a o):∃r,h.get? a=some r:=by
 cases o with
 | lst q=>obtain⟨_,_,_,_,e⟩:=x;show#[_,e]
 | tup q=>obtain⟨_,_,_,_,e,_⟩:=x;show#[_,e]
 | dK s=>obtain⟨_,_,_,_,o,_,_,e,_⟩:=x;show#[_,e]
 | dT s=>obtain⟨_,_,_,_,o,_,_,e,_⟩:=x;show#[_,e]
 | set S n=>obtain⟨o,_,_,_,e,_⟩:=x;show#[_,e]
 | ins C y fs=>obtain⟨_,_,_,e,_⟩:=x;show#[_,e]
 | own u=>obtain⟨_,e⟩:=x;show#[_,e]
 | xd fs=>obtain⟨_,⟨_,_,_,e,_⟩,_⟩:=x;show#[_,e]
 | rng lo y=>obtain⟨_,_,_,e⟩:=x;show#[_,e]
 | frz r y=>obtain⟨e,_⟩:=x;show#[_,e]
 | tbl y =>
  obtain⟨_,e,_⟩:=x;show#[_,e]
 | met f u=>show#[_,show h.get? a=some _ from x]
 | ext y=>obtain⟨_,⟨_,e⟩,_⟩:=x;show#[_,e]
variable {X:Cx}
def NA(l:pr X.stack=X.mV.heap.objs.size ::pr X.nG)(G:X.env.locals=X.mV.heap.objs.size)(D:X.ex=[])(I:nM X a9 y p s1)
  (U:qR B X.nG M cls C L .none h') (up:s1.heap.UpToSlots h') (J:∀b o,s1.heap.get? b=some o->((∃o',X.mV.heap.get? b=some o')\/p b≠none)->b∉pr X.stack->B.get? b=some o)
  (A:E cls L p):pU X.prog X.w X.nG X.mX X.mV E (.ref M) {s1 with heap:=h'}:=by
 have stay:∀b o,s1.heap.get? b=some o->((∃o',X.mV.heap.get? b=some o')\/p b≠none)->b∉pr X.stack->h'.get? b=some o:=λb o x w q=>U.1 b o<|J b o x w q
 have r:∀b,((∃o',X.mV.heap.get? b=some o')\/p b≠none)->b∉pr X.nG->b∉pr X.stack:=λb x w q=>by
  rw[l]at q;rcases oM.mp q with e|e
  ·rcases x with⟨o',x⟩|x
   ·rw[e]at x;show absurd (oJ x)<|sr _
   ·rw[e,<-G]at x;show x I.free
  ·show w e
 have trk:∀b,p b≠none->b∉pr X.nG:=λb x w=>x (I.stkFree b (by rw[l];show pV _ w))
 have d:∀b,b∈pr X.nG->∃o,s1.heap.get? b=some o/\∀vs,o.data≠.fields vs:=λb h=>(I.stack.mem (by change b∈pr X.stack;rw[l];show pV _ h)).2
 have s:Un (pr X.nG) [] X.mX p X.mV.heap s1.heap:=by have:=I.nI;rw[D]at this;show this
 refine#[M,cls,L,p,rfl,I.os,I.bare,#[λb o x w q j=>?_,λb o x w q j=>?_,s.free,λb o x j=>?_,s.tups,s.frzs,s.tbls],λa o H=>?_,#[C,B,U,λb o x w q=>?_],A]
 ·show stay b o (s.keep b o x w q j) (.inl #[_,x])<|r b (.inl #[_,x]) q
 ·obtain⟨N,i⟩:=s.slot b o x w q j;obtain⟨n,Y,g⟩:=d b q;rw[i]at Y;cases Y;obtain⟨c,Q⟩:=up b _ i g;show#[c,Q]
 ·obtain⟨n,i⟩:=s.there b o x j
  by_cases h:b∈pr X.nG
  ·obtain⟨N,Y,g⟩:=d b h;obtain⟨c,Q⟩:=up b _ Y g;show#[_,Q]
  ·show#[n,stay b n i (.inl #[_,x])<|r b (.inl #[_,x]) h]
 ·refine(I.hok a o H).stay (λb u h x=>?_) (λ_ z=>z) (λ_ _ z=>z);have N:p b≠none:=by
   rcases h with e|e
   ·rw[e,H];show BQ _
   ·rw[e];show BQ _
  show stay b u x (.inr N)<|r b (.inr N)<|trk b N
 ·obtain⟨n,j⟩:∃n,s1.heap.get? b=some n:=by
   rcases w with⟨o',w⟩|w
   ·show s.there b o' w (by simp)
   ·cases N:p b with
    | none=>show absurd N w
    | some u=>show(I.hok b u N).there
  have i:=J b n j w<|r b w q;have g:h'.get? b=some o:=x;rw[U.1 b n i]at g;cases g;show i
section
variable {P:mS} {w:mP} {K:mK} {mg:mF->mJ mH} {nI:mO} {N:mD mF} {qual:mF} {scope:Scope} {f:mG} {cd:mH} {A:mT} {nG:mD Env} {mV:mI} {mX:Hp} {E:XK}
def GU(I:nM (pS u P w K mg nI N qual scope f cd A nG mV mX E) l y x s1)
  (s:qR B nG r cls j q .none h') (up:s1.heap.UpToSlots h') (p:∀b o,s1.heap.get? b=some o->((∃o',mV.heap.get? b=some o')\/x b≠none)->b∉pr (envOfC qual scope #v[mV] f cd ::nG)->B.get? b=some o)
  (n:E cls q x):pU P w nG mX mV E (.ref r) {s1 with heap:=h'}:=NA (X:=pS u P w K mg nI N qual scope f cd A nG mV mX E) rfl rfl rfl I s up p n
def Wi:ua (pU P w) (pS (pU P w) P w K mg nI N qual scope f cd A nG mV mX E) E:=by
 intro Y y H s e p I h;obtain⟨n,cls,o,g,rfl,os,x,un,u,⟨d,B,l,j⟩,i⟩:=h;have q:=I.call' os un u x (λb z=>absurd z<|by simp);change wpAny _ _ (leaving _<|.ref n) _ _ p;refine NX q.ok.frames rfl l λU r up=>?_
 show GU q r up (λb o g d c=>j b o g (d.imp_left λ⟨a,z⟩=>I.nI.there b a z<|by change b∉([]:mD mG);simp) c) i
def Yf6(C:mG)(E:XK)(t:TA):TS:=λ_ y H=>t y H λx u=>x.length<=sizeLine/\E (.ref C) none u
def yf{x:mF}{C:mG}{bm:mD mH}{Y newId U:String}{Q r pos:Pos}{u:mQ}{Zs:mD mQ}{t:TA}(M:ED K mg x C bm newId)(FB:ExcBaseFacts Y newId U bm)
  (L:Gl (pS (pU P w) P w K mg nI N qual scope f cd A nG mV mX E) x) (J:PA (pS (pU P w) P w K mg nI N qual scope f cd A nG mV mX E) (u ::Zs) t)
  (l:starEach (u ::Zs) (envOfC qual scope #v[mV] f cd)=(false,eval u<|envOfC qual scope #v[mV] f cd) ::starEach Zs (envOfC qual scope #v[mV] f cd):=by rfl)
  (G:(backTo r<|starEach Zs<|envOfC qual scope #v[mV] f cd).any (·.1)=false:=by rfl) (hd:(x ==("__debug__":mF))=false:=by lk) :
  PS (pS (pU P w) P w K mg nI N qual scope f cd A nG mV mX E) (.Raise (some<|.Call (.Name x Q) (u ::Zs) [] r) none pos) (Yf6 C E t):=by
 intro B s y H D I h;have O:OwnCls x C bm newId mg nI:=M nI I.ok.mod.kin;obtain⟨tl,N',nm,q,bs,p,sn,sub,ab,col,dd,k0,k1,k2,k3,k5,mN,hC,hN,i,T⟩:=O.obj;refine wpAny_Raise_call_subT (C:=C) (nm:=nm) (q:=q) (N:=N') (bs:=bs) (bm:=tl) (hdct:=p) (sn:=sn) (sub:=sub) (ab:=ab) (col:=col) (dd:=dd) (k0:=k0) (k1:=k1) (k2:=k2) (k3:=k3) (k5:=k5)
  FB (mN:=mN) (T.hasType FB.hasBase) (I.ok.hd rfl) (by change(backTo r<|starEach (u ::Zs)<|envOfC qual scope #v[mV] f cd).any (·.1)=false;rw[l];change(false || (backTo r<|starEach Zs<|envOfC qual scope #v[mV] f cd).any (·.1))=false;rw[G];rfl) i (yF I L O.bound #[rfl,?_] hd)
 have a:=J r B s y H _ I h;have T3:starEach (u ::Zs) (pS (pU P w) P w K mg nI N qual scope f cd A nG mV mX E).env=(false,eval u<|envOfC qual scope #v[mV] f cd) ::starEach Zs (envOfC qual scope #v[mV] f cd):=l;rw[T3]at a ⊢;refine zU<|oK a λus g h9=>?_;obtain⟨vs,H2,j,r2,hl,hE⟩:=h9;have keep:∀b o,nI.get? b=some o->g.heap.get? b=some o:=λb o e=>(j.bs b o e).1
 refine#[rfl,by rw[<-r2.length];show hl,keep _ _ hC,hN.keeps keep,T.keeps keep,λh' e n=>?_];change wpAny _ _ (leaving _<|.ref e) _ _ _;obtain⟨t,d,_,_⟩:=n.there;have c:∀env∈(envOfC qual scope #v[mV] f cd ::nG),∀b,env.frame=some b->b∈pr (envOfC qual scope #v[mV] f cd ::nG):=λenv l b hb=>EE.mpr #[env,l,hb]
 refine KN (nI:=PySem.W.hideAll g.heap<|pr<|envOfC qual scope #v[mV] f cd ::nG) j.ok.frames ((Kt j.stack c).of_keeps λb o q _=>#[o,n.keeps b o q,rfl]) rfl d (λb o q=>n.keeps b o<|Cm _ q) ?_ rfl rfl #[rfl,rfl] λh'' fl up=>?_
 ·cases q:(PySem.W.hideAll g.heap<|pr<|envOfC qual scope #v[mV] f cd ::nG).get? e with
  | none=>rfl
  | some o=>show absurd (Cm _ q) (by rw[n.new];show λz=>nomatch z)
 ·have R:=GU j fl ((Heap.UpToSlots.of_keeps n.keeps).trans up) (λb o h1 _ h3=>Gx _ h1 h3) hE;show R
end
def Yhh{P:mS}{w:mP}{fs:mD mG}{H x:Hp}{g h h' B:mO}(un:Un fs [] H x g h)(i:pe P w x h)(fr:∀b∈fs,x b=none/\∃o,h.get? b=some o/\∀vs,o.data≠.fields vs)(st:B.StaysIn h')(up:h.UpToSlots h')
  (N:∀b o,h.get? b=some o->((∃o',g.get? b=some o')\/x b≠none)->b∉fs->B.get? b=some o):Un fs [] H x g h'/\pe P w x h':=by
 have stay:∀b o,h.get? b=some o->((∃o',g.get? b=some o')\/x b≠none)->b∉fs->h'.get? b=some o:=λb o y r s=>st b o<|N b o y r s
 refine#[#[λb o y r s q=>stay b o (un.keep b o y r s q) (.inl #[_,y]) s,λb o y r s q=>?_,un.free,λb o y q=>?_,un.tups,un.frzs,un.tbls],λa o U=>?_]
 ·obtain⟨u,n⟩:=un.slot b o y r s q;obtain⟨_,d,l,c⟩:=fr b s;rw[n]at l;cases l;obtain⟨p,Y⟩:=up b _ n c;show#[p,Y]
 ·obtain⟨d,n⟩:=un.there b o y q
  by_cases j:b∈fs
  ·obtain⟨_,u,l,c⟩:=fr b j;obtain⟨p,Y⟩:=up b _ l c;show#[_,Y]
  ·show#[d,stay b d n (.inl #[_,y]) j]
 ·refine(i a o U).stay (λb u j y=>?_) (λ_ z=>z) (λ_ _ z=>z);have Q:x b≠none:=by
   rcases j with e|e
   ·rw[e,U];show BQ _
   ·rw[e];show BQ _
  show stay b u y (.inr Q) λz=>Q (fr b z).1
abbrev Cx.tried(X:Cx)(pn:mD (mG×Obj))(E:mH->mI->Prop):Cx:={X with pn:=pn,xe:=E}
abbrev Cx.caught(X:Cx)(ea:mG):Cx:={X with A:=X.A.mark<|some<|.ref ea,calm:=false,xe:=λ_ _=>False}
section
variable {E:mH->mI->Prop}
def nM.tryIn(I:nM X x y H s)(E:mH->mI->Prop):nM (X.tried (X.pn++x) E) [] y H s :=
 #[#[I.ok.mod,I.ok.kind,I.ok.glob,I.ok.blt,I.ok.above,I.ok.inj,I.ok.has,I.ok.cab,I.ok.hd,I.ok.frames,I.ok.stk,I.ok.exf,I.ok.bs,I.ok.bsz,I.ok.noex,I.ok.exfs,I.ok.funs,I.ok.frf],I.os,I.bare,I.nI,I.loc,I.cell,I.free,I.freeC,λp w=>I.pin p (by simpa using w),I.hok,I.len]
def nM.tryOut(I:nM (X.tried (X.pn++x) E) u y H s):nM X x y H s :=
 #[#[I.ok.mod,I.ok.kind,I.ok.glob,I.ok.blt,I.ok.above,I.ok.inj,I.ok.has,I.ok.cab,I.ok.hd,I.ok.frames,I.ok.stk,I.ok.exf,I.ok.bs,I.ok.bsz,I.ok.noex,I.ok.exfs,I.ok.funs,I.ok.frf],I.os,I.bare,I.nI,I.loc,I.cell,I.free,I.freeC,λp w=>I.pin p<|zC _ w,I.hok,I.len]
def nM.catch(I:nM X x y H s)(w:mG):nM (X.caught w) x y H s :=
 #[#[I.ok.mod,I.ok.kind,I.ok.glob,I.ok.blt,I.ok.above,I.ok.inj,I.ok.has,I.ok.cab,λz=>absurd z pi,I.ok.frames,I.ok.stk,I.ok.exf,I.ok.bs,I.ok.bsz,I.ok.noex,I.ok.exfs,I.ok.funs,I.ok.frf],I.os,I.bare,I.nI,I.loc,I.cell,I.free,I.freeC,I.pin,I.hok,I.len]
def nM.uncatch(x:X.A.handled=none)(I:nM (X.caught u) w y H s):nM X w y H s :=
 #[#[I.ok.mod,I.ok.kind,I.ok.glob,I.ok.blt,I.ok.above,I.ok.inj,I.ok.has,I.ok.cab,λ_=>x,I.ok.frames,I.ok.stk,I.ok.exf,I.ok.bs,I.ok.bsz,I.ok.noex,I.ok.exfs,I.ok.funs,I.ok.frf],I.os,I.bare,I.nI,I.loc,I.cell,I.free,I.freeC,I.pin,I.hok,I.len]
end
section
variable {P:mS} {w:mP} {K:mK} {mg:mF->mJ mH} {nI:mO}
def rW.okX{x qual:mF}{st:mM}{f:mG}{fd:mU}{N ps:mD mF}{k:Nat}{u:Sp}(F:rW K x qual st f fd)(S:Zw N ps (Zj st))
  (q:∀(y:mH)(A:mT)(r:mD Env)(s:mI)(H:Hp)(vs:mD V)(Q:VK)(E:XK),Y2 k (A.deeper<|envOfC qual (Zj st) #v[s] f y)->u vs H Q E->
   let X:=(pS (pU P w) P w K mg nI N qual (Zj st) f y A r s H E);let D:qD:={nx:=λ_ p=>Q .non p,rt:=Q};WSs X (Y6 st) D (start N vs) H) (len:∀vs H Q E,u vs H Q E->vs.length=ps.length:=by bv_omega):Wz P w K mg nI (pU P w) (k+1) f fd ps u:=by
 obtain⟨j,i,kV,g,e,d,y,c,a,rfl,lk,o⟩:=F.ex;show Ej lk o S len λA r s H vs Q E n l=>#[_,Zq,q y A r s H vs Q E n l]
end
theorem yV:∀{ss:mD mF}{us:mD mH},Z8 (ss.map V.str) us->StrsAre us ss
 | [],_,r=>by rw[vq]at r;cases r;show .nil
 | x ::ss,_,r=>by
  rw[oR]at r;cases r with
  | cons r t =>
   obtain⟨tk,rfl⟩:=r;show .cons _ _<|yV t
theorem Ik:∀{ss:mD mF}{us:mD mH},StrsAre us ss->Z8 (ss.map V.str) us
 | [],_,r=>by cases r;show .nil
 | x ::ss,_,r=>by
  cases r with
  | cons _ _ t=>show .cons #[_,rfl]<|Ik t
def Rv(K:mK):mD V->Hp->VK->Prop:=λw H Q=>∃(p:mG)(y:mD mF),w=[.ref p]/\SqL K H p (y.map V.str)/\y.length<64/\∀x:mD mF,x.Perm y->sortedS x=true->qv H (.lst<|x.map V.str) Q
def WX:Y7 X (.builtin "sorted") (Rv X.K):=by
 intro M s y H L J Q I r h;obtain⟨p,j,rfl,i,u,q⟩:=h;obtain⟨u,rfl,g⟩:=Wp r;cases g;obtain⟨x,w,d,u⟩:=I.list i;have G:x.length=j.length:=by have:=w.length;rw[nQ]at this;show this.symm
 refine sorted_strs d.isList (yV w) (by lia) λout n c l Y=>?_
 obtain⟨e,U⟩:=sortedAll_at s.heap x out;have E:=l.length_eq;have N:H (#v[s]+1)=none:=I.hok.fresh<|sF _;show#[.ref<|#v[s]+1,_,I.laid (a:=#v[s]+1) (o:=.lst<|n.map V.str) (t':=s.toks) (λb o h=>sortedAll_old h) (sF _) (show Z9 X.prog X.w _ _ _ (.lst _)from#[by rw[nQ];show sz (by lia),out.toList,e,Ik c,by rw[U]]),rfl,(q n l Y).at _ N]
def nM.laidAt(I:nM X r y H s)(k:∀b u,s.heap.get? b=some u->h'.get? b=some u)(w:s.heap.get? a=none)(new:Z9 X.prog X.w (nO H a o) h' a o) :
  H a=none/\nM X r y (nO H a o) {s with heap:=h',toks:=t'}:=by
 have x:H a=none:=by
  cases e:H a with
  | none=>rfl
  | some u =>
   obtain⟨q,z⟩:=(I.hok a u e).there;rw[w]at z;cases z
 have p:∀b u,s.heap.get? b=some u->b≠a:=λb u e z=>by rw[z,w]at e;cases e
 refine#[x,I.call' (s':={s with heap:=h',toks:=t'}) rfl #[λb u e _ _ _=>k b u e,λb u e _ _ _=>#[u.slots,k b u e],λb u e n _=>by rw[Zd (p b u e)];show n,λb u e _=>#[u,k b u e],λb l e=>?_,λb q u e=>?_,λb j e=>#[#[],?_]] (λb u e=>?_) I.bare λb z=>absurd z tV]
 ·rw[Zd (Zf e x)];show e
 ·rw[Zd (Zf e x)];show e
 ·rw[Zd (Zf e x)];simpa using e
 ·by_cases z:b=a
  ·rw[z,Zc]at e;cases e;rw[z];show new
  ·rw[Zd z]at e;show(I.hok b u e).stay (λc v _ h=>k c v h) (λc h=>by rw[Zd (Zf h x)];show h) (λc q h=>by rw[Zd (Zf h x)];show h)
def CV:mD V->Hp->VK->Prop:=λu H Q=>∃(p:mG)(y:mD (om×V)) (x:mD mF),u=[.ref p]/\Rd H p (.dK y)/\y.map (λkv=>kV kv.1)=x.map V.str/\x.length<64/\∀w:mD mF,w.Perm x->sortedS w=true->qv H (.lst<|w.map V.str) Q
def Iy(G:X.calm=true):Y7 X (.builtin "sorted") CV:=by
 intro a9 s y H xs us Q I r h;obtain⟨p,d,E,rfl,hd,D,u,q⟩:=h;obtain⟨u,rfl,C⟩:=Wp r;cases C;obtain⟨u,lo,B,kv,da⟩:=rY I.hok hd;obtain⟨ep,B4⟩:=da.dictAt;have hlv:=KV.length kv;refine Hk kind_sorted plain_sorted entry_sorted (args_sorted1 _) ?_;unfold Builtin.«sorted»;refine nW (m:=checkCount "sorted" 1 1 _)<|ou ?_;refine nW<|PySem.W.kdu_collect (A:=X.A.in1) (PySem.W.kdl_dict (knd:=Zz X.prog X.w) (kvs:=B) (ep:=ep) lo) (I.ok.hd G) B4 (by lia) λx tk i g N=>?_;have c:Z8 (d.map λkv=>kV kv.1) i.toList:=LS (P:=X.prog) (w:=X.w) kv (by rw[ut];show N.1) λj v e=>N.2 j v (by rw[<-wu];show e)
 rw[D]at c;have Y:=yV c;have d9:i.toList.length=E.length:=by have:=c.length;rw[nQ]at this;show this.symm
 refine nW (wpAny_newList ?_ (by rw[d9];show sz<|by lia));have n:(x.push<|seqObj "list" i.toList.toArray 0).get? x.objs.size=some (seqObj "list" i.toList.toArray 0):=pp _ rfl;refine nW<|rJ<|ER slot_list_sort #[_,n,rfl] entry_list_sort (list_sort_treeK strKind_oneLt n Y.keysOf (λu p Zs e=>keyKind_strs (by rw[<-e];show Y)) (by lia) λU a1 a2=>#[_,rfl,?_])<|args_list_sort _;obtain⟨M,b1,L,b3⟩:=sorted_out_str Y a1 a2;obtain⟨e,he⟩:=sortedHeap_at (out:=(arrOf U).map (·.2)) n;have hp:=L.length_eq;have l:s.heap.get? x.objs.size=none:=by
  cases z:s.heap.get? x.objs.size with
  | none=>rfl
  | some o=>show absurd (oJ<|g _ _ z)<|sr _
 obtain⟨hn,J⟩:=I.laidAt (h':=sortedHeap (x.push<|seqObj "list" i.toList.toArray 0) x.objs.size i.toList<|(arrOf U).map (·.2)) (t':=tk) (a:=x.objs.size) (o:=.lst<|M.map V.str) (λb o p=>by
  have u:=g b o p;rw[sortedHeap_old (oQ<|oJ u) (qB (oJ u) (by rw[uv];show sF _))];show oH _ u) l (show Z9 X.prog X.w _ _ _ (.lst _)from#[by rw[nQ];show sz (by lia),((arrOf U).map (·.2)).toList,e,Ik b1,by rw[he]])
 show ou #[_,rfl,.ref x.objs.size,_,J,rfl,(q M L b3).at _ hn]
def Zx0(s:TE):TE:=λy H Q=>s y H λx u=>∃d w,x=.ref d/\Rd u d (.dK w)/\qv u (.lst<|w.map λkv=>kv.2) Q
def Zxd{kvs:mD (om×V)}{y:mD (om×mH)}(h:KV kvs y):Z8 (kvs.map λkv=>kv.2) (y.map λkv=>kv.2):=by
 induction h with
 | nil=>show .nil
 | cons r t x=>show .cons r.2 x
def Ztt(M:X.calm=true)(p:Gl X "list")(n:X.mg "list"=none)(L:PE X o to)(J:attributeBase o "values" X.env (eval o X.env)=eval o X.env:=by rfl)(G:(E.endLine ==D.line)=true:=by rfl) :
  PE X (.Call (.Name "list" p') [.Call (.Attribute o "values" E) [] [] D] [] B9) (Zx0 to):=by
 intro Y s y H Q I h;refine uQ<|vf I p n Eu ?_;refine yj ?_ rfl rfl;refine wD ?_;refine CU J G<|Wr (L Y s y H _ I h) λv s1 x C U B A=>?_;obtain⟨d,l,rfl,hd,q⟩:=A;cases B;obtain⟨hz,hs,i,kv,w⟩:=rY U.hok hd;obtain⟨ob,_,_,g,Q7,_⟩:=id w;obtain⟨ep,hD⟩:=EK w g;refine#["dict","dict.values",ww,EQ,LX,w.typeIs,λa e=>?_,wb rfl<|CF ?_]
 ·cases e;show#[ob,g,Q7.2.1]
 refine vp EQ w.typeIs Sl (MX _) (meets_dict_values (Zz X.prog X.w) d hs) #[#[i,w],?_];refine yC ?_;have c:nM X Y y C {s1 with heap:=s1.heap.push {cls:=.type "dict_values",data:=.fields (List.toArray [.ref d])}}:=U.kept (t':=s1.toks) λb o e=>oH _ e
 have hl:=KV.length kv;refine PySem.W.kdl_call (PySem.W.kdl_values (knd:=Zz X.prog X.w) (r:=#v[s1]) (d:=d) (kvs:=i) (ep:=ep)) (c.ok.hd M) #[#[_,pp _ rfl,rfl,rfl],hD _<|oH _ g] (by lia) λh' tk u c' hk z7 N=>?_
 have e1:u.toList=i.map (·.2):=PySem.W.kdl_vals_eq u.toList (by rw[ut];show N.1) λj v e=>N.2 j v (by rw[<-wu];show e)
 have hv:Z8 (l.map λkv=>kv.2) u.toList:=by rw[e1];show Zxd kv
 show#[.ref _,_,c.laid (o:=.lst _) (t':=tk) hk (oq _) (show Z9 X.prog X.w _ h' _ (.lst _)from#[by rw[nQ];show hz,u.toList,c',hv,by rw[z7]]),rfl,q.at _<|c.hok.fresh<|oq _]
end L2
end
section
namespace L2
open PySem PySem.Spec PyProof.Rows Builtin Builtin.ObjectAttr
abbrev wN:mD mH:=[.type "ValueError",.type "Exception",.type "BaseException",.type "object"]
def vG(C t:mG)(y:mJ mG):Obj:={cls:=.ref C,dict:=y,data:=.fields (List.toArray [.ref t,.none,.none,.none,.bool false,.none])}
def qy(e C t:mG)(y:mJ mG):HO:=.ext λh=>h.get? e=some (vG C t y)
def rE(e C:mG)(x:mJ mG):HO:=.ext λh=>∃o y,h.get? e=some o/\o.cls=.ref C/\o.dict=x/\o.data=.fields y/\y[2]? =some .none
section
def qy.ok(x:h.get? e=some (vG C t y)):Z9 P w H h e (qy e C t y):=#[x,#[_,x],λ_ _ p k=>k _ p]
def rE.ok{o:Obj}{vs:Array mH}(x:h.get? e=some o)(a:o.cls=.ref C)(b:o.dict=y)(c:o.data=.fields vs)(d:vs[2]? =some .none):Z9 P w H h e (rE e C y):=#[#[o,vs,x,a,b,c,d],#[_,x],λ_ _ ⟨o,vs,x,r⟩ k=>#[o,vs,k _ x,r]]
def qy.at(k:pe P w H h)(q:H e=some (qy e C t y)):h.get? e=some (vG C t y):=(k e _ q).1
def rE.at(k:pe P w H h)(q:H e=some (rE e C y)):∃o vs,h.get? e=some o/\o.cls=.ref C/\o.dict=y/\o.data=.fields vs:=let⟨o,vs,a,b,c,d,_⟩:=(k e _ q).1;#[o,vs,a,b,c,d]
end
variable {X:Cx}
def nM.track{a:mG}{o:HO}(I:nM X l y H s)(r:H a=none)(i:X.mV.heap.get? a=none)(h:a≠X.env.locals)(g:∀x c,X.env.cells.lookup x=some c->c≠a)(e:∀p∈X.pn++l,p.1≠a)
  (new:Z9 X.prog X.w (nO H a o) s.heap a o):nM X l y (nO H a o) s:=by
 refine#[I.ok,I.os,I.bare,#[I.nI.keep,I.nI.slot,λb u z n d=>?_,I.nI.there,λb j z=>?_,λb Y u z=>?_,λb U z=>?_],I.loc,I.cell,?_,λx c z=>?_,λp z=>?_,λb u z=>?_,I.len]
 ·rw[Zd λw=>by rw[w,i]at z;cases z];show I.nI.free b u z n d
 ·have q:=I.nI.tups b j z;rw[Zd (Zf q r)];show q
 ·have q:=I.nI.frzs b Y u z;rw[Zd (Zf q r)];show q
 ·obtain⟨more,q⟩:=I.nI.tbls b U z;show#[more,by rw[Zd (Zf q r)];show q]
 ·rw[Zd h.symm];show I.free
 ·rw[Zd (g x c z)];show I.freeC x c z
 ·obtain⟨Q,N,M⟩:=I.pin p z;show#[Q,by rw[Zd (e p z)];show N,M]
 ·by_cases w:b=a
  ·subst w;rw[Zc]at z;cases z;show new
  ·rw[Zd w]at z;show(I.hok b u z).stay (λ_ _ _ q=>q) (λc q=>by rw[Zd (Zf q r)];show q) λc j q=>by rw[Zd (Zf q r)];show q
def zi(H:Hp)(a:mG):Hp:=λb=>if b=a then none else H b
def Cp{a b:mG}(h:b≠a):zi H a b=H b:=nY h
def Hj{a:mG}:zi H a a=none:=og rfl
def nM.drop{a:mG}{y:mO->Prop}(I:nM X j x H s)(i:H a=some (.ext y)):nM X j x (zi H a) s:=by
 have off:∀{b:mG}{u:HO},H b=some u->u≠.ext y->zi H a b=some u:=λ{b u} q n=>by
  rw[Cp λw=>by rw[w,i]at q;show n (pI q).symm];show q
 have non:∀{b:mG},H b=none->zi H a b=none:=λ{b} q=>by
  by_cases w:b=a
  ·rw[w];show Hj
  ·rw[Cp w];show q
 refine#[I.ok,I.os,I.bare,#[I.nI.keep,I.nI.slot,λb u z n o=>non<|I.nI.free b u z n o,I.nI.there,λb l z=>off (I.nI.tups b l z) (λw=>nomatch w),λb h u z=>off (I.nI.frzs b h u z) (λw=>nomatch w),λb g z=>?_],I.loc,I.cell,non I.free,λr c z=>non<|I.freeC r c z,λp z=>?_,λb u z=>?_,I.len]
 ·obtain⟨more,q⟩:=I.nI.tbls b g z;show#[more,off q λw=>nomatch w]
 ·obtain⟨r,o,h⟩:=I.pin p z;show#[r,non o,h]
 ·have w:b≠a:=λw=>by rw[w,Hj]at z;cases z
  rw[Cp w]at z;show(I.hok b u z).stay (λ_ _ _ q=>q) (λc q=>off q λw=>nomatch w) (λc l q=>off q λw=>nomatch w) (λc o q=>off q λw=>nomatch w) (λc o q=>off q λw=>nomatch w)
def nM.forget{h':mO}{g:mF->mJ mH}{t':Nat}(I:nM X e y H s)(d:h'.Ns X.env.locals g)(l:Heap.SameBut X.env.locals s.heap h'):nM X e (List.replicate X.N.length none) H {s with heap:=h',toks:=t'}:=by
 have r:∀b o,X.mV.heap.get? b=some o->b≠X.env.locals:=λb o q=>oQ<|qB (oJ q) I.ok.above
 refine#[I.ok,I.os,I.bare,#[λb o z n h j=>?_,λb o z n h j=>?_,I.nI.free,λb o z j=>?_,I.nI.tups,I.nI.frzs,I.nI.tbls],#[g,d,λi x v _ z _=>?_],λx c z=>?_,I.free,I.freeC,λp z=>?_,λb u z=>?_,by simp]
 ·rw[l.2 b (r b o z)];show I.nI.keep b o z n h j
 ·obtain⟨w,q⟩:=I.nI.slot b o z n h j;show#[w,by rw[l.2 b (r b o z)];show q]
 ·obtain⟨w,q⟩:=I.nI.there b o z j;show#[w,by rw[l.2 b (r b o z)];show q]
 ·rw[FD]at z;split at z<;>cases z
 ·obtain⟨v,q⟩:=I.cell x c z;show#[v,q.sameBut l<|I.cne x c z]
 ·obtain⟨i,a,w,Y⟩:=I.pin p z;show#[by rw[l.2 p.1 w];show i,a,w,Y]
 ·refine(I.hok b u z).stay (λc v w q=>?_) (λ_ q=>q) λ_ _ q=>q
  rw[l.2 c ?_]
  ·show q
  rintro rfl;have fr:H X.env.locals=none:=I.free;rcases w with rfl|w
  ·rw[fr]at z;cases z
  ·rw[fr]at w;cases w
def xh(K:mK)(C Y:mG):Prop:=∃nm q N bs y sub x col w u s r p o,K.lookup C=some (excClassObj nm q C N bs (.ref Y ::wN) true y sub x col w u s r p o "ValueError.__new__")
def xh.cls{K:mK}{C Y:mG}(c:xh K C Y):∃y,PySem.W.clsIn K C=some y/\y.mro=.ref C ::.ref Y ::wN/\y.hasDict=true:=by
 obtain⟨nm,q,N,bs,x,sub,w,col,u,s,r,p,o,n,h⟩:=c;refine#[{name:=nm,bases:=bs,mro:=.ref C ::.ref Y ::wN,ns:=N,qualname:=q,hasDict:=true,slotNames:=x,subclasses:=sub,abstract:=w,collection:=col,hasDel:=false},?_,rfl,rfl];unfold PySem.W.clsIn;rw[h]
def xh.hd{K:mK}{C Y:mG}(c:xh K C Y):PySem.W.hasDictIn K C=true:=by
 obtain⟨y,h,_,hd⟩:=c.cls;unfold PySem.W.hasDictIn;rw[h];show hd
section
variable {E:mH->mI->Prop}
def Yb9{x:V}{u:mH}{Q:Unit->mI->Prop}(I:nM X a9 y H s)(q:H e=some (qy e C t none))(c:xh X.K C Y)(sa:findIn X.K (.ref C) "__setattr__"=some (some<|.builtin "object.__setattr__"))(na:findIn X.K (.ref C) f=some none)(ry:Yc x u)
  (h:∀i s',H i=none->i≠e->nM X a9 y (nO (nO H e<|qy e C t<|some i) i<|.xd [(f,x)]) s'->Q () s'):wpAny (model X.prog X.w) A (setAttr (.ref e) f u) Q E s:=by
 obtain⟨cd,U,r,n⟩:=c.cls;have d:=qy.at I.hok q;have J:PySem.W.InstAt s.heap e (vG C t none) C none:=#[d,rfl,rfl,trivial]
 have SF:=PySem.F.store_object;have N:PySem.W.Looks (model X.prog X.w) s.heap (typeOf<|.ref e) (.ref C):=J.type;have lm:PySem.W.Looks (model X.prog X.w) s.heap (mroOf<|.ref C) cd.mro:=(FP I.kIn U).andThen .now;have sub:PySem.W.Looks (model X.prog X.w) s.heap (isInstance (.ref e)<|.type "object") true:=N.andThen (MP I.kIn<|by unfold PySem.W.mroIn;rw[U,Option.bind_some,r];rfl);refine PySem.W.set_plain I.kIn J sa ?_;refine AC SF.slot.plain SF.entry<|@LG (model X.prog X.w) _ _ {s with toks:=s.toks+1} "object.__setattr__" "object" "__setattr__" (.ref e) [.str f s.toks,u] [] _ SF.kind SF.split sub (SF.args (.ref e) (.str f s.toks) u) ?_;rw[PySem.W.osa_eq,refuse_eq];refine nW<|nW<|N.here (s:={s with toks:=s.toks+1})<|nW<|lm.here (s:={s with toks:=s.toks+1}) ?_;rw[r,refuseLoop_ref,refuseLoop_ref,PySem.F.store_ValueError.passes];refine ou<|nW<|N.here (s:={s with toks:=s.toks+1})<|nW<|(Bq I.kIn na).here (s:={s with toks:=s.toks+1}) (nW<|ou ?_);have a:e≠#v[s]:=oQ<|oJ d;have B:(s.heap.push PySem.W.emptyDict).get? e=some (vG C t none):=oH _ d;have h2:((s.heap.push PySem.W.emptyDict).update e λo=>{o with dict:=some #v[s]}).get? e=some (vG C t<|some #v[s]):=CN _ B rfl;have d2:((s.heap.push PySem.W.emptyDict).update e λo=>{o with dict:=some #v[s]}).get? #v[s]=some PySem.W.emptyDict:=by
  rw[uM _ _ a];show pp s.heap rfl
 have n2:((s.heap.push PySem.W.emptyDict).update e λo=>{o with dict:=some #v[s]}).Ns #v[s] (λ_=>none):=#[_,#[],_,d2,rfl,λz g=>absurd g (by simp),λ_=>rfl]
 change wpAny _ _ (storeInOwnDict (.ref e) (.ref C) (.str f s.toks) f u _) _ _ _;unfold storeInOwnDict;refine nW<|ou ?_;rw[nY (by simp)];refine nW ?_;change wpAny _ _ (instanceDict e true) _ _ _;unfold instanceDict;refine nW<|FN d ?_;dsimp only[vG];refine nW<|(FP I.kIn U).here (s:={s with toks:=s.toks+1}) ?_;rw[n,nY (by simp),nY<|by simp[typeHasDict]];refine nW<|wpAny_alloc'<|nW<|wpAny_update' B ?_;refine ou ?_;change wpAny _ _ (storeInDict #v[s] (.str f s.toks) f u) _ _ _;unfold storeInDict newKeyGuard;refine nW<|ou<|nW<|wpAny_nsSet1 (Heap.Ns1.of_empty n2) λM l j=>?_;obtain⟨oD,g,epD,L,G,D⟩:=l.count<|PySem.Within.cons f u PySem.Within.nil;refine nW<|wpAny_lookBehind L (by rw[G];show pastItsLine_dict<|oU D<|by rw[qr,Jn,uh];lia) ?_;refine ou ?_;have e3:M.get? e=some (vG C t<|some #v[s]):=by rw[j.2 e a];show h2
 have k3:∀b o,b≠e->s.heap.get? b=some o->M.get? b=some o:=λb o nb z=>by
  rw[j.2 b (oQ<|oJ z)];change((s.heap.push PySem.W.emptyDict).update e λo=>{o with dict:=some #v[s]}).get? b=_;rw[uM _ _ nb.symm];show oH _ z
 have A3:H #v[s]=none:=I.fresh;refine h #v[s] _ A3 a.symm ?_;have I3:=I.write (x:=e) (e:=e) (o:=qy e C t<|some #v[s]) (h':=M) (t':=s.toks+1+1) (by rw[q];show rD) (.inl rfl) k3 #[_,e3]<|qy.ok e3;refine I3.track ?_ ?_ ?_ (λw c' z=>?_) (λp z=>?_) ?_
 ·rw[Zd a.symm];show A3
 ·show At I.sz
 ·show wV I.lt
 ·obtain⟨v,o,g,_⟩:=I.cell w c' z;show oQ<|oJ g
 ·show oQ<|oJ (I.pin p z).1
 ·refine#[_,l,λg=>?_]
  by_cases z:g=f
  ·subst z;simp only[List.lookup,Ce,tY];show ry
  ·have zb:(g ==f)=false:=uc.mpr z;simp only[List.lookup,zb,nY z];show rD
def Yjk(K:mK)(r q:TE)(f:mF):TS:=λD y H=>q y H λx p=>r y p λw s=>∃e C Y t,w=.ref e/\s e=some (qy e C t none)/\xh K C Y/\findIn K (.ref C) "__setattr__"=some (some<|.builtin "object.__setattr__")/\findIn K (.ref C) f=some none/\
 ∀u,s u=none->u≠e->D.nx y (nO (nO s e<|qy e C t<|some u) u<|.xd [(f,x)])
def GE{o value:mQ}{pos w:Pos}{r p:TE}(l:PE X o r)(j:PE X value p)(i:swapsWith value (some<|.Attribute o f w) pos.line X.env=pure false):PS X (.Assign [.Attribute o f w] value pos) (Yjk X.K r p f):=by
 intro n s y H D I h;refine OH (Wr (j n s y H _ I h) λu g x d a U q=>oK (l n g y d _ a q) λQ Y N=>?_) i;obtain⟨x,u,M,L,e,C,Y,t,J,G,c,B,A,q2⟩:=N;subst J;obtain rfl:Q=Value.ref e:=L;show Yb9 M G c B A U λdx s3 hn u6 I3=>#[y,_,I3,q2 dx hn u6]
structure XA(K:Frag)(C:Addr):Prop where
 ga:findIn K (.ref C) "__getattribute__"=some (some<|.builtin "BaseException.__getattribute__")
 gt:findIn K (.ref C) "__getattr__"=some none
 be:PySem.W.mroIn K C (.type "BaseException")=some true
end
section
variable {prog:mS} {w:mP} {A:mT} {E:mH->mI->Prop} {s:mI} {K:mK} {x C:mG} {ox:Obj} {od:mJ Obj} {name:mF} {tk:Tok}
def VV:builtinKind "BaseException.__getattribute__"=some .slot:=by left
def Zuh:splitId "BaseException.__getattribute__"=some ("BaseException","__getattribute__"):=by left
def RE{v:mH}{R:Result->mI->Prop}(X:K.In s.heap)(I:PySem.W.InstAt s.heap x ox C od)(u:XA K C){fd:Found}(r:PySem.W.findObj K C od name=some fd)
  (h:match fd with|.value v=>R (.ok<|.ret v) s|.bind g a=>wpAny (model prog w) A.in1 (call g [a,.ref x,.ref C]) (λv s'=>R (.ok<|.ret v) s') (λe s'=>R (.error e) s') s|.missing=>False) :
  codeAny (model prog w) A (.call (.builtin "BaseException.__getattribute__") #[[.ref x,.str name tk],[]]) R s:=by
 have y:=I.type (M:=model prog w);have sub:PySem.W.Looks (model prog w) s.heap (isInstance (.ref x)<|.type "BaseException") true:=y.andThen<|MP X u.be;have fn:=PySem.W.looks_find (M:=model prog w) X I r;refine AC Mw.ga.plain PySem.F.entry_bexc_ga<|@LG (model prog w) _ _ s "BaseException.__getattribute__" "BaseException" "__getattribute__" (.ref x) [.str name tk] [] _ VV Zuh sub (PySem.F.args_bexc_ga _ _) ?_;refine nW<|ou<|nW<|ou<|nW<|y.here<|nW<|fn.here ?_;cases fd with
 | value v=>show ou h
 | bind g a =>
  change wpAny _ _ (holding [a] (call g [a,.ref x,.ref C])>>=ret) _ _ _;show nW (rJ<|qQ h (λv s' z=>ou z) λ_ _ z=>z)
 | missing=>show h.elim
def Lq{fill expr:Bool}{Q:mH->mI->Prop}(X:K.In s.heap)(I:PySem.W.InstAt s.heap x ox C od)(y:XA K C)
  (h:codeAny (model prog w) A (.call (.builtin "BaseException.__getattribute__") #[[.ref x,.str name tk],[]]) (λr s'=>match r with|.ok (.ret v)=>wpAny (model prog w) A (handedOut v) Q E s'|_=>False) s) :
  wpAny (model prog w) A (getAttrBy (.ref x) (.str name tk) fill expr) Q E s:=by
 have u:=I.type (M:=model prog w);have q:=Bq (M:=model prog w) X y.ga;have lt:=Bq (M:=model prog w) X y.gt;unfold getAttrBy;refine rJ<|nW<|u.here<|nW<|q.here ?_;change wpAny _ _ (getAttrByItsOwn (.ref x) (.str name tk) (.ref C) (.builtin "BaseException.__getattribute__") fill expr) _ _ _;unfold getAttrByItsOwn;refine nW<|lt.here<|nW<|wpAny_attempt<|rJ ?_;have p:(expr && onTheHeap (Value.builtin "BaseException.__getattribute__"))=false:=by cases expr<;>rfl
 unfold callGetattribute;rw[p];simp only[tT,rX];unfold boundAndCalled;rw[Mw.ga.bind];refine nW<|ou<|uU<|uS h λr s' z=>?_;rcases r with e|(v|_|_|_)<;>first|show z|show z.elim
def YV{v:mH}{expr:Bool}{Q:mH->mI->Prop}(X:K.In s.heap)(I:PySem.W.InstAt s.heap x ox C od)(y:XA K C)(u:PySem.W.findObj K C od name=some (.value v))(r:PySem.W.handedIn v=true)(h:Q v {s with toks:=s.toks+1}) :
  wpAny (model prog w) A (getAttr (.ref x) name expr) Q E s:=by
 unfold getAttr;refine nW<|wpAny_mkText<|Lq (s:={s with toks:=s.toks+1}) X I y<|RE (s:={s with toks:=s.toks+1}) (fd:=.value v) (v:=v) X I y u ?_;change wpAny _ _ (handedOut v) _ _ _;rw[PySem.W.handedOut_of r];show ou h
def MH(j:XA K C)(y:(PySem.W.clsIn K C).isSome=true)(i:findIn K (.ref C) "__class__"=some (some<|.builtin "object.__class__"))(g:PySem.W.specialIn K (.builtin "object.__class__") "__get__"=some (some<|.builtin "getset_descriptor.__get__"))
  (u:PySem.W.takesIn K (.builtin "object.__class__")=some true) (d:PySem.W.mroIn K C (.type "object")=some true):PySem.W.KitX K (.ref x) (.ref C) (λh=>PySem.W.InstAt h x ox C od) where
 ty:=λ_ _ _ I=>I.type
 it:=λ_ _ X _=>by
  unfold PySem.W.clsIn at y;split at y
  ·rename_i c a r p o;intro M L J H k q;unfold isType loadHead;show nW<|FN (k _ _<|X _ _ o)<|ou q
  ·cases y
 ne:=λh Y G D n B X l=>by
  refine Bool.eq_false_iff.mpr λq=>?_
  have e:C=Y:=Value.ref.inj<|sI.mp q;subst e;unfold PySem.W.clsIn at y;split at y
  ·rename_i c a r p o;have z:=(X _ _ o).symm.trans l;cases z
  ·cases y
 ca:=λ{prog w A E Q s} X I k=>by
  have U:PySem.W.findObj K C od "__class__"=some (.bind (.builtin "getset_descriptor.__get__")<|.builtin "object.__class__"):=by
   obtain⟨cd,N⟩:=Gu.mp y;unfold PySem.W.findObj;rw[N,Option.bind_some,i];simp[g,u]
  unfold getAttr? getAttrBy?;refine nW<|wpAny_mkText<|nW<|wpAny_attempt<|Lq (s:={s with toks:=s.toks+1}) X I j<|RE (s:={s with toks:=s.toks+1}) (v:=.none) X I j U ?_;show uU<|PySem.W.class_get (s:={s with toks:=s.toks+1}) (ox:=ox) (od:=od) X I d<|ou<|ou k
end
def Yh5(K:mK)(s:TE)(f:mF):TE:=λy H Q=>s y H λx w=>∃e C Y u fs v,x=.ref e/\w e=some (rE e C<|some u)/\w u=some (.xd fs)/\xh K C Y/\XA K C/\findIn K (.ref C) f=some none/\fs.lookup f=some v/\Q v w
def Ycj{w:mQ}{pos:Pos}{d:TE}(L:PE X w d)(G:attributeBase w f X.env (eval w X.env)=eval w X.env):PE X (.Attribute w f pos) (Yh5 X.K d f):=by
 intro E s y H Q I h;refine OS G<|oK (L E s y H _ I h) λu a D=>?_;obtain⟨x,U,p,B,e,C,Y,N,fs,v,A,hx,hd,c,xa,na,l,q⟩:=D;subst A;obtain rfl:u=Value.ref e:=B;obtain⟨o,x,ho,oc,od,j⟩:=rE.at p.hok hx;obtain⟨mA,n,r⟩:=(show Z9 X.prog X.w U a.heap N (.xd fs)from p.hok N _ hd)
 obtain⟨i,g,hl⟩:=Iz n;obtain⟨x,hu,M⟩:=qN.some_of (v:=v) (o:=mA f) (by rw[<-l];show r f);have J:PySem.W.InstAt a.heap e o C (some i):=#[ho,oc,by unfold PySem.W.notCls;rw[j],by rw[od];show g]
 show YV p.kIn J xa (Sx c.hd na rfl<|by rw[hl,hu]) (PV M) #[v,U,p.tok _,M,q]
end L2
end
section
namespace L2
open PySem PySem.Spec PyProof.Rows
section
variable {prog:mS} {w:mP} {A:mT} {E:mH->mI->Prop} {h:mO} {g:Array GenState} {d:Drawn} {tk:Nat} {os:OsState} {nm qn:mF} {C N:mG} {bs bm bmB:mD mH} {hdct:Bool} {sn:mD mF} {sub:mD mH} {ab:Bool} {col:mJ Bool} {dd:mJ mG} {k0 k1 k2 k3 k5:mJ mH} {B newId K5:String}
 {Zs:mD mH} {fI:mG} {oI:Obj}
def Zvr{Q:Fin->mI->Prop}(FB:ExcBaseFacts B newId K5 bmB)(T:OwnTail h bmB bm)(u:h.get? C=some (excClassObj nm qn C N bs bm hdct sn sub ab col dd k0 k1 k2 k3 k5 newId))(c:PySem.W.Looks (model prog w) h (typeLookup (.ref C) "__init__") (some<|.ref fI))
  (p:h.get? fI=some oI) (n:oI.cls=.type "function") (y:Zs.length<=sizeLine)
  (a:∀h' e,Heap.MadeExcOf h h' e (.ref C) Zs->wpAny (model prog w) A (call (.ref fI)<|.ref e ::Zs) (λr s'=>r=.none/\Q (.done<|.ret<|.ref e) s') E #[h',g,d,tk,os]) :
  wpAny (model prog w) A (Builtin.«type.__call__» #[.ref C ::Zs,[]]) Q E #[h,g,d,tk,os]:=by
 repeat (first|with_reducible refine wpAny_madeBy_exc u ?_ |with_reducible refine AW u ?_ |wp_step)
 refine codeAny_call_builtin_code (yW _ FB.quiet)<|wpAny_check_new_subT FB T u<|codeAny_exc_new_subT FB T u ?_ y;change wpAny _ _ _ _ _ _;generalize j:({cls:=.type "tuple",data:=.seq Zs.toArray}:Obj)=q;generalize l:({cls:=.ref C,data:=.fields (List.toArray [.ref h.objs.size,.none,.none,.none,.bool false,.none])}:Obj)=s;have keep:∀b o,h.get? b=some o->((h.push q).push s).get? b=some o:=λb o z=>oH _<|oH _ z
 have i:((h.push q).push s).get? (h.objs.size+1)=some s:=Heap.get?_push_at (by rw[uv]) (by rw[<-l];rfl);have Y:((h.push q).push s).get? h.objs.size=some q:=oH _ (pp h<|by rw[<-j];rfl);have U:=keep _ _ u;have M:s.cls=.ref C:=by rw[<-l]
 have same:(Value.ref C ::bm).contains (.ref C)=true:=by simp
 unfold isInstance
 repeat (first|(with_reducible refine AW i ?_;rw[M])|(with_reducible refine wpAny_isSubtype_exc U ?_;rw[same])|wp_step)
 change wpAny _ _ (typeLookup (.ref C) _) _ _ _;refine c A _ E _ keep<|rJ<|nW ?_;unfold bindSpecial;refine nW<|Bj (T :="function") #[_,keep _ _ p,n] ?_;rw[og (by lk)];refine ou<|nW<|qQ (a _ (h.objs.size+1) #[keep,At<|sF _,h.objs.size,by rw[i,l],At<|oq _,by rw[Y,j]]) (λr s' L=>?_) λ_ _ x=>x;obtain⟨rfl,J⟩:=L
 wp_walk
 show J
def XJ{Q:mH->mI->Prop}(FB:ExcBaseFacts B newId K5 bmB)(T:OwnTail h bmB bm)(x:h.get? C=some (excClassObj nm qn C N bs bm hdct sn sub ab col dd k0 k1 k2 k3 k5 newId))(q:PySem.W.Looks (model prog w) h (typeLookup (.ref C) "__init__") (some<|.ref fI))
  (u:h.get? fI=some oI) (s:oI.cls=.type "function") (y:Zs.length<=sizeLine)
  (p:∀h' e,Heap.MadeExcOf h h' e (.ref C) Zs->wpAny (model prog w) (A.under<|.builtin "type.__call__" #[.ref C ::Zs,[]]) (call (.ref fI)<|.ref e ::Zs) (λr s'=>r=.none/\Q (.ref e) s') E #[h',g,d,tk,os]) :
  wpAny (model prog w) A (call (.ref C) Zs) Q E #[h,g,d,tk,os]:=by
 have n:=tc_lookup;have l:=tc_bind<|.ref C;have j:(#[h,g,d,tk,os]:mI).TypeIs (.ref C) "type":=#[_,x,rfl]
 refine uU<|Gm ?_;change wpAny _ _ (callAny (.ref C) _) _ _ _
 repeat (any_goals (first|assumption|with_reducible refine AW x ?_ |wp_step))
 refine#[rfl,codeAny_call_builtin_at (yW _<|by left) entry_typeCall<|wpAny_check_type_call_sub x<|Zvr FB T x q u s y λh' e o=>p h' e o]
end
section
variable {E:mH->mI->Prop}
def SZ{w:mQ}{pos:Pos}{Q:Flow->mI->Prop}(o:bm.contains (.type "BaseException")=true)(n:A.handled=none)
  (h:wpAny M A (eval w env) (λv y=>∃e t r,v=.ref e/\y.heap.get? C=some (excClassObj nm qn C N bs bm hdct sn sub ab col dd k0 k1 k2 k3 k5 newId)/\y.heap.get? e=some (vG C t r)/\E (.ref e) y) E s) :
  wpAny M A (exec (.Raise (some w) none pos) env) Q E s:=by
 have u:(Value.ref C ::bm).contains (.type "BaseException")=true:=by rw[List.contains_cons,o];show Bool.or_true _
 change wpAny M A (do standAt pos;raiseStmt env (some (do let v <-eval w env;standAt pos;pure v)) none) Q E s;refine nW<|Bt ?_;unfold raiseStmt;dsimp only;refine nW<|nW<|qQ h (λv y ⟨e,t,r,l,q,p,j⟩=>nW<|Bt<|ou ?_) λ_ _ x=>x;subst l;unfold vG at p;obtain⟨x,g,d,tk,os⟩:=y
 repeat (first|with_reducible refine AW p ?_ |with_reducible refine AW q ?_ |(with_reducible refine wpAny_isSubtype_exc q ?_;rw[u])|wp_step)
 show wpAny_raiseNew_none n j
end
inductive xf(C:mG)(f:mF):Sp
 | mk (e t v):vs=[.ref e,v]->H e=some (qy e C t none)->(∀dx,H dx=none->dx≠e->Q .non (nO (nO H e<|qy e C t<|some dx) dx<|.xd [(f,v)]))->xf C f vs H Q E
structure XI(K:Frag)(C Y fI:Addr)(f:Str):Prop where
 cls:xh K C Y
 kp:keepIn K (.ref C)=true
 init:findIn K (.ref C) "__init__"=some (some<|.ref fI)
 fn:PySem.W.typeIn K (.ref fI)=some (.type "function")
 sa:findIn K (.ref C) "__setattr__"=some (some<|.builtin "object.__setattr__")
 xa:XA K C
 na:findIn K (.ref C) f=some none
def Ycs(C:mG)(f:mF)(E:XK)(t:TA):TS:=λ_ y H=>t y H λu w=>∃v,u=[v]/\∀x,w x=none->E (.ref C) (some x) (nO w x<|.xd [(f,v)])
section
variable {P:mS} {w:mP} {K:mK} {mg:mF->mJ mH} {nI:mO} {N:mD mF} {qual:mF} {scope:Scope} {f:mG} {cd:mH} {A:mT} {nG:mD Env} {mV:mI} {mX:Hp} {E:XK}
def BM{x u:mF}{C Y L:mG}{fd:mU}{ps:mD mF}{k:Nat}{fn:mF}{np g8 pos:Pos}{G:mQ}{Zs:mD mQ}{t:TA}(B:XI K C Y L fn)(OY:ED K mg u Y wN "ValueError.__new__")(Fn:Wz P w K mg nI pL k L fd ps (xf C fn))(hb:rj K fd ps [])
  (hr:Y2 (k+1) (pS (pU P w) P w K mg nI N qual scope f cd A nG mV mX E).A) (hg:Gl (pS (pU P w) P w K mg nI N qual scope f cd A nG mV mX E) x) (i:mg x=some (.ref C)) (ha:PA (pS (pU P w) P w K mg nI N qual scope f cd A nG mV mX E) (G ::Zs) t)
  (P4:(x ==("__debug__":mF))=false:=by lk) (he:starEach (G ::Zs) (pS (pU P w) P w K mg nI N qual scope f cd A nG mV mX E).env=(false,eval G (pS (pU P w) P w K mg nI N qual scope f cd A nG mV mX E).env) ::starEach Zs (pS (pU P w) P w K mg nI N qual scope f cd A nG mV mX E).env:=by rfl)
  (w5:(backTo g8<|starEach Zs (pS (pU P w) P w K mg nI N qual scope f cd A nG mV mX E).env).any (·.1)=false:=by rfl) :
  PS (pS (pU P w) P w K mg nI N qual scope f cd A nG mV mX E) (.Raise (some<|.Call (.Name x np) (G ::Zs) [] g8) none pos) (Ycs C fn E t):=by
 intro a9 s y H D I h;obtain⟨nm,qn,N',bs,sn,sub,ab,col,dd,k0,k1,k2,k3,k5,hK⟩:=B.cls;refine SZ (C:=C) (nm:=nm) (qn:=qn) (N:=N') (bs:=bs) (bm:=.ref Y ::wN) (hdct:=true) (sn:=sn) (sub:=sub) (ab:=ab) (col:=col) (dd:=dd) (k0:=k0) (k1:=k1) (k2:=k2) (k3:=k3) (k5:=k5) (newId :="ValueError.__new__") (by simp) (I.ok.hd rfl) ?_;refine uQ<|yF I hg i ?_ P4;refine AY (h₀:=nI) I.ok.mod.kin B.kp (oK (ha g8 a9 s y H _ I h) λp c ⟨d,g,j,r2,v,ev,hE⟩=>#[j.kIn,?_]) he w5;subst ev;obtain⟨r,rfl,ru⟩:=Wp r2;have hC:=j.kIn _ _ hK;obtain⟨tl,NY,wH,qY,Q,M,snY,p,abY,d,ddY,j0,j1,j2,j3,j5,mN,hY,hN,hni,_⟩:=(OY c.heap j.kIn).obj;have T:OwnTail c.heap wN (.ref Y ::wN):=.own hY hN hni .base;have LI:PySem.W.Looks (model P w) c.heap (typeLookup (.ref C) "__init__") (some<|.ref L):=Bq j.kIn B.init;have tf:c.TypeIs (.ref L) "function":=by
  obtain⟨o,ho,hc⟩:=oN.mp B.fn;show#[o,j.kIn _ _ ho,hc]
 obtain⟨oI,hoI,hcI⟩:=tf;obtain⟨p,Q,M,tk2,d⟩:=c;refine XJ wP T hC LI hoI hcI (by rw[uh];change 1<=16777216;decide) λh' e i=>?_
 obtain⟨l,heX,_,_⟩:=i.there;obtain⟨u6,J⟩:=j.laidAt (h':=h') (t':=tk2) (a:=e) (o:=qy e C l none) i.keeps i.new<|qy.ok heX;have hl:ps.length=2:=by
  have:=Fn.len [.ref e,v] (nO g e<|qy e C l none) (λq _=>True) E0 #[e,l,v,rfl,Zc,λ_ _ _=>trivial];show this.symm
 refine uU (uS (Fn.run _ (pS (pU P w) P w K mg nI N qual scope f cd A nG mV mX E).stack _ _ #[[.ref e,r],[]] [.ref e,r] [.ref e,v] (λq H3=>q=.non/\∃n,g n=none/\n≠e/\H3=nO (nO (nO g e<|qy e C l none) e<|qy e C l<|some n) n (.xd [(fn,v)])) E0
  (hr.make C [r] []) (J.env0.make C [r] []) (hb _ [.ref e,r] J.kIn (by rw[qM,hl];rfl)) (.cons rfl<|.cons ru .nil) #[e,l,v,rfl,Zc,λn hn hd=>#[rfl,n,by rw[Zd hd]at hn;show hn,hd,rfl]]) λq s' U=>?_)
 cases q with
 | error z=>show False.elim U
 | ok fl =>
  cases fl with
  | next=>show False.elim U
  | brk=>show False.elim U
  | cont=>show False.elim U
  | ret u' =>
   obtain⟨p,H3,os,Q,un,hok,rv,rfl,n,hn,hd,rfl⟩:=U;cases rv;have I3:=J.call' os un hok Q (λb z=>absurd z<|by simp);have q3:(nO (nO (nO g e<|qy e C l none) e<|qy e C l<|some n) n<|.xd [(fn,v)]) e=some (qy e C l<|some n):=by rw[Zd hd.symm,Zc]
   have M:=qy.at I3.hok q3;have I4:=I3.drop q3;have hH:zi (nO (nO (nO g e<|qy e C l none) e<|qy e C l<|some n) n<|.xd [(fn,v)]) e=nO g n (.xd [(fn,v)]):=by
    funext b
    by_cases u:b=e
    ·rw[u,Hj,Zd hd.symm,u6]
    ·rw[Cp u]
     by_cases z:b=n
     ·rw[z,Zc,Zc]
     ·rw[Zd z,Zd u,Zd u,Zd z]
   rw[hH]at I4;refine#[rfl,e,l,some n,rfl,?_,M,?_]
   ·show I3.kIn _ _ hK
   change wpAny _ _ (leaving _<|.ref e) _ _ s';have hin:∀env∈(envOfC qual scope #v[mV] f cd ::nG),∀b,env.frame=some b->b∈e ::pr (envOfC qual scope #v[mV] f cd ::nG):=λenv he b hb=>pV _<|EE.mpr #[env,he,hb]
   refine KN (nI:=PySem.W.hideAll s'.heap<|e ::pr (envOfC qual scope #v[mV] f cd ::nG)) I4.ok.frames (Kt I4.stack hin) rfl M (λb o p=>Cm _ p) (Qj _ pK) rfl rfl #[rfl,rfl] λh'' fl up=>?_
   refine GU I4 fl up (λb o p d h3=>Gx _ p λz=>?_)<|hE n hn;rcases oM.mp z with u|u
   ·subst u;rcases d with⟨p,d⟩|d
    ·obtain⟨o2,h4⟩:=j.nI.there b p d (by change b∉([]:mD mG);simp);have:=i.new;rw[h4]at this;cases this
    ·rw[Zd hd.symm]at d;show d u6
   ·show h3 u
end
section
variable {K:mK} {M:Model} {A:mT} {E:mH->mI->Prop} {s:mI} {e C B:mG} {o:Obj} {r:Bool}
def Zrm{Q:Bool->mI->Prop}(X:K.In s.heap)(x:s.heap.get? e=some o)(w:o.cls=.ref C)(kB:PySem.W.kitCls K (.ref B) (.type "BaseException")=some true)(u:PySem.W.kitCls K (.ref C) (.ref B)=some r)(y:Q r s) :
  wpAny M A (excMatches (.ref e)<|.ref B) Q E s:=by
 obtain⟨tB,q,p⟩:=PySem.W.kit_cls (M:=M) X u;obtain⟨_,_,n⟩:=PySem.W.kit_cls (M:=M) X kB;have l:PySem.W.Looks M s.heap (typeOf<|.ref e) (.ref C):=w ▸ (PySem.W.Looks.ld x).andThen .now;have f:=tc_notTuple;unfold excMatches isExcClass
 repeat (first|with_reducible refine l.here ?_ |with_reducible refine tB.here ?_ |with_reducible refine q.here ?_ |with_reducible refine p.here ?_ |with_reducible refine n.here ?_ |wp_step)
 cases r with
 | true=>repeat (first|show y|wp_step)
 | false=>repeat (first|show y|wp_step)
end
def qD.blur(D:qD)(n:Nat):qD:={nx:=λ_ H=>D.nx (List.replicate n none) H,rt:=D.rt,bk:=λ_ H=>D.bk (List.replicate n none) H,ct:=λ_ H=>D.ct (List.replicate n none) H}
variable {X:Cx}
def WS.tryAs{x n:mF}{B:mG}{i:Nat}{np Y pos:Pos}{body suite:mD mM}{U:mM}{D:qD}{Ex:XK}{R:mG->mJ mG->Hp->Prop}(hm:X.mg x=some (.ref B))(kB:PySem.W.kitCls X.K (.ref B) (.type "BaseException")=some true)(hg:Gl X x)(hN:X.N.Nodup)(hi:X.N[i]? =some n)(hlo:X.env.kindOf n=some .local)(hsc:X.env.scope.names.lookup n=some .local)
  (A4:X.stack=X.env ::X.nG) (hfm:X.env.frame=some X.env.locals) (hcm:X.calm=true) (Q7:X.ex=[]) (hE:∀cls G a,Ex cls G a->∃C,cls=.ref C/\PySem.W.kitCls X.K (.ref C) (.ref B)=some true/\R C G a)
  (hb:∀pn xe,ua (pU X.prog X.w) (X.tried pn xe) Ex->WSs (X.tried pn xe) body D y H) (hh:∀(j C:mG)(G:mJ mG)(l:St)(a:Hp),l.length=X.N.length->R C G a->a j=none->WSs (X.caught j) (U ::suite) (D.blur X.N.length) (l.set i<|some<|.ref j) (nO a j<|rE j C G)) (hd:(x ==("__debug__":mF))=false:=by lk) :
  WS X (.Try body [.ExceptHandler (some<|.Name x np) (some n) (U ::suite) Y] [] [] pos) D y H:=by
 refine#[λE s I=>?_];refine wpAny_Try_except ?_;have pass:ua (pU X.prog X.w) (X.tried (X.pn++E) λe mW=>∅ (noteFrame e X.env) (λ_ w=>∅ (setFlight e none) (λ_ ng=>∅ (handleBy e X.env [.ExceptHandler (some<|.Name x np) (some n) (U ::suite) Y]) (SP X E D) X.xe ng) X.xe w) X.xe mW) Ex:=by
  intro D3 l H1 s1 e s2 I1 hc;obtain⟨j,cls,G,H2,rfl,os,A,un,hok,⟨a0,B0,fl,pB⟩,hEx⟩:=hc;obtain⟨C,rfl,kC,hR⟩:=hE _ _ _ hEx;have IX:nM X E l H1 s1:=I1.tryOut;have I2:nM X E l H2 s2:=IX.call' os un hok A (λb z=>absurd z<|by simp);have fr:∀b∈pr X.stack,H2 b=none/\∃o,s2.heap.get? b=some o/\∀vs,o.data≠.fields vs:=λb hb=>#[I2.stkFree b hb,(I2.stack.mem hb).2]
  have step:∀h',B0.StaysIn h'->s2.heap.UpToSlots h'->nM X E l H2 {s2 with heap:=h'}:=λh' st up =>
   let⟨u,k⟩:=Yhh un hok fr st up pB
   IX.call' (s':={s2 with heap:=h'}) os u k A (λb z=>absurd z<|by simp)
  have new:∀b o,s1.heap.get? b=some o->b≠j:=λb o q z=>by
   subst z;obtain⟨ob,C3,_,_,vs,C4⟩:=fl.there
   by_cases hf:b∈pr X.stack
   ·obtain⟨_,c,w,p⟩:=fr b hf;rw[C3]at w;cases w;show p vs C4
   ·have:=pB b ob C3 (.inl #[o,q]) hf;rw[fl.2.1]at this;cases this
  have non:H2 j=none:=by
   cases q:H2 j with
   | none=>rfl
   | some u =>
    obtain⟨ob,C3,_⟩:=fl.there;have:=pB j ob C3 (.inr (by rw[q];show BQ _)) (λz=>by have:=(fr j z).1;rw[q]at this;cases this);rw[fl.2.1]at this;cases this
  have fl:qR B0 (X.env ::X.nG) j (.ref C) a0 G .none s2.heap:=by rw[<-A4];show fl
  have A3:X.A.frames=some (X.env ::X.nG):=by rw[<-A4];show I2.ok.frames
  change ∅ (noteFrame (.ref j) X.env) _ _ s2;refine Kv A3 hfm fl λh₄ N sm₄=>DD (s:={s2 with heap:=h₄}) N λnk g sm₅=>?_
  have sm25:s2.heap.UpToSlots nk:=sm₄.trans sm₅;have I5:=(step nk g.1 sm25).catch j;refine wpAny_handleBy_cons (codeAny_handlers_test<|yF I5 hg hm ?_ hd) (by intro q;cases q);obtain⟨ob,C3,hobc,_⟩:=g.there;refine Zrm I5.kIn C3 hobc kB kC<|codeAny_handlers_suite_as ?_;refine DD (s:={s2 with heap:=nk}) g λM d sm₆=>?_
  have I6:=step M d.1<|sm25.trans sm₆;obtain⟨w,ho6,oc6,od6,vs6,ov6⟩:=d.there;have oc2:vs6[2]? =some .none:=by
   obtain⟨ob,vs,q1,q2,q3⟩:=d.ctx;rw[ho6]at q1;cases q1;rw[ov6]at q2;cases q2;show q3
  have I7:nM X E l (nO H2 j<|rE j C G) {s2 with heap:=M}:=I6.track non
   (by
    cases q:X.mV.heap.get? j with
    | none=>rfl
    | some o =>
     obtain⟨w,q'⟩:=IX.nI.there j o q (by rw[Q7];simp);show absurd rfl<|new j w q')
   (λz=>by
    obtain⟨m,⟨o,_,_,q,_⟩,_⟩:=IX.loc;show new _ o q z.symm)
   (λw c q=>by
    obtain⟨v,o,q',_⟩:=IX.cell w c q;show new c o q')
   (λp q=>new p.1 p.2 (IX.pin p q).1) (rE.ok ho6 oc6 od6 ov6 oc2)
  refine Gg (X:=X.caught j) (s:={s2 with heap:=M}) (I7.catch j) hN hi (.inl hsc) (v:=.ref j) rfl (λw I8=>?_)<|.inr hsc;refine qQ ((hh j C G l H2 IX.len hR non).run E _ I8) (λf ng q=>?_) λ_ _ z=>False.elim z
  have hX:=I.ok.hd hcm;have AI:∀{h:St}{L:Hp}{s3:mI}{Q:Unit->mI->Prop},nM (X.caught j) E h L s3->(∀s4,nM X E (List.replicate X.N.length none) L s4->Q () s4)->∅ (do bindName X.env n .none;unbindBehindTheSuite X.env n Y) Q X.xe s3:=by
   intro h L s3 Q J k;obtain⟨m,hn,_⟩:=J.loc;refine wpAny_nameGoes hlo hn (by rw[J.ok.kind];rfl) λh' m' hn' F7=>k _ ?_
   show(J.uncatch hX).forget hn' F7
  cases f with
  | next=>obtain⟨h,L,J,q⟩:=q;show AI J λs4 J4=>#[_,L,J4,q]
  | brk=>obtain⟨h,L,J,q⟩:=q;show AI J λs4 J4=>#[_,L,J4,q]
  | cont=>obtain⟨h,L,J,q⟩:=q;show AI J λs4 J4=>#[_,L,J4,q]
  | ret u=>obtain⟨v,h,L,J,r,q⟩:=q;show AI J λs4 J4=>#[v,_,L,J4,r,q]
 refine qQ ((hb _ _ pass).run [] s (I.tryIn _)) (λf mW q=>?_) λe mW z=>z
 cases f with
 | next =>
  obtain⟨l,a,J,q⟩:=q;show Cj #[l,a,J.tryOut,q]
 | brk=>obtain⟨l,a,J,q⟩:=q;show#[l,a,J.tryOut,q]
 | cont=>obtain⟨l,a,J,q⟩:=q;show#[l,a,J.tryOut,q]
 | ret u=>obtain⟨v,l,a,J,r,q⟩:=q;show#[v,l,a,J.tryOut,r,q]
structure XG(K:Frag)(C:Addr):Prop where
 xa:XA K C
 hc:(PySem.W.clsIn K C).isSome=true
 cl:findIn K (.ref C) "__class__"=some (some<|.builtin "object.__class__")
 cg:PySem.W.specialIn K (.builtin "object.__class__") "__get__"=some (some<|.builtin "getset_descriptor.__get__")
 ct:PySem.W.takesIn K (.builtin "object.__class__")=some true
 ob:PySem.W.mroIn K C (.type "object")=some true
def TC(K:mK):mD V->Hp->VK->Prop:=λw H Q=>∃e C y fs c b,w=[.ref e,c]/\H e=some (rE e C<|some y)/\H y=some (.xd fs)/\XG K C/\((∃n,c=.ty n/\kitOne K (.ref C) (.type n)=some b)\/(∃a,c=.ref a/\kitOne K (.ref C) (.ref a)=some b)\/
 ∃(a:mG)(x:mD mG),c=.ref a/\H a=some (.tup<|x.map V.ref)/\PySem.W.kitAny K (.ref C) (x.map Value.ref)=some b)/\Q (.bl b) H
theorem xv:∀{y:mD mG}{x:mD mH},Z8 (y.map V.ref) x->x=y.map Value.ref
 | [],_,.nil=>rfl
 | c ::y,_,.cons r t=>by
  rw[xv t];cases r
  rfl
def Zx8{X:Cx}:Y7 X (.builtin "isinstance") (TC X.K):=by
 intro a9 s y H xs us Q I r h;obtain⟨e,C,i,fs,c,b,rfl,Y,U,g,k,q⟩:=h;obtain⟨u,x,rfl,N,p⟩:=xk r;obtain rfl:u=Value.ref e:=N;obtain⟨o,x,M,L,G,l⟩:=rE.at I.hok Y;obtain⟨x,n,_⟩:=(show Z9 X.prog X.w H s.heap i (.xd fs)from I.hok i _ U)
 obtain⟨w,j,_⟩:=Iz n;have J:PySem.W.InstAt s.heap e o C (some w):=#[M,L,by unfold PySem.W.notCls;rw[l],by rw[G];show j]
 have Z:PySem.W.KitX X.K (.ref e) (.ref C) (λh=>PySem.W.InstAt h e o C<|some w):=MH g.xa g.hc g.cl g.cg g.ct g.ob;rcases k with⟨x,rfl,k⟩|⟨a,rfl,k⟩|⟨a,E,rfl,D,k⟩
 ·cases p;show sK Z I.kIn J k (λz=>nomatch z) λtk=>#[.bl b,H,I.tok tk,rfl,q]
 ·cases p;show sK Z I.kIn J k (λz=>nomatch z) λtk=>#[.bl b,H,I.tok tk,rfl,q]
 ·cases p;obtain⟨_,b9,c,B,A,d,n2,x⟩:=(show Z9 X.prog X.w H s.heap a (.tup<|E.map V.ref)from I.hok a _ D)
  rw[xv c]at x;obtain⟨c1,c2,c3,c4⟩:=B;dsimp only at d x;subst d x;show PySem.W.kia_tup Z I.kIn J A k (λz=>nomatch z) λtk=>#[.bl b,H,I.tok tk,rfl,q]
def Zrx:typeLookup (.type "list") "keys"=pure none:=by rw[typeLookup_type,builtinLookup_eq_fast];kernel_rfl
def XZ:typeLookup (.type "list") "__getattr__"=pure none:=by rw[typeLookup_type,builtinLookup_eq_fast];kernel_rfl
def Gh:isSubtype (.type "AttributeError") (.type "AttributeError")=pure true:=by rw[isSubtype_type];kernel_rfl
section
variable {prog:mS} {w:mP} {A:mT} {E:mH->mI->Prop} {h:mO} {g:Array GenState} {d:Drawn} {t:Nat} {os:OsState} {a:mG} {vs:Array mH} {n:Nat}
def Ycg{y:Type}{Q:y->mI->Prop}(i:A.handled=none)(N:msg.length<=sizeLine)
  (c:∀h' e Y,(∀b u,h.get? b=some u->h'.get? b=some u)->(∃o,h'.get? e=some o/\o.cls=.type "AttributeError")->E (.ref e) #[h',g,d,Y,os]) :
  wpAny (model prog w) A (raiseAttrError (.ref a) "keys" msg:Sem y) Q E #[h,g,d,t,os]:=by
 have M:=Gh;have q:¬msg.length >sizeLine:=by lia
 unfold raiseAttrError newExc
 repeat (any_goals (first|assumption|rw[nY q]|wp_step))
 generalize s:({cls:=Value.type "AttributeError",data:=Data.fields ((List.toArray [Value.ref h.objs.size,Value.none,Value.none,Value.none,Value.bool false,if((Manifest.find? "AttributeError").elim false λt=>t.mro.contains "StopIteration"|| t.mro.contains "SystemExit")=true then[Value.str msg t].headD Value.none else Value.none])++ownMembersOf (Value.type "AttributeError") [Value.str msg t])}:Obj)=r;have p:r.cls=.type "AttributeError":=by rw[<-s]
 have x:∃l,r.data=.fields l:=#[_,by rw[<-s]]
 obtain⟨l,x⟩:=x;have U:((h.push {cls:=Value.type "tuple",data:=Data.seq (List.toArray [Value.str msg t])}).push r).get? (h.push {cls:=Value.type "tuple",data:=Data.seq (List.toArray [Value.str msg t])}).objs.size=some r:=pp _<|Cw x;refine wpAny_raiseNew_none i<|c _ _ _ (λb u j=>?_) #[_,CN _ U<|Cw<|Cq x _,by rw[Obj.cls_mapFields];show p];rw[uM _ _ (by rw[uv];show wV<|AL<|oJ j)];show oH _<|oH _ j
def Zui{Q:Fin->mI->Prop}(x:A.handled=none)(s:h.get? a=some {cls:=.type "list",data:=.seq vs n})
  (r:∀h' e q,(∀b u,h.get? b=some u->h'.get? b=some u)->(∃y,h'.get? e=some y/\y.cls=.type "AttributeError")->E (.ref e) #[h',g,d,q,os]) :
  wpAny (model prog w) A (Builtin.«object.__getattribute__» #[[.ref a,.str "keys" tk],[]]) Q E #[h,g,d,t,os]:=by
 have p:(#[h,g,d,t,os]:mI).TypeIs (.ref a) "list":=#[_,s,rfl]
 have o:=Zrx;have l:=Gh
 repeat (any_goals (first|assumption|wp_step))
 show Ycg x (by left) r
def JY{Q:mJ mH->mI->Prop}(s:A.handled=none)(x:h.get? a=some {cls:=.type "list",data:=.seq vs n})
  (r:∀h' y,(∀b u,h.get? b=some u->h'.get? b=some u)->Q none #[h',g,d,y,os]):wpAny (model prog w) A (getAttr? (.ref a) "keys") Q E #[h,g,d,t,os]:=by
 have i:(#[h,g,d,t,os]:mI).TypeIs (.ref a) "list":=#[_,x,rfl]
 have c:=Dz.lookup;have Y:=Dz.bind<|.ref a;have U:=Gh;have N:=XZ;unfold getAttr? getAttrBy?
 repeat (any_goals (first|assumption|wp_step))
 refine AC Dz.plain F.entry_list_ga<|Dz.check _ _ _ _ _ _ _ _ (show(#[h,g,d,t+1,os]:mI).TypeIs (.ref a) "list" from#[_,x,rfl]) (F.args_list_getattribute_2 _ _)<|Zui s x λh' e y q ⟨M,p,o⟩=>?_;have l:(#[h',g,d,y,os]:mI).TypeIs (.ref e) "AttributeError":=#[_,p,o]
 have j:=r h' y q;unfold getattributeRaised
 repeat (any_goals (first|assumption|wp_step))
 all_goals trace_state
end
def JA:entryFor table "dict.update.loop"=some Builtin.«dict.update.loop» :=entryFor_of_tree (by kernel_rfl)
section
variable {prog:mS} {w:mP} {A:mT} {R:Result->mI->Prop} {l d it:mG} {tps:mD mG} {h₀:mO} {Pd:Nat->mO->Prop}
def FX(prog:mS)(w:mP)(A:mT)(d:mG)(h:mO)(Pd:Nat->mO->Prop)(tps:mD mG):Prop:=∀i p,tps[i]? =some p->∃key v o n,h.get? p=some o/\o.cls=.type "tuple"/\o.data=.seq (List.toArray [key,v]) n/\∀args (s:mI) (Q:Unit->mI->Prop) E,Pd i s.heap->(∀y tk,Pd (i+1) y->Heap.SameBut d s.heap y->Q () {s with heap:=y,toks:=tk})->wpAny (model prog w) (A.under<|.builtin "dict.update.loop" args) (dictSet d key v) Q E s
def Om(hh:A.handled=none)(q:d≠it)(hl:h₀.IsList l (tps.map Value.ref).toArray)(Y:l≠d)(U:l≠it)(hp:FX prog w A d h₀ Pd tps)(J:∀p∈tps,p≠d/\p≠it)
  (mv:∀i h h',Pd i h->(∀o,h.get? d=some o->h'.get? d=some o)->(∀b o,b≠d->b≠it->h₀.get? b=some o->h'.get? b=some o)->Pd i h') :
  ∀(n i:Nat)(s:mI)(j:Int)(tk:Tok),i+n=tps.length->s.heap.IsListIter it l i->Pd i s.heap->(∀b o,b≠d->b≠it->h₀.get? b=some o->s.heap.get? b=some o)->
   (∀h' I,Pd tps.length h'->(∀b o,b≠d->b≠it->h₀.get? b=some o->h'.get? b=some o)->R (.ok<|.ret .none) {s with heap:=h',toks:=I})->
   codeAny (model prog w) A (.builtin "dict.update.loop" #[[.ref d,.ref it,.int j tk,.none],[]]) R s:=by
 intro n
 induction n with
 | zero =>
  intro i s j tk hi g H keep G;have E:s.heap.IsList l (tps.map Value.ref).toArray:=by
   obtain⟨o,e,r⟩:=hl;show#[o,keep _ _ Y U e,r]
  refine zF JA ?_;unfold Builtin.«dict.update.loop»;dsimp only;refine nW<|wpAny_pyNext_list_end hh g E (by rw[OG,oF,vP<|by lia];rfl) λh' y=>?_;dsimp only;have u:∀b o,b≠d->b≠it->h₀.get? b=some o->h'.get? b=some o:=λb o c L a=>y b o L<|keep b o c L a
  obtain rfl:i=tps.length:=hi;show nW (ou<|ou<|G h' s.toks (mv _ _ _ H (λo e=>y d o q e) u) u)
 | succ n ih =>
  intro i s j tk hi g H keep G;have E:s.heap.IsList l (tps.map Value.ref).toArray:=by
   obtain⟨o,e,r⟩:=hl;show#[o,keep _ _ Y U e,r]
  have y:i<tps.length:=by lia
  obtain⟨key,v,ot,nt,F4,D,E1,Q⟩:=hp i tps[i] (pJ y);obtain⟨nd,ni⟩:=J tps[i] (List.getElem_mem y);refine zF JA ?_;unfold Builtin.«dict.update.loop»;dsimp only;refine nW<|wpAny_pyNext_list_item g E (x:=.ref tps[i]) (by rw[OG,oF,pJ y];rfl) λc C a=>?_;have u:c.get? tps[i]=some ot:=by rw[a.2 _ ni];show keep _ _ nd ni F4
  have hT:({s with heap:=c}:mI).TypeIs (.ref tps[i]) "tuple":=#[_,u,D]
  have N:∀b o,b≠d->b≠it->h₀.get? b=some o->c.get? b=some o:=λb o z1 z2 z3=>by rw[a.2 _ z2];show keep b o z1 z2 z3
  refine nW<|rJ<|nW<|wpAny_tryCatch ?_;unfold Builtin.Dict.pairItems;refine nW<|Bj hT ?_;rw[og (by lk)];refine nW<|wpAny_seqItems (s:={s with heap:=c}) u E1<|ou ?_;refine rJ<|Q _ {s with heap:=c} _ _ (mv _ _ _ H (λo e=>by rw[a.2 _ q];show e) N) λL B y8 M=>ou #[yW _ (by left),?_];refine ih (i+1) {s with heap:=L,toks:=B} (j+1) _ (by lia) ?_ y8 (λb o n1 n2 z=>?_) λh' I=>G h' I
  ·show C.at λo z=>by rw[M.2 _ q.symm];show z
  ·rw[M.2 _ n1];show N b o n1 n2 z
def Nc{Q:mH->mI->Prop}{E:mH->mI->Prop}(L:A.handled=none)(Y:s.heap.get? l=some {cls:=.type "list",data:=.seq (tps.map Value.ref).toArray n})(J:FX prog w A.in1 #v[s] s.heap Pd tps)(new:Pd 0 (s.heap.push {cls:=.type "dict",data:=.dict #[]}))
  (I:∀i h h',Pd i h->(∀o,h.get? #v[s]=some o->h'.get? #v[s]=some o)->(∀b o,s.heap.get? b=some o->h'.get? b=some o)->Pd i h')
  (h:∀h' N dd,dd=#v[s]->Pd tps.length h'->s.heap.get? dd=none->(∀b o,s.heap.get? b=some o->h'.get? b=some o)->Q (.ref dd) {s with heap:=h',toks:=N}) :
  wpAny (model prog w) A (call (.type "dict") [.ref l]) Q E s:=by
 refine callType_codes (Q₁:=λobj H=>obj=.ref #v[s]/\H={s with heap:=s.heap.push {cls:=.type "dict",data:=.dict #[]}}) F.kt_called_dict (F.kt_typeCall_dict_1 _) F.entry_dict_init (kt_code_dict_new _ #[rfl,rfl]) ?_;rintro obj H ⟨rfl,rfl⟩;have u:(s.heap.push {cls:=.type "dict",data:=.dict #[]}).get? l=some {cls:=.type "list",data:=.seq (tps.map Value.ref).toArray n}:=oH _ Y;have G:({s with heap:=s.heap.push {cls:=.type "dict",data:=.dict #[]}}:mI).TypeIs (.ref #v[s]) "dict":=#[_,pp _ rfl,rfl]
 refine#[G,F.args_dict_init_2 _ _,?_];unfold Builtin.«dict.__init__»;refine nW ?_;unfold Builtin.Dict.selfAndRest;refine nW<|Gc G ?_;change wpAny _ _ (pure (#v[s],[Value.ref l])) _ _ _;refine ou ?_;change wpAny _ _ (Builtin.Dict.updateFrom "dict.__init__" #v[s] (.ref l) [] .none) _ _ _;unfold Builtin.Dict.updateFrom;refine nW<|Bj (T :="list") #[_,u,rfl] ?_;rw[og (by lk)];obtain⟨q,D,C,x,j⟩:=s;dsimp only at *;refine nW<|JY L u λy B U=>?_;simp only[FH,tY];have T7:y.IsList l (tps.map Value.ref).toArray:=#[_,U _ _ u,rfl,n,rfl]
 refine nW<|vm<|nW<|yH (s:=#[y,D,C,B,j]) T7<|ou #[yW _ (by left),?_];have g:∀b o,q.get? b=some o->(y.push {cls:=.type "list_iterator",data:=.fields (List.toArray [.ref l,.int 0 0])}).get? b=some o:=λb o z=>oH _<|U _ _<|oH _ z
 have V5:q.objs.size<y.objs.size:=oJ<|U _ _<|pp q rfl;have r:∀{c o},q.get? c=some o->c≠q.objs.size/\c≠y.objs.size:=λz=>by
  have:=oJ z;show#[oQ this,oQ<|vd this V5]
 refine Om (A:=A.in1) (Pd:=Pd) (h₀:=y.push {cls:=.type "list_iterator",data:=.fields (List.toArray [.ref l,.int 0 0])}) (l:=l) (tps:=tps) L (oQ V5) #[_,g _ _ Y,rfl,n,rfl] (r Y).1 (r Y).2 (λi p e=>?_) (λp z=>?_) (λi h h' a b c=>I i h h' a b λx o z=>c x o (r z).1 (r z).2 (g x o z)) tps.length 0 #[y.push {cls:=.type "list_iterator",data:=.fields (List.toArray [.ref l,.int 0 0])},D,C,B,j] 0 0 (GC _) #[_,pp y rfl,rfl,rfl] (I _ _ _ new (λo z=>oH _<|U _ _ z) g) (λ_ _ _ _ z=>z) λh' N hD kp=>#[rfl,h h' N _ rfl hD (At<|oq _) λb o z=>kp b o (r z).1 (r z).2 (g b o z)]
 ·obtain⟨key,v,o,m,M,x⟩:=J i p e;show#[key,v,o,m,g _ _ M,x]
 ·obtain⟨i,e⟩:=Kj.mp z;obtain⟨_,_,_,_,M,_⟩:=J i p e;show r M
end
section
variable {prog:mS} {w:mP} {KT:Type} [DecidableEq KT] {knd:KeyKind prog w KT} {A:mT} {R:Result->mI->Prop} {l d it:mG} {tps:mD mG} {A6 D0:mD (KT×mH)} {h₀:mO}
def xJ(knd:KeyKind prog w KT)(h:mO)(tps:mD mG)(A6:mD (KT×mH)):Prop:=Paired (λp (q:KT×mH)=>∃key o n,knd.is q.1 key=true/\h.get? p=some o/\o.cls=.type "tuple"/\o.data=.seq (List.toArray [key,q.2]) n) tps A6
def QI{h h':mO}{y:mD (KT×mH)}(x:h.DictOf knd d y)(hd:∀o,h.get? d=some o->h'.get? d=some o):h'.DictOf knd d y:=by
 obtain⟨o,u,s,q,r⟩:=x;show#[o,u,s,hd o q,r]
def xJ.puts(o:xJ knd h₀ tps A6)(hsz:D0.length+A6.length<=sizeLine):FX prog w A d h₀ (λi h=>h.DictOf knd d<|merged D0<|A6.take i) tps:=λi p e=>by
 obtain⟨q,y,key,n,j,g,c,x,a⟩:=Paired.get o e;refine#[key,q.2,n,j,c,x,a,λargs s Q E Y U=>wpAny_dictSet_pairs g Y (λr N u=>U r _ ?_ u) ?_]
 ·change r.DictOf knd d (merged D0<|A6.take<|i+1);rw[merged_take_succ D0 A6 i q y];show N
 ·have:=merged_length_le (K:=KT) D0<|A6.take i;rw[oZ]at this;lia
def Uc{Q:mH->mI->Prop}{E:mH->mI->Prop}(r:A.handled=none)(q:s.heap.get? l=some {cls:=.type "list",data:=.seq (tps.map Value.ref).toArray n})(x:xJ knd s.heap tps A6)(hsz:A6.length<=sizeLine)
  (h:∀h' y dd,h'.DictOf knd dd (merged [] A6)->dd=#v[s]->s.heap.get? dd=none->(∀b o,s.heap.get? b=some o->h'.get? b=some o)->Q (.ref dd) {s with heap:=h',toks:=y}) :
  wpAny (model prog w) A (call (.type "dict") [.ref l]) Q E s:=by
 refine Nc r q (x.puts (D0:=[])<|by simpa using hsz) (Heap.DictOf.new s.heap) (λi h h' a b _=>QI a b) λh' y dd e u=>?_
 subst e;rw[show A6.take tps.length=A6 from tX (by rw[oz x];show oq _)]at u;show h h' y _ u rfl
end
def Dr:mD V->Hp->VK->Prop:=λw H Q=>∃(l:mG)(x:mD mG)(y:mD (om×V)),w=[.ref l]/\H l=some (.lst<|x.map V.ref)/\Paired (λt (q:om×V)=>H t=some (.tup [kV q.1,q.2])) x y/\(y.map fst).Nodup/\qv H (.dK y) Q
def Js(D:X.calm=true):Y7 X (.type "dict") Dr:=by
 intro a9 s y H xs us Q I r h;obtain⟨l,w,x,rfl,C,i,B,q⟩:=h;obtain⟨u,rfl,A⟩:=Wp r;cases A;obtain⟨hz,b9,n,g,M⟩:=(show Z9 X.prog X.w H s.heap l (.lst<|w.map V.ref)from I.hok l _ C)
 rw[xv g]at M;have key:∀{w:mD mG}{x:mD (om×V)},Paired (λt (q:om×V)=>H t=some (.tup [kV q.1,q.2])) w x->∃j:mD (om×mH),KV x j/\xJ (Zz X.prog X.w) s.heap w j:=by
  intro w x i
  induction i with
  | nil=>show#[[],.nil,.nil]
  | cons r t e =>
   rename_i p q _ _;obtain⟨j,h1,h2⟩:=e;obtain⟨_,b9,g,o,ho,z8,m,hd⟩:=(show Z9 X.prog X.w H s.heap p (.tup [kV q.1,q.2])from I.hok p _ r)
   obtain⟨k,v,rfl,rk,d⟩:=xk g;show#[(q.1,v) ::j,.cons #[rfl,d] h1,.cons #[k,o,m,uG rk,ho,z8,hd] h2]
 obtain⟨j,c,T6⟩:=key i;have L:x.length<=sizeLine:=by
  have:=oz i;rw[nQ]at hz;lia
 have M3:(j.map fst).Nodup:=by
  have:∀{x:mD (om×V)}{j:mD (om×mH)},KV x j->j.map fst=x.map fst:=by
   intro x j z
   induction z with
   | nil=>rfl
   | cons r t e=>rw[oR,oR,e,r.1]
  rw[this c];show B
 refine Uc (I.ok.hd D) M T6 (by rw[<-KV.length c];show L) λh' A7 a G Y U k=>?_
 rw[merged_nil_of_nodup j M3]at G;have N:a≠sysModules:=λz=>by
  have E:=I.big;rw[<-Y,z]at E;show sr _ E
 obtain⟨hH,J⟩:=I.laidAt (t':=A7) (o:=.dK x) k U<|xE L (uc.mpr N) c G;show#[.ref a,_,J,rfl,q.at a hH]
def ZS:bootBuiltins "ValueError"=some (.type "ValueError"):=by left
def Fj{fr:St->St}(Pv:Nat->mD V->Hp->Prop)(l:Pv 0 [] (nO j D<|.lst []))(r:∀i w H,i<=kvs.length->Pv i w H->H d=some (.frz o<|.dK kvs))
  (h:∀i kv w H,kvs[i]? =some kv->Pv i w H->∀p u,nH H u->H p=none->u p=some (.tup [kV kv.1,kv.2])->ro fr g c Y y D (.ref p) w u (Pv<|i+1)) (hd:∀w H,Pv kvs.length w H->Q (.ref D) H):sj (Cy d o kvs) fr g c Y Q y j D:=Xx Pv l (λs H p=>#[r _ s H (oq _) p,oq _]) (λi s H q p=>#[#[r i s H (qm q) p,q],λx M ⟨a,kv,e,n,U,N⟩=>by subst e N;show h i kv s H U p a _ (nH.new n) n Zc]) hd
def Zvk{K:mK}{t c:mH}{b:Bool}(h:kitOne K t c=some b)(n:(t ==c)=false):PySem.W.kitCls K t c=some b:=by
 unfold kitOne at h;rw[nY (by rw[n];show pi)]at h;show h
section
variable {prog:mS} {w:mP} {KT:Type} [DecidableEq KT] {knd:KeyKind prog w KT} {A:mT} {l d:mG} {tps:mD mG} {A6 D0:mD (KT×mH)} {s:mI} {Q:mH->mI->Prop} {E:mH->mI->Prop} {n:Nat}
def Vm(G:A.handled=none)(e:s.heap.DictOf knd d D0)(x:s.heap.get? l=some {cls:=.type "list",data:=.seq (tps.map Value.ref).toArray n})(c:xJ knd s.heap tps A6)(hsz:D0.length+A6.length<=sizeLine)(Y:l≠d)(U:∀p∈tps,p≠d)
  (h:∀h' N,h'.DictOf knd d (merged D0 A6)->(∀b o,b≠d->s.heap.get? b=some o->h'.get? b=some o)->Q .none {s with heap:=h',toks:=N}):wpAny (model prog w) A (call (.builtin "dict.update") [.ref d,.ref l]) Q E s:=by
 refine uU<|AC FF.plain F.entry_dict_update<|FF.check _ _ _ _ _ _ _ _ e.typeIs (F.args_dict_update_2 _ _) ?_;unfold Builtin.«dict.update»;refine nW ?_;unfold Builtin.Dict.selfAndRest;refine nW<|Gc e.typeIs ?_;change wpAny _ _ (pure (d,[Value.ref l])) _ _ _;refine ou ?_;change wpAny _ _ (Builtin.Dict.updateFrom "dict.update" d (.ref l) [] .none) _ _ _;unfold Builtin.Dict.updateFrom;refine nW<|Bj (T :="list") #[_,x,rfl] ?_;rw[og (by lk)];obtain⟨D,C,B,a,u⟩:=s;dsimp only at *;refine nW<|JY G x λy R8 M=>?_;simp only[FH,tY];have L:=M _ _ x;have T7:y.IsList l (tps.map Value.ref).toArray:=#[_,L,rfl,n,rfl]
 refine nW<|vm<|nW<|yH (s:=#[y,C,B,R8,u]) T7<|ou #[yW _ (by left),?_];have j:∀b o,D.get? b=some o->(y.push {cls:=.type "list_iterator",data:=.fields (List.toArray [.ref l,.int 0 0])}).get? b=some o:=λb o z=>oH _<|M _ _ z
 obtain⟨od,J,I,r,rd⟩:=e;have g:∀b o,D.get? b=some o->b≠y.objs.size:=λb o z=>oQ<|oJ<|M b o z
 refine Om (A:=A) (h₀:=y.push {cls:=.type "list_iterator",data:=.fields (List.toArray [.ref l,.int 0 0])}) (l:=l) (d:=d) (it:=y.objs.size) (tps:=tps) G (g _ _ r) #[_,j _ _ x,rfl,n,rfl] Y (g _ _ x) (xJ.puts (Paired.mapP c λp q ⟨key,o,m,a,H,z3⟩=>#[key,o,m,a,j _ _ H,z3]) hsz) (λp z=>?_) (λi h h' a b _=>QI a b) tps.length 0 #[y.push {cls:=.type "list_iterator",data:=.fields (List.toArray [.ref l,.int 0 0])},C,B,R8,u] 0 _ (GC _) #[_,pp y rfl,rfl,rfl] #[od,J,I,j _ _ r,rd] (λb o _ _ z=>z) λh' N z7 kp=>h h' N ?_ λb o n1 z=>kp b o n1 (g _ _ z)<|j b o z
 ·obtain⟨i,a,rfl⟩:=Ca z;obtain⟨q,_,key,o,m,_,H,_⟩:=Paired.get c (i:=i) (a:=tps[i])<|pJ a;show#[U _ z,g _ _ H]
 ·rw[show A6.take tps.length=A6 from tX (by rw[oz c];show oq _)]at z7;show z7
end
def Yjo(o n:TE):TE:=λy H Q=>o y H λx p=>∃a,x=.ref a/\AV p a/\n y p λw r=>∃(l:mG)(s:mD mG)(u more:mD (om×V)),w=.ref l/\r a=some (.dK u)/\r l=some (.lst<|s.map V.ref)/\Paired (λt (q:om×V)=>r t=some (.tup [kV q.1,q.2])) s more/\u.length+more.length<=sizeLine/\Q .non (nO r a<|.dK<|zI u more)
section
variable {o e:mQ} {m6 g8:Pos} {td ty:TE}
def Ych(hc:X.calm=true)(M:PE X o td)(he:PE X e ty)(m:M1 X o "update" m6 e g8):PE X (.Call (.Attribute o "update" m6) [e] [] g8) (Yjo td ty):=by
 intro a9 s y H Q I h;refine DM m.nI m.few m.line ww FF PySem.F.type_dict_update<|oK (M a9 s y H _ I h) λu s1 L=>?_;obtain⟨x,H1,I1,rx,a,ex,d,q1⟩:=L;subst ex;obtain rfl:u=Value.ref a:=rx;obtain⟨t1,t2,_⟩:=DE I1 d;refine#[t1,t2,?_];rw[m.trees];refine wb rfl<|zU<|wD<|oK (he a9 s1 y H1 _ I1 q1) λiv J L=>yC ?_;obtain⟨w,G,c,ry,l,j,g,more,ey,U,E,N,hz,q2⟩:=L;subst ey;obtain rfl:iv=Value.ref l:=ry;obtain⟨hzl,b9,n,D,hg⟩:=(show Z9 X.prog X.w G J.heap l (.lst<|j.map V.ref)from c.hok l _ E)
 rw[xv D]at hg;obtain⟨hza,C,vs,x8,dd⟩:=vT c.hok U;have key:∀{j:mD mG}{g:mD (om×V)},Paired (λt (q:om×V)=>G t=some (.tup [kV q.1,q.2])) j g->∃Y:mD (om×mH),KV g Y/\xJ (Zz X.prog X.w) J.heap j Y:=by
  intro j g N
  induction N with
  | nil=>show#[[],.nil,.nil]
  | cons r t ih =>
   rename_i p q _ _;obtain⟨Y,h1,h2⟩:=ih;obtain⟨_,b9,D,o,M,z8,m,hd⟩:=(show Z9 X.prog X.w G J.heap p (.tup [kV q.1,q.2])from c.hok p _ r)
   obtain⟨k,v,rfl,rk,B⟩:=xk D;show#[(q.1,v) ::Y,.cons #[rfl,B] h1,.cons #[k,o,m,uG rk,M,z8,hd] h2]
 obtain⟨Y,D7,T6⟩:=key N;refine Vm (c.ok.hd hc) dd hg T6 (by rw[<-x8.length,<-KV.length D7];show hz) (λz=>by rw[z,U]at E;cases E) (λp A z=>?_) λh' A7 z7 kp=>?_
 ·obtain⟨i,hi,e⟩:=Ca A;obtain⟨q,_,hq⟩:=Paired.get N (i:=i) (a:=p) (by rw[pJ hi,e]);rw[z,U]at hq;cases hq
 ·obtain⟨o',j8,ep',V1,r'⟩:=id z7;show#[.non,_,c.write (x:=a) (e:=a) (t':=A7) (by rw[U];show rD) (.inl rfl) (λb u n z=>kp b u n z) #[_,V1]<|xE (by have:=MJ more g;lia) C (D7.merge x8) z7,rfl,q2]
end
abbrev tU(pos:Pos)(q:mF):Array mH:=Wb [(pos.line,pos.col,q)]
abbrev Fz(o:Obj):HO:=.frz o<|.frz o<|.own 0
def Clo(H:Hp)(Pt s:mG)(q:mF)(r:Arguments)(p:mQ)(o:Scope)(y:mD (mF×mG)):Prop :=
 ∃(n l:mH)(c:mG)(x:Obj)(w:Array mH)(j:Nat)(u:mG),H s=some (Fz<|PySem.W.kla_obj "<lambda>" q r p o y n c l)/\H c=some (.frz x<|.own Pt)/\x.data=.fields w/\w[1]? =some (.str q j)/\H u=some (.tbl<|List.toArray [.none])/\GP x c u
def Clo.mono(e:nH H x)(h:Clo H Pt w q u s r y):Clo x Pt w q u s r y:=by
 obtain⟨p,o,c,n,l,j,i,g,d,a,Y,U,Q⟩:=h;show#[p,o,c,n,l,j,i,e _ _ g,e _ _ d,a,Y,e _ _ U,Q]
def CellAt(H:Hp)(c:mG)(v:V):Prop:=∃o u,H c=some (Fz o)/\o.data=.cell (some u)/\Yc v u
def CellAt.mono(e:nH H y)(h:CellAt H c v):CellAt y c v:=by
 obtain⟨o,u,x,w⟩:=h;show#[o,u,e _ _ x,w]
def XS(C:PySem.W.CodeHd h c y)(e:h.get? c=some w):y≠c/\GP w c y:=by
 obtain⟨o,u,s,r,q,p,n,l,j,z,i,d,a,Y,U,Q,N,M,x⟩:=C;rw[e]at z;cases z;show#[x.symm,λg z=>#[_,u,s,r,q,p,n,l,j,z,i,d,a,Y,U,Q,N,M,x]]
def VL{E:mH->mI->Prop}{w:mF->mJ mH}{Q:mH->mI->Prop}(z8:closureFor i env=pure x)(U:env.globals=mainGlobals)(hg:s.heap.Ns mainGlobals w)(hc:env.code=.ref c)(C:PySem.W.CodeHd s.heap c Pt)
  (H:s.heap.get? Pt=some {cls:=.none,data:=.fields ps}) (ht:TriplesOk ps.toList) (hn:codeAmong pos ps.toList=none) (N:mainGlobals≠Pt) (hb:s.heap.BuiltinsAt w Pt)
  (h:∀y u l h' tk,Heap.ExtBut Pt s.heap h'->#v[s]<=y->y<h'.objs.size->#v[s]<=u->h'.CodeRec (.ref y) d->PySem.W.CodeHd h' y u->h'.get? u=some {cls:=.none,data:=.fields #[]}->h'.get? Pt=some {cls:=.none,data:=.fields (ps++ (List.toArray [rawInt pos.line,rawInt pos.col,.ref y]))}->
   Q (.ref h'.objs.size) {s with heap:=h'.push<|PySem.W.kla_obj nm d L J i x ((w "__name__").getD .none) y l,toks:=tk}):wpAny M A (makeFunction nm d L (.expr J) i env [] [] [] pos fst_) Q E s:=by
 obtain⟨bm,ob,G,D,_,b4,b5,B,b7,b8⟩:=hb;rw[makeFunction_eq];simp only[List.zip_nil_right,List.filterMap_nil,List.isEmpty_nil,tY,pure_bind];unfold makeTail;rw[z8,U];refine nW<|ou ?_;have go:∀g:mO,(∀b o,s.heap.get? b=some o->g.get? b=some o)->#v[s]<=g.objs.size->∀{R:mH->mI->Prop},(∀y h' tk,Heap.ExtBut Pt s.heap h'->#v[s]<=y->h'.Ns mainGlobals w->h'.get? bm=some ob->(∀l,Q (.ref h'.objs.size) {s with heap:=h'.push<|PySem.W.kla_obj nm d L J i x ((w "__name__").getD .none) y l,toks:=tk})->R (.ref y) {s with heap:=h',toks:=tk})->wpAny M A (functionCode env pos fst_ nm d L i<|.expr J) R E {s with heap:=g}:=λg a sz R r=>by
  have CG:=C.keeps a;refine wpAny_functionCodeX hc (CG.code (a _ _ H) ht) (CG.tab<|a _ _ H) hn λy h' tk x1 x2 x3 _ x4 x5 x6=>?_
  obtain⟨u,y1,y2,y3⟩:=x6;have Y:Heap.ExtBut Pt s.heap h':=λb o n e=>x1 b o n<|a b o e
  have nC:=PySem.W.CodeHd.of y2 y3;show r y h' tk Y (oU sz x2) (hg.extBut Y N) (Y _ _ b4 b5) λl=>(h y u l h' tk Y (oU sz x2) x3 (oU sz y1) x4 nC y3.2 x5.2)
 cases x with
 | nil =>
  simp only[List.isEmpty_nil,tY];refine nW<|ou<|nW<|go s.heap (λ_ _ e=>e) (oq _) λy h' tk _ _ j I q=>?_;show nW (wpAny_builtinsFor j G D I B b7 b8<|nW<|wpAny_nsGet j<|nW<|ou<|xC (q _)<|by size_fits)
 | cons p r =>
  simp only[List.isEmpty_cons,tT,rX];refine nW<|wpAny_newTextTuple<|nW<|go _ (λb o e=>oH _ e) (by rw[uv];lia) λy h' tk _ _ j I q=>?_;show nW (wpAny_builtinsFor j G D I B b7 b8<|nW<|wpAny_nsGet j<|nW<|ou<|xC (q _)<|by size_fits)
def Yg8{l:mD (Nat×Nat×mF)}{a b:Nat}{q r:mF}(w:(l.map λp=>(p.1,p.2.1)).Nodup)(u:(a,b,q)∈l)(s:(a,b,r)∈l):q=r:=by
 induction l with
 | nil=>cases u
 | cons p l o =>
  rw[oR,qU]at w;rcases oM.mp u with y|y<;>rcases oM.mp s with x|x
  ·have:=y.trans x.symm;simpa using this
  ·show absurd (oh.mpr #[_,x,by rw[<-y]]) w.1
  ·show absurd (oh.mpr #[_,y,by rw[<-x]]) w.1
  ·show o w.2 y x
section
variable {Q:mH->mI->Prop}
def Lu{Y:mD (Nat×Nat×mF)}(I:nM X a9 y H s)(V6:defaultsOf A X.env=([],[]))(J7:X.env.code=.ref c)(C:PySem.W.CodeHd X.nI c Pt)(hH:H Pt=some (.tbl<|Wb Y))(M:(J.line,J.col,X.env.qual++"<lambda>")∈Y)(z8:closureFor ls X.env=pure j)
  (h:∀fl H' s',nM X a9 y H' s'->nH H H'->H fl=none->Clo H' Pt fl (X.env.qual++"<lambda>") A lb ls j->Q (.ref fl) s'):∅ (eval (.Lambda A lb ls J) X.env) Q X.xe s:=by
 refine PySem.W.kla_eval V6 ?_;obtain⟨r,hT,e|⟨x,fs,e1,nd,rfl,hfs⟩⟩:=(show Z9 X.prog X.w H s.heap Pt (.tbl<|Wb Y)from I.hok Pt _ hH)
 ·show absurd e.1 Ydx
 have e1:=WG e1;subst e1;have hg:s.heap.Ns mainGlobals X.mg:=I.mod.glob.keeps I.bk;have CH:PySem.W.CodeHd s.heap c Pt:=C.keeps I.bk;have nP:∀b,H b=none->b≠Pt:=λb n z=>by rw[z,hH]at n;cases n
 have hB:s.heap.BuiltinsAt X.mg Pt:=by
  obtain⟨bm,L,b1,b2,b3,b4,b5,b6⟩:=I.mod.bm;obtain⟨b3',hn⟩:=I.bs _ _ b3;refine#[bm,L,b1,b2,λz=>?_,nP bm hn,b3',b4,b5,b6];obtain⟨o,es,ep,e,d,_⟩:=hg;rw[<-z,b3']at e;cases e;rw[b6]at d;cases d
 have hgP:mainGlobals≠Pt:=by
  obtain⟨o,es,ep,e,d,_⟩:=I.mod.glob;show nP _ (I.bs _ _ e).2
 cases G:codeAmong J (sy fs).toList with
 | none =>
  refine VL (ps:=sy fs) z8 I.ok.glob hg J7 CH hT (Ja fs) G hgP hB λw l B p tk hx U d8 hpn hrec E3 F4 htb=>?_
  obtain⟨x,N,vs,tt,e,E,hd,hv⟩:=hrec;cases e;generalize C3:PySem.W.kla_obj "<lambda>" (X.env.qual++"<lambda>") A lb ls j ((X.mg "__name__").getD .none) w B=L;have A3:L.isFreed=false:=by rw[<-C3];rfl
  have D:H p.objs.size=none:=I.hok.fresh<|oU U<|qm d8;have hcn:H w=none:=I.hok.fresh U;have hpN:H l=none:=I.hok.fresh hpn;have ncf:w≠p.objs.size:=oQ d8;have npf:l≠p.objs.size:=oQ<|oJ F4;obtain⟨npc,T8⟩:=XS E3 E;have old:∀b o,s.heap.get? b=some o->b≠l/\b≠w/\b≠p.objs.size:=λb o e=>by
   have:=oJ e;show#[oQ<|qB this hpn,oQ<|qB this U,oQ<|vd (qB this U) d8]
  have kp:∀b o,b≠Pt->s.heap.get? b=some o->(p.push L).get? b=some o:=λb o n e=>oH _<|hx b o n e
  have g:∀b o,H b=some o->b≠l/\b≠w/\b≠p.objs.size:=λb o e=>#[Zf e hpN,Zf e hcn,Zf e D]
  have i:∀{b:mG},(b≠l/\b≠w/\b≠p.objs.size)->nO (nO (nO H l<|.tbl<|List.toArray [.none]) w<|.frz N<|.own Pt) p.objs.size (Fz L) b=H b:=λn=>by rw[Zd n.2.2,Zd n.2.1,Zd n.1]
  have aC:nO (nO (nO H l<|.tbl<|List.toArray [.none]) w<|.frz N<|.own Pt) p.objs.size (Fz L) w=some (.frz N<|.own Pt):=by rw[Zd ncf,Zc]
  have aP:nO (nO (nO H l<|.tbl<|List.toArray [.none]) w<|.frz N<|.own Pt) p.objs.size (Fz L) l=some (.tbl<|List.toArray [.none]):=by rw[Zd npf,Zd npc,Zc]
  refine h p.objs.size (nO (nO (nO H l<|.tbl<|List.toArray [.none]) w<|.frz N<|.own Pt) p.objs.size<|Fz L) _ (I.step (g':=s.gens) (d':=s.drawn) (ch:=[]) (λ_ z=>nomatch z) (λb o _ _ _ e n=>kp b o (nP b n) e) (λb o _ _ _ e n=>#[o.slots,kp b o (nP b n) e]) (λb o _ e n=>by rw[i (old b o e)];show n) (λb o _ e=>?_)
   (λb xs e=>by rw[i (g _ _ e)];show e) (λb o u e=>by rw[i (g _ _ e)];show e) (λb x e=>#[#[],by rw[i (g _ _ e),e];simp]) (λm hm=>?_) (λb u e=>?_) I.bare)
   (λb o e=>by rw[i (g _ _ e)];show e) D #[_,B,w,N,vs,tt,l,by rw[Zc,C3],aC,hd,hv,aP,T8]
  ·by_cases x:b=Pt
   ·show#[_,by rw[x];show oH _ htb]
   ·show#[o,kp b o x e]
  ·obtain⟨o,es,ep,e,r⟩:=hm;show#[o,es,ep,kp _ o (nP _ I.free) e,r]
  ·by_cases h1:b=p.objs.size
   ·subst h1;rw[Zc]at e;cases e;have:=pp p A3;show#[this,this,_,this]
   by_cases h2:b=w
   ·subst h2;rw[aC]at e;cases e;show#[oH _ E,_,oH _ E]
   by_cases h0:b=l
   ·subst h0;rw[aP]at e;cases e;show#[#[],oH _ F4,.inl #[rfl,trivial]]
   rw[i #[h0,h2,h1]]at e
   by_cases h3:b=Pt
   ·subst h3;rw[hH]at e;cases e;refine#[_,oH _ htb,.inr #[Y,fs++[(J.line,J.col,X.env.qual++"<lambda>",w)],rfl,nd,by rw[Zxl],λf hf=>?_]];rcases pC.mp hf with z|z
    ·obtain⟨z1,x,r,q,P1,f1,f2,f3,f4,f5⟩:=hfs f z;show#[z1,x,r,q,P1,by rw[i (g _ _ f1)];show f1,f2,f3,by rw[i (g _ _ f4)];show f4,f5]
    ·rw[qG.mp z];show#[M,N,vs,tt,l,aC,hd,hv,aP,T8]
   ·refine(I.hok b u e).stay (λd v hd q=>kp d v ?_ q) (λd q=>by rw[i (g _ _ q)];show q) (λd xs q=>by rw[i (g _ _ q)];show q) (λd o q=>by rw[i (g _ _ q)];show q) (λd o q=>by rw[i (g _ _ q)];show q);rcases hd with z|z
    ·rw[z];show h3
    ·show λx=>by rw[x,hH]at z;cases z
 | some cv =>
  obtain⟨f,hf,rfl,r,q⟩:=Pe G;obtain⟨z1,N,vs,tt,l,f1,f2,f3,f4,f5⟩:=hfs f hf;obtain⟨fl,i,g,w⟩:=f;have r:fl=J.line:=r;have q:i=J.col:=q;subst r q;have U:g=X.env.qual++"<lambda>":=Yg8 nd z1 M;subst U;refine PySem.W.kla_makeFunctionHit (ps:=sy fs) (cv:=.ref w) z8 I.ok.glob hg J7 CH hT (Ja fs) G hB λB p tk E x=>?_
  ·have D:H p.objs.size=none:=I.hok.fresh x;have:=pp p (o:=PySem.W.kla_obj "<lambda>" (X.env.qual++"<lambda>") A lb ls j ((X.mg "__name__").getD .none) w B) rfl;show h _ _ _ (I.laid (a:=p.objs.size) (o:=Fz<|PySem.W.kla_obj "<lambda>" (X.env.qual++"<lambda>") A lb ls j ((X.mg "__name__").getD .none) w B) (t':=tk) (λb u e=>oH _<|E b u e) x #[this,this,_,this]) (nH.new D) D
    #[_,B,w,N,vs,tt,l,Zc,by rw[Zd (Zf f1 D)];show f1,f2,f3,by rw[Zd (Zf f4 D)];show f4,f5]
end
open Classical in
def rZ(y:mD (mF×mG))(H:Hp)(h:mO):Hp:=λb=>if ∃x,y.lookup x=some b then(h.get? b).map Fz else H b
section
variable {a9:mD (mG×Obj)} {σ:St} {H:Hp} {s:mI} {Q:VK}
def Xf(I:nM X a9 σ H s)(e:H b=some o):rZ X.env.cells H s.heap b=some o:=by
 unfold rZ;rw[nY]
 ·show e
 ·rintro⟨x,z⟩;rw[I.freeC x b z]at e;cases e
def zg(n:∀x,X.env.cells.lookup x≠some b):rZ X.env.cells H s.heap b=H b:=by
 unfold rZ;rw[nY];rintro⟨x,z⟩;show n x z
def HH(I:nM X a9 σ H s){i:Nat}{x:mF}{v:V}{c:mG}(p:X.N[i]? =some x)(n:σ[i]? =some (some v))(q:X.env.scope.names.lookup x=some .cell)(w:X.env.cells.lookup x=some c):H c=none/\CellAt (rZ X.env.cells H s.heap) c v:=by
 obtain⟨m,g,j⟩:=I.loc;obtain⟨u,r,l⟩:=j i x v p n<|.inr<|.inl q;refine#[I.freeC x c w,?_];rcases l with⟨k,_⟩|⟨_,g,y,o,h,hd⟩
 ·have k:X.env.scope.names.lookup x=some .local:=k;rw[q]at k;cases k
 ·rw[w]at y;cases y;refine#[o,u,?_,hd,r];unfold rZ;rw[og #[x,w],h]
  rfl
def nM.shut(I:nM X a9 σ H s)(p:X.ex=[])(i:∀x,X.fn x=true)(h:Yc v u)(q:Q v (rZ X.env.cells H s.heap)):CE X.nG X.prog X.w X.mX X.mV Q u s:=by
 have J:=I.nI;have g:∀b o,X.mV.heap.get? b=some o->∀x,X.env.cells.lookup x≠some b:=λb o e x z=>absurd (qB (oJ e)<|I.ok.cab x b (i x) z)<|sr _
 refine#[v,rZ X.env.cells H s.heap,I.os,I.bare,#[λb o y r w _=>J.keep b o y r w (by rw[p];simp),λb o y r w _=>J.slot b o y r w (by rw[p];simp),λb o y r _=>?_,λb o y _=>J.there b o y (by rw[p];simp),λb l e=>Xf I<|J.tups b l e,λb o x e=>Xf I<|J.frzs b o x e,λb d e=>?_],λb o e=>?_,h,q]
 ·rw[zg (g b o y)];show J.free b o y r (by rw[p];simp)
 ·obtain⟨m,z⟩:=J.tbls b d e;show#[m,Xf I z]
 ·by_cases j:∃x,X.env.cells.lookup x=some b
  ·obtain⟨x,z⟩:=j;obtain⟨w,c,n,hd⟩:=I.cell x b z;unfold rZ at e;rw[og #[x,z],n]at e;cases e;show#[n,n,_,n]
  ·have w:=e;rw[zg λx z=>j #[x,z]]at w;show(I.hok b o w).stay (λ_ _ _ q=>q) (λc q=>Xf I q) (λc l q=>Xf I q) (λc o q=>Xf I q) (λc o q=>Xf I q)
end
def TM(X:Cx)(Pt:mG)(Q:VK)(r:Arguments)(p:mQ)(q:Scope)(o:Pos)(y:St)(H:Hp):Prop :=
 defaultsOf r X.env=([],[])/\H Pt=some (.tbl<|tU o<|X.env.qual++"<lambda>")/\∃w,closureFor q X.env=pure w/\
 ∀s u,nH H u->H s=none->Clo u Pt s (X.env.qual++"<lambda>") r p q w->(∀(i:Nat)(x:mF)(v:V)(c:mG),X.N[i]? =some x->y[i]? =some (some v)->X.env.scope.names.lookup x=some .cell->X.env.cells.lookup x=some c->H c=none/\CellAt u c v)->Q (.ref s) u
inductive vz(X:Cx)(Pt:Addr)(Q:VK):List Stmt->St->Hp->Prop
 | last {la lb ls lp rp σ H Zs}:TM X Pt Q la lb ls lp σ H->vz X Pt Q (.Return (some<|.Lambda la lb ls lp) rp ::Zs) σ H
 | step {st Zs σ H} (M:St->Hp->Prop):WS X st {nx:=M,rt:=λ_ _=>False} σ H->(∀σ' H',M σ' H'->vz X Pt Q Zs σ' H')->vz X Pt Q (st ::Zs) σ H
def Vq{X:Cx}{Pt c:mG}{Q:VK}(d:X.env.code=.ref c)(C:PySem.W.CodeHd X.nI c Pt){b:mD mM}{y:St}{H:Hp}(m:vz X Pt Q b y H):∀{s:mI},nM X [] y H s->
  ∅ (execs b X.env) (λf s'=>∃p w r,f=.ret (.ref p)/\nM X [] w r s'/\Q (.ref p) (rZ X.env.cells r s'.heap)) X.xe s:=by
 induction m with
 | last h =>
  intro s I;obtain⟨a,Y,x,U,k⟩:=h;refine DU<|wpAny_Return_some<|Lu I a d C Y (List.mem_singleton_self _) U λp r s' u q N M=>?_;refine#[p,_,r,rfl,u,k p _ (q.trans λb o e=>Xf u e) N (M.mono λb o e=>Xf u e) λi x v c n l j g=>#[q.free (HH u n l j g).1,(HH u n l j g).2]]
 | step M h _ x =>
  intro s I;refine DU<|oK (h.run [] s I) λf o q=>?_;cases f with
  | next =>
   obtain⟨w,r,u,q⟩:=q;show x w r q u
  | ret v=>obtain⟨_,_,_,_,_,z⟩:=q;show z.elim
  | brk=>obtain⟨_,_,_,z⟩:=q;show z.elim
  | cont=>obtain⟨_,_,_,z⟩:=q;show z.elim
def wC(K:mK)(fd:mU)(Pt:mG):Prop:=∃c,fd.code=.ref c/\PySem.W.codeHdIn K c Pt=true
section
variable {P:mS} {w:mP} {K:mK} {mg:mF->mJ mH} {nI:mO}
def rW.okM{x qual:mF}{st:mM}{f Pt:mG}{fd:mU}{N ps:mD mF}{k:Nat}{i:Sp}(F:rW K x qual st f fd)(L:wC K fd Pt)(S:Zw N ps (Zj st))(len:∀vs H Q E,i vs H Q E->vs.length=ps.length)
  (G:∀(j:mH)(A:mT)(p:mD Env)(s:mI)(H:Hp)(vs:mD V)(Q:VK)(E:XK),Y2 k (A.deeper<|envOfC qual (Zj st) #v[s] f j)->i vs H Q E->
   vz (pS pL P w K mg nI N qual (Zj st) f j A p s H E).nox Pt Q (Y6 st) (start N vs) H):Wz P w K mg nI pL (k+1) f fd ps i:=by
 obtain⟨oc,od,kV,B1,pm,an,j,ct,M0,rfl,lk,D⟩:=F.ex;obtain⟨c,h,C⟩:=L;have h:j=.ref c:=h;subst h;refine#[len,λA p s H args B vs Q E g l hb r Y=>?_];have hl:=len _ _ _ _ Y;have KX:K.In s.heap:=l.mod.kin.keeps λb o e=>(l.bs b o e).1
 have d:s.heap.NoLimit:=l.mod.nolimit.keeps λb o e=>(l.bs b o e).1
 have V2:∀y∈ps.zip B,(Zj st).names.lookup y.1=some .local\/((Zj st).names.lookup y.1=some .cell/\((cellsFrom (#v[s]+1) (Zj st).names []).lookup y.1).isSome=true):=λ⟨n,v⟩ hy=>by
  rcases S.par n (ul hy).1 with q|q
  ·show .inl q
  ·show .inr #[q,IU _ _ _<|.inl q]
 refine codeAny_call_function g.depth (KX _ _ lk) rfl S.co S.gen rfl (Sz KX D)<|hb _ _ _ _ ?_;refine Rf S.kind V2 λenv he U x=>?_
 subst he;refine#[d.keeps x.toInCall.keep,codeAny_func ?_];have u:nM (pS pL P w K mg nI N qual (Zj st) f (.ref c) A p s H E) [] (start N vs) H U:=LO S g.hd l hl r x;have I:nM (pS pL P w K mg nI N qual (Zj st) f (.ref c) A p s H E).nox [] (start N vs) H U:=#[#[u.ok.mod,u.ok.kind,u.ok.glob,u.ok.blt,u.ok.above,u.ok.inj,u.ok.has,u.ok.cab,u.ok.hd,u.ok.frames,u.ok.stk,u.ok.exf,u.ok.bs,u.ok.bsz,u.ok.noex,u.ok.exfs,u.ok.funs,u.ok.frf],u.os,u.bare,u.nI,u.loc,u.cell,u.free,u.freeC,u.pin,u.hok,u.len]
 refine qQ (Vq (c:=c) rfl (Hv l.mod.kin C) (G (.ref c) A p s H vs Q E (g.deeper _) Y) I) (λfl M a=>?_) λe M a=>a.elim
 obtain⟨v,σ',H',rfl,J,q⟩:=a;change CE p P w H s Q (.ref v) M;show J.shut (v:=.ref v) rfl (λ_=>rfl) rfl q
end
def Hl(P:mS)(w:mP)(K:mK)(u:mF->mJ mH)(nI:mO)(k:Nat)(f:mG)(H:Hp)(vs:mD V)(Q:VK):Prop :=
 ∀(A:mT)(y:mD Env)(s:mI)(x:mD mH),Y2 k A->uo P w K u nI A y s H->Z8 vs x->codeAny (model P w) A (.call (.ref f) #[x,[]]) (CR pL y P w H s Q E0) s
def xF(H:Hp)(f:mG):Prop:=∃y x w s u,H f=some (.frz #[y,x,.func w,s] u)
def xF.at(I:nM X p y H s)(h:xF H f):PySem.W.FnAt f s.heap:=by
 obtain⟨x,w,r,q,u,e⟩:=h;show#[x,w,r,q,(I.hok f _ e).1]
def Clo.fn(h:Clo H Pt x q u s r y):xF H x:=by
 obtain⟨p,o,c,n,l,j,_,w,_⟩:=h;show#[_,_,_,_,_,w]
def Yfu(P:mS)(w:mP)(K:mK)(r:mF->mJ mH)(nI:mO)(k:Nat)(q:TE)(t:TA):TE:=λy H Q=>q y H λx u=>∃f,x=.ref f/\xF u f/\t y u λp s=>xF s f/\Hl P w K r nI k f s p Q
def KF(j:Y2 k X.A)(i:PE X (.Name x p) g)(d:PA X (e ::es) t)
  (c:starEach (e ::es) X.env=(false,eval e X.env) ::starEach es X.env:=by rfl) (a:(backTo pos<|starEach es X.env).any (·.1)=false:=by rfl):PE X (.Call (.Name x p) (e ::es) [] pos) (Yfu X.prog X.w X.K X.mg X.nI k g t):=by
 intro n s y H Q I h;refine uQ<|oK (i n s y H _ I h) λu Y U=>?_;obtain⟨w,N,l,M,f,L,J,G⟩:=U;subst L;obtain rfl:u=Value.ref f:=M;refine PySem.W.callWith_F (J.at l) (oK (d pos n Y y N _ l G) λE D ⟨B,A,o,r,w,C⟩=>#[w.at o,?_]) c a;refine uU<|uS (C X.A X.stack D E j o.env0 r) λr w q=>?_;cases r with
 | error e=>show False.elim q
 | ok w =>
  cases w with
  | ret u=>show o.after q
  | next=>show False.elim q
  | brk=>show False.elim q
  | cont=>show False.elim q
def Es(P:mS)(w:mP)(K:mK)(mg:mF->mJ mH)(nI:mO)(N:mD mF)(q:mF)(scope:Scope)(f:mG)(x:mH)(y:mD (mF×mG))(A:mT)(nG:mD Env)(s:mI)(H:Hp):Cx where
 prog:=P
 w:=w
 K:=K
 mg:=mg
 nI:=nI
 A:=A.deeper (PySem.W.envX q scope #v[s] f x y)
 N:=N
 mV:=s
 mX:=H
 env:=PySem.W.envX q scope #v[s] f x y
 nG:=nG
 stack:=PySem.W.envX q scope #v[s] f x y ::nG
 ex:=[]
 calm:=true
 fn:=λ_=>false
 pn:=[]
 xe:=λ_ _=>False
def offL(H:Hp)(y:mD (mF×mG)):Hp:=λb=>if b∈y.map snd then none else H b
def uL(h:b∉y.map snd):offL H y b=H b:=nY h
def BB(h:b∈y.map snd):offL H y b=none:=og h
theorem Op:∀{l:mD (mF×mG)}{x y:mF}{a:mG},(l.map snd).Nodup->(x,a)∈l->(y,a)∈l->x=y
 | [],_,_,_,_,h,_=>by cases h
 | p ::r,x,y,a,s,n,q=>by
  have s:(p.2 ::r.map snd).Nodup:=s;obtain⟨o,j⟩:=qU.mp s;rcases oM.mp n with u|u
  ·rcases oM.mp q with w|w
   ·rw[<-u]at w;cases w;rfl
   ·show absurd (oh.mpr #[_,w,by rw[<-u]]) o
  ·rcases oM.mp q with w|w
   ·show absurd (oh.mpr #[_,u,by rw[<-w]]) o
   ·show Op j u w
def DB:HO->Prop
 | .frz _ _=>False
 | _=>True
structure sL(H:Hp)(ls:Scope)(clos:List (Str×Addr))(fs:List Str)(fvs:List V):Prop where
 cells:Paired (λx v=>ls.names.lookup x=some .free/\∃c,clos.lookup x=some c/\CellAt H c v) fs fvs
 all:∀p∈clos,p.1∈fs
 one:(clos.map fst).Nodup
 apart:(clos.map snd).Nodup
theorem Xi{y:Type}:∀{l:mD (mF×y)}{p:mF×y},(l.map fst).Nodup->p∈l->l.lookup p.1=some p.2
 | [],_,_,h=>by cases h
 | q ::r,p,x,h=>by
  have x:(q.1 ::r.map fst).Nodup:=x;obtain⟨w,u⟩:=qU.mp x;rw[tP];rcases oM.mp h with e|e
  ·rw[e,Ce]
  ·have:(p.1 ==q.1)=false:=by rw[uc];show λz=>w<|oh.mpr #[p,e,z]
   rw[this];show Xi u e
def sL.cell(L:sL H r y fs fvs)(x:p∈y):∃v,CellAt H p.2 v:=by
 obtain⟨i,u,e⟩:=Ca<|L.all p x;obtain⟨v,_,_,c,w,s⟩:=Paired.get L.cells (i:=i) (a:=p.1) (by rw[pJ u,e]);rw[Xi L.one x]at w;cases w;show#[v,s]
def sL.soft(L:sL H s y fs fvs)(h:H b=some o)(n:DB o):offL H y b=some o:=by
 rw[uL]
 ·show h
 ·intro z;obtain⟨p,w,e⟩:=oh.mp z;obtain⟨v,r,u,x,_⟩:=L.cell w;rw[e,h]at x;cases x;show n
def Uo :nH (offL H y) H:=λb o e=>by
 by_cases z:b∈y.map snd
 ·rw[BB z]at e;cases e
 ·rw[uL z]at e;show e
open Classical in
def sh(H x:Hp)(y:mD (mF×mG)):Hp:=λb=>if b∈y.map snd then H b else x b
section
variable {P:mS} {w:mP} {K:mK} {mg:mF->mJ mH} {nI:mO}
def sL.isC(L:sL H q y fs fvs)(z:b∈y.map snd):∃o u,H b=some (Fz o)/\o.data=.cell (some u):=by
 obtain⟨p,x,e⟩:=oh.mp z;obtain⟨v,o,u,s,r,_⟩:=L.cell x;show#[o,u,e ▸ s,r]
def Ap(n:H b=none):offL H y b=none:=by
 by_cases z:b∈y.map snd
 ·show BB z
 ·rw[uL z];show n
def PB(L:sL H N r fs fvs)(h:uo P w K mg nI A a s H)(q:Un (pr a) [] (offL H r) p s.heap h')(g:pe P w p h'):Un (pr a) [] H (sh H p r) s.heap h'/\pe P w (sh H p r) h'/\nH p (sh H p r):=by
 have l:∀{b:mG},b∈r.map snd->p b=none:=λ{b} z=>by
  obtain⟨o,u,j,_⟩:=L.isC z;show q.free b _ (h.hok b _ j).1 (BB z) (by simp)
 have bk:∀{b:mG}{o:HO},p b=some o->sh H p r b=some o:=λ{b o} e=>by
  unfold sh;rw[nY λz=>by rw[l z]at e;cases e];show e
 refine#[#[λb o i n y _=>q.keep b o i (Ap n) y (by simp),λb o i n y _=>q.slot b o i (Ap n) y (by simp),λb o i n _=>?_,λb o i _=>q.there b o i (by simp),λb Y e=>bk<|q.tups b Y<|L.soft e trivial,λb c x e=>?_,λb U e=>?_],λb o e=>?_,λb o e=>bk e]
 ·unfold sh;rw[nY λz=>by obtain⟨o,Q,j,_⟩:=L.isC z;rw[n]at j;cases j];show q.free b o i (Ap n) (by simp)
 ·by_cases z:b∈r.map snd
  ·unfold sh;rw[og z];show e
  ·show bk (q.frzs b c x (by rw[uL z];show e))
 ·obtain⟨m,z⟩:=q.tbls b U<|L.soft e trivial;show#[m,bk z]
 ·by_cases z:b∈r.map snd
  ·unfold sh at e;rw[og z]at e;obtain⟨d,Q,j,M⟩:=L.isC z;rw[e]at j;cases j;have u:=q.keep b d (h.hok b _ e).1 (BB z) (λy=>by rw[h.frf b y]at e;cases e) (by simp);show#[u,u,_,u]
  ·have u:=e;unfold sh at u;rw[nY z]at u;show(g b o u).stay (λ_ _ _ y=>y) (λd y=>bk y) (λd Y y=>bk y) (λd c y=>bk y) (λd c y=>bk y)
def Md{gs:mD mF}{gvs:mD V}{us:mD mH}{CX:vB}{xe:mG->mH->mI->Prop}(C:Clo H Pt g q la lb n r)(L:sL H n r fs fvs)
  (hb:∀pm c8 B6:mH,bindArgs (PySem.W.kla_fn "<lambda>" q la lb n r pm c8 B6) #[us,[]]=pure (gs.zip us)) (hg:∀y∈gs.zip us,n.names.lookup y.1=some .local) (G:gvs.length=gs.length)
  (hgv:∀(i:Nat) y v,gs[i]? =some y->gvs[i]? =some v->∃u,Yc v u/\n.names.lookup y=some .local/\(gs.zip us).reverse.lookup y=some u)
  (A3:∀y∈n.names,y.2=.free->y.1∈fs) (D:∀y∈n.names,y.2≠.cell)
  (hk:n.kind=.function) (T8:n.isCoroutine=false) (K6:n.isGenerator=false) (hr:Y2 (k+1) A) (l:uo P w K mg nI A N s H)
  (body:∀c:mG,Y2 k (A.deeper<|PySem.W.envX q n #v[s] g (.ref c) r)->WE {Es P w K mg nI (gs++fs) q n g (.ref c) r A N s (offL H r)with xe:=xe c} lb (gvs.map some++fvs.map some) (offL H r) Q')
  (ok:∀v M,Q' v M->nH M (sh H M r)->Q v (sh H M r))
  (bad:∀c e s',xe c e s'->wpAny (model P w) (A.deeper<|PySem.W.envX q n #v[s] g (.ref c) r) (leaving (PySem.W.envX q n #v[s] g (.ref c) r) e) (λ_ O1=>CX N H s E e O1) (λe' O1=>CX N H s E e' O1) s') :
  codeAny (model P w) A (.call (.ref g) #[us,[]]) (CR CX N P w H s Q E) s:=by
 obtain⟨pm,B6,c,oc,vs,tt,p,j,Y,h3,h4,_⟩:=C;have o1:s.heap.get? g=some (PySem.W.kla_obj "<lambda>" q la lb n r pm c B6):=(l.hok g _ j).1;have o2:s.heap.get? c=some oc:=(l.hok c _ Y).1;have lim:s.heap.NoLimit:=l.mod.nolimit.keeps λb o e=>(l.bs b o e).1
 refine PySem.W.kla_callFunE hr.depth o1 rfl T8 K6 rfl #[c,oc,vs,tt,rfl,o2,h3,h4] ?_;rw[hb];refine ou<|wpAny_newFunctionEnv D hg (λU hns B=>#[lim.fresh _ B,?_]) hk;change codeAny _ _ (.expr lb<|PySem.W.envX q n #v[s] g (.ref c) r) _ _;have nj:∀b o,s.heap.get? b=some o->U.get? b=some o:=λb o e=>B.extBut b o (oQ<|oJ e)<|oH _ e
 have inC:∀{x:mF}{a:mG},r.lookup x=some a->a∈r.map snd:=λh=>oh.mpr #[_,tO h,rfl]
 have hok0:pe P w (offL H r) s.heap:=λb o e=>by
  refine(l.hok b o<|Uo b o e).stay (λ_ _ _ z=>z) (λd z=>L.soft z trivial) (λd p z=>L.soft z trivial) (λd p z=>?_) (λd p z=>L.soft z trivial);rw[uL]
  ·show z
  ·intro y;obtain⟨o3,u3,p,_⟩:=L.isC y;rw[z]at p;cases p
 have nA:∀b:mG,b∉([]:mD mG):=λb z=>nomatch z
 have I:nM {Es P w K mg nI (gs++fs) q n g (.ref c) r A N s (offL H r)with xe:=xe c} [] (gvs.map some++fvs.map some) (offL H r) {s with heap:=U,toks:=s.toks+(gs.zip us).length}:=by
  refine#[#[l.mod,hk,rfl,rfl,oq _,λy z a j Y=>Op L.apart (tO j)<|tO Y,λy hy=>?_,λy a z _=>(pi z).elim,λ_=>hr.hd,Around.frames_deeper l.frames,.inr #[rfl,rfl],λb z=>absurd z<|nA b,λb o e=>#[(l.bs b o e).1,Ap (l.bs b o e).2],l.bsz,λb _ _=>nA b,λb z=>absurd z<|nA b,l.funs,λb z=>Ap<|l.frf b z],
   rfl,l.bare,Un.kept nj,#[_,hns,λi y v j Y h3=>?_],λy a z=>?_,Ap<|l.hok.fresh<|oq _,λy a z=>BB<|inC z,(λp hp=>nomatch hp),hok0.kept nj,?_]
  ·rcases(show n.names.lookup y=some .cell\/n.names.lookup y=some .free from hy)with hy|hy
   ·show absurd rfl<|D _<|tO hy
   ·obtain⟨i,hi,e⟩:=Ca<|A3 _ (tO hy) rfl;obtain⟨v,_,_,a,z1,_⟩:=Paired.get L.cells (i:=i) (a:=y) (by rw[pJ hi,e]);show#[a,z1]
  ·have j:(gs++fs)[i]? =some y:=j;have Y:(gvs.map some++fvs.map some)[i]? =some (some v):=Y;rw[<-oy,oF]at Y;obtain⟨v',p,h6⟩:=oN.mp Y;cases h6
   by_cases hi:i<gs.length
   ·rw[xq hi]at j;rw[xq (by lia)]at p;obtain⟨u,a,b,c⟩:=hgv i y v j p;show#[u,a,.inl #[b,c]]
   ·rw[wU (by lia)]at j;rw[wU (by lia),G]at p;obtain⟨v2,z0,z1,a,z2,o,uu,z3,z4,z5⟩:=Paired.get L.cells j;rw[p]at z0;cases z0;show#[uu,z5,.inr #[.inr z1,a,z2,o,nj _ _ (l.hok a _ z3).1,z4]]
  ·obtain⟨o,uu,z1,z2⟩:=L.isC<|inC z;show#[_,o,nj _ _ (l.hok a _ z1).1,z2]
  ·change(gvs.map some++fvs.map some).length=(gs++fs).length;rw[oP,oP,nQ,nQ,G,oz L.cells]
 refine PySem.W.kla_codeExpr<|qQ ((body c<|hr.deeper _).run [] _ I) (λv s' hs=>?_) λe s' hs=>bad c e s' hs;obtain⟨v',M,J,Q6,qq⟩:=hs;obtain⟨un,k,sm⟩:=PB L l (show Un (pr N) [] (offL H r) M s.heap s'.heap from J.nI) J.hok;show#[v',_,J.os,J.bare,un,k,Q6,ok _ _ qq sm]
def EU(C:Clo H Pt n q I Y r x)(L:sL H r x fs fvs)
  (G:∀(E p D u:mH),bindArgs (PySem.W.kla_fn "<lambda>" q I Y r x E p D) #[[u],[]]=pure [(g,u)]) (U:r.names.lookup g=some .local) (B:g∉fs) (A3:∀y∈r.names,y.2=.free->y.1∈fs) (l:∀y∈r.names,y.2≠.cell)
  (hk:r.kind=.function) (T8:r.isCoroutine=false) (K6:r.isGenerator=false)
  (body:∀(p:mH)(A:mT)(j:mD Env)(s:mI),Y2 k (A.deeper<|PySem.W.envX q r #v[s] n p x)->
   WE (Es P w K mg nI (g ::fs) q r n p x A j s<|offL H x) Y (some N ::fvs.map some) (offL H x) (λv h=>nH (offL H x) h/\∀d,nH h d->nH H d->Q v d)):Hl P w K mg nI (k+1) n H [N] Q:=by
 intro A j s us hr e0 rv;obtain⟨u,rfl,ru⟩:=Wp rv;refine Md (gs:=[g]) (gvs:=[N]) (xe:=λ_ _ _=>False) C L (λa b c=>G a b c u) (λy hy=>?_) rfl (λi y v M h2=>?_) A3 l hk T8 K6 hr e0 (λc=>body (.ref c) A j s) (λv h z J=>z.2 _ J λb o e=>?_) λ_ _ _ z=>z.elim
 ·obtain rfl:y=(g,u):=qG.mp hy;show U
 ·cases i with
  | zero =>
   cases M;cases h2;show#[u,ru,U,by simp]
  | succ i=>cases M
 ·by_cases y:b∈x.map snd
  ·unfold sh;rw[og y];show e
  ·show J.at (z.1.at (by rw[uL y];show e))
end
def pR(s:mM):mQ:=match(Y6 s).getLast? with
 | some (.Return (some e) _)=>e
 | _=>.Constant .none 0 #[0,0,0,0]
def AA:mQ->Arguments
 | .Lambda a _ _ _=>a
 | _=>{posonlyargs:=[],args:=[],vararg:=none,kwonlyargs:=[],kw_defaults:=[],kwarg:=none,defaults:=[]}
def Bm:mQ->mQ
 | .Lambda _ b _ _=>b
 | e=>e
def vV:mQ->Scope
 | .Lambda _ _ s _=>s
 | _=>{kind:=.function,names:=[],isGenerator:=false,isCoroutine:=false}
def um:mQ->Pos
 | .Lambda _ _ _ p=>p
 | _=>#[0,0,0,0]
structure Dl(K:Frag)(h:Heap)(tabs:List (Addr×Array Value)):Prop where
 cod:∀p∈tabs,∃c,PySem.W.codeHdIn K c p.1=true
 emp:∀p∈tabs,h.get? p.1=some (PySem.W.tabObj #[])
 shape:∀p∈tabs,∃ls,p.2=Wb ls/\(ls.map λp=>(p.1,p.2.1)).Nodup
 nd:(tabs.map fst).Nodup
 nt:PySem.W.noTabs K=true
inductive zB(K:mK)(tabs:mD (mG×Array mH)):Sp
 | mk (a) (ns:mD Int):vs=[.ref a]->SqL K H a (ns.map V.int)->ns.length<=63->(∀p∈tabs,H p.1=some (.tbl p.2))->(∀H',Q (.bl true) H')->zB K tabs vs H Q E
theorem Fb{y:Type}:∀{l:mD (mG×y)}{p:mG×y},(l.map fst).Nodup->p∈l->l.lookup p.1=some p.2
 | [],_,_,h=>by cases h
 | q ::r,p,x,h=>by
  have x:(q.1 ::r.map fst).Nodup:=x;obtain⟨w,u⟩:=qU.mp x;rw[tP];rcases oM.mp h with e|e
  ·rw[e,Ce]
  ·have:(p.1 ==q.1)=false:=by rw[uc];show λz=>w<|oh.mpr #[p,e,z]
   rw[this];show Fb u e
theorem Ez{y:Type}:∀{l:mD (mG×y)}{a:mG}{v:y},l.lookup a=some v->(a,v)∈l
 | [],_,_,e=>by cases e
 | (b,x) ::r,a,v,e=>by
  rw[tP]at e;cases w:a ==b with
  | true=>rw[w]at e;cases e;rw[eq_of_beq w];show .head _
  | false=>rw[w]at e;show .tail _<|Ez e
def UG(K:mK):mD V->Hp->VK->Prop:=λy H Q=>∃e C c b,y=[.ref e,c]/\H e=some (rE e C none)/\XG K C/\((∃n,c=.ty n/\kitOne K (.ref C) (.type n)=some b)\/(∃a,c=.ref a/\kitOne K (.ref C) (.ref a)=some b))/\Q (.bl b) H
def UP:Y7 X (.builtin "isinstance") (UG X.K):=by
 intro d s y H Y U Q I r h;obtain⟨e,C,c,b,rfl,p,g,k,q⟩:=h;obtain⟨u,c,rfl,n,w⟩:=xk r;obtain rfl:u=Value.ref e:=n;obtain⟨o,c,l,j,i,x⟩:=rE.at I.hok p;have J:PySem.W.InstAt s.heap e o C none:=#[l,j,by unfold PySem.W.notCls;rw[x],by rw[i];trivial]
 have Z:PySem.W.KitX X.K (.ref e) (.ref C) (λh=>PySem.W.InstAt h e o C none):=MH g.xa g.hc g.cl g.cg g.ct g.ob;rcases k with⟨c,rfl,k⟩|⟨a,rfl,k⟩
 ·cases w;show sK Z I.kIn J k (λz=>nomatch z) λtk=>#[.bl b,H,I.tok tk,rfl,q]
 ·cases w;show sK Z I.kIn J k (λz=>nomatch z) λtk=>#[.bl b,H,I.tok tk,rfl,q]
def XH:V->mD V->Hp->VK->Prop:=λx y H Q=>∃(l:mG)(bs:mD Bool)(b:Bool),x=.ref l/\y=[.bl b]/\H l=some (.lst<|bs.map V.bl)/\Q (.int (bs.countP (λc=>c ==b):Nat)) H
theorem He:∀{bs:mD Bool}{us:mD mH},Z8 (bs.map V.bl) us->us=bs.map Value.bool
 | [],_,.nil=>rfl
 | b ::bs,_,.cons r t=>by
  rw[He t];cases r
  rfl
def Be(b:Bool):mH->Bool
 | .bool c=>c ==b
 | _=>false
def Zyf:Bo X "list.count" XH:=by
 intro d s y H x a v Y Q I o j h;obtain⟨l,bs,b,rfl,rfl,i,q⟩:=h;cases o;obtain⟨u,rfl,g⟩:=j.one;cases g;obtain⟨z,u,n,r,U,e⟩:=I.lstM i;obtain rfl:=He r;refine xr F.slot_list_count #[_,e,rfl] F.entry_list_count (F.args_list_count_2 _ _) (SeqAt.list_countAt l _ n _ _ (.bool b)<|Be b) #[e,λw p=>?_,?_]
 ·have p:w∈bs.map Value.bool:=by simpa using p
  obtain⟨c,_,rfl⟩:=oh.mp p;show HK c b
 ·refine#[.int _,H,I.tok _,#[_,rfl],?_];have:List.countP (Be b) (bs.map Value.bool).toArray.toList=bs.countP (λc=>c ==b):=by
   rw[List.toList_toArray,List.countP_map]
   rfl
  rw[this];show q
def Gf(y:Gl X x)(h:∃tk,X.mg x=some (.str v tk))(hd:(x ==("__debug__":mF))=false:=by lk):PE X (.Name x pos) (tC<|.str v):=by
 obtain⟨tk,h⟩:=h;show X2 y h #[tk,rfl] hd
theorem Io:∀{p:mF}{l:mD mF},risingS p l=true->(p ::l).Pairwise (λa b=>ltCps b.cps.toList a.cps.toList=false)
 | p,[],_=>by simp
 | p,x ::r,h=>by
  rw[show risingS p (x ::r)=(!ltCps x.cps.toList p.cps.toList && risingS x r)from rfl,rB,Bool.not_eq_true']at h;have y:=Io h.2;refine List.pairwise_cons.mpr #[λb s=>?_,y];rcases oM.mp s with z|z
  ·rw[z];show h.1
  ·have w:=List.rel_of_pairwise_cons y z;have u:=h.1;rw[ltCps_eq,Nu]at u w ⊢;show Bg.mpr<|List.le_trans (Bg.mp u)<|Bg.mp w
def Ac(h:sortedS l=true)(h':sortedS y=true)(p:l.Perm y):l=y:=by
 have w:∀{l:mD mF},sortedS l=true->l.Pairwise (λa b=>ltCps b.cps.toList a.cps.toList=false):=λ{l} h=>by
  cases l with
  | nil=>show .nil
  | cons x r=>show Io h
 refine p.eq_of_pairwise (λa b _ _ u s=>?_) (w h)<|w h';rw[ltCps_eq,Nu]at u s;have e:=List.le_antisymm (Bg.mp u)<|Bg.mp s;cases a;cases b;simpa using Array.toList_inj.mp e
end L2
end
section
namespace L2
open PySem PyProof.Rows
theorem Rg{E:mH->mI->Prop}(h:A.handled=none)(g:l≠it):∀(n i:Nat)(s:mI)(Q:mD mH->mI->Prop),(s.heap.IsListIter it l i/\s.heap.IsList l y)->i+n<=y.size->
  (∀h' tk,(h'.IsListIter it l (i+n)/\h'.IsList l y)->(∀b o,b∉[it]->s.heap.get? b=some o->h'.get? b=some o)->Q ((y.toList.drop i).take n) {s with heap:=h',toks:=tk})->wpAny (model P w) A (draw (.ref it) n) Q E s
 | 0,i,s,Q,u,_,r=>by
  change wpAny _ _ (pure []) Q E s;show ou (by simpa using r s.heap s.toks u λ_ _ _ e=>e)
 | n+1,i,s,Q,u,M,r=>by
  have q:i<y.size:=by lia
  change wpAny _ _ (pyNext (.ref it)>>=_) Q E s;refine nW<|(Bp (prog:=P) (w:=w) h it l g y).item i s _ _ q u λv L J d a p=>?_;refine nW<|rJ<|Rg h g n (i+1) _ _ a (by lia) λY j x U=>ou ?_;have hd:y.toList.drop i=y[i] ::y.toList.drop (i+1):=by simp[zv,q]
  have N:v=y[i]:=by rw[Array.getElem?_eq_getElem q]at d;show(pI d).symm
  have:=r Y j (by rw[show i+(n+1)=i+1+n by lia];show x) λb o c e=>U b o c<|p b o c e
  rw[hd,SC,<-N]at this;show this
def ZV{E:mH->mI->Prop}{u:mD (Bool×(mH->Sem Unit))}{Q:Unit->mI->Prop}(j:A.handled=none)(r:s.heap.IsList l y)
  (c:u.length=y.size) (x:u.findIdx? (·.1)=none)
  (h:∀h' tk,(∀b o,s.heap.get? b=some o->h'.get? b=some o)->wpAny (model P w) A (assignInOrder (u.map (·.2)) y.toList) Q E {s with heap:=h',toks:=tk}) :
  wpAny (model P w) A (unpack (.ref l) u) Q E s:=by
 have a:l<#v[s]:=by obtain⟨o,q,_⟩:=r;show oJ q
 have Y:s.TypeIs (.ref l) "list":=by obtain⟨o,q,U,_⟩:=r;show#[o,q,U]
 unfold unpack;rw[c,x];refine nW<|rJ ?_;unfold unpackItems;refine nW ?_;unfold notIterableAtAll;refine nW<|wpAny_specialOf Y F.slot_list_iter.lookup ?_;refine ou ?_;simp only[tT,rX];refine nW<|rJ<|yH r ?_;have i:l≠#v[s]:=oQ a;refine nW<|rJ<|Rg j i y.size 0 _ _ #[#[_,pp _ rfl,rfl,rfl],r.push _] (by lia) λI H g p=>?_;have N:List.take y.size (List.drop 0 y.toList)=y.toList:=by
  rw[Jp];show tX (by simp)
 rw[N];rw[nY (by simp)];rw[GC]at g;refine nW<|rJ<|(Bp (prog:=P) (w:=w) j #v[s] l i y).done _ _ _ g λM n L=>?_;simp only[Option.isSome_none,tT,rX];refine ou<|h M n λb o e=>?_;have d:b∉[#v[s]]:=λz=>by
  have J:b=#v[s]:=by simpa using z
  rw[J]at e;show sr _<|oJ e
 show L b o d<|p b o d<|oH _ e
def ZQ(K:mK)(n:Nat)(t:yB):TG:=λv y H Q=>GT (SqL K) n H (λx=>t x y H Q) v
def Yfi(p:X.calm=true)(h:zM X es t)
  (l:(assignEach es X.env).length=n:=by rfl) (j:(assignEach es X.env).findIdx? (·.1)=none:=by rfl):PG X (.Tuple es k pos) (ZQ X.K n t):=by
 intro w s y H v u Q I r x;obtain@⟨a,i,g,d,x⟩:=x;cases r;obtain⟨a,q,c,M⟩:=I.list g;rw[assign_Tuple];refine nW<|Bt<|ZV (I.ok.hd p) c.isList (by simp[l,<-d,q.length]) j λY tk U=>?_;have N:nM X w y H {s with heap:=Y,toks:=tk}:=I.kept (t':=tk) λb o e=>U b o e
 show h w _ y H i _ Q N (by simpa using q) x
def AE(y:mD Int):Int:=y.foldl (· + ·) 0
theorem Mq(y:mD Int):∀j,preSum (λi=>y.getD i 0) j=AE (y.take j)\/y.length<j
 | 0=>.inl rfl
 | j+1=>by
  by_cases h:y.length<j+1
  ·show .inr h
  ·refine .inl ?_;rcases Mq y j with e|e
   ·have x:j<y.length:=by lia
    rw[preSum,e,oW,pJ x];unfold AE;rw[zx,ub,pJ x]
    rfl
   ·lia
def Ve(c:X.calm=true):Y7 X (.builtin "sum") (λxs H Q=>∃(p:mG)(w:mD Int),xs=[.ref p]/\SqL X.K H p (w.map V.int)/\Q (.int<|AE w) H):=by
 intro L s y H xs J Q I r h;obtain⟨p,w,rfl,a,q⟩:=h;obtain⟨u,rfl,Y⟩:=Wp r;cases Y;obtain⟨j,g,l,x⟩:=I.list a;have d:p<#v[s]:=by obtain⟨_,_,e,_⟩:=l;show oJ e
 refine call_sum_walkG<|yH l.isList ?_;refine#[#v[s],_,_,j.toArray.size,_,_,λi=>w.getD i 0,rfl,Bp (A:=X.A.in1) (show X.A.in1.handled=none from I.ok.hd c) #v[s] p (oQ d) j.toArray,#[#[_,pp _ rfl,rfl,rfl],l.isList.push _],?_,?_,λx tk U k=>?_]
 ·intro b x;have:=uv s.heap {cls:=.type "list_iterator",data:=.fields (List.toArray [.ref p,.int 0 0])};have u:b=#v[s]\/b=p:=by simpa using x
  change b<(s.heap.push _).objs.size;rw[this];rcases u with rfl|rfl
  ·show AN _
  ·show AL d
 ·intro i v o;obtain⟨x,u,N⟩:=Paired.get' g (i:=i) (b:=v) (by simpa using o);rw[oF]at u;obtain⟨n,M,rfl⟩:=oN.mp u;obtain⟨t,rfl⟩:=N;show#[t,by change Value.int n t=Value.int (w.getD i 0) t;rw[ub,M];rfl]
 ·have x:=g.length;rw[nQ]at x;refine#[.int<|AE w,H,?_,?_,q]
  ·refine I.kept (t':=tk) λb o e=>k b o ?_<|oH _ e
   have:=oJ e;intro z;have u:b=#v[s]:=by simpa using z
   rw[u]at this;show sr _ this
  ·refine#[U,?_];rw[ph,<-x];rcases Mq w w.length with e|e
   ·rw[e,pQ]
   ·lia
def sR(x:mF)(n:Nat):mF:=#[(List.replicate n x.cps).foldl (· ++ ·) #[]]
def VX:R2:=λx y H Q=>∃(z:mF)(n:Nat),x=.str z/\y=.int n/\z.length * n<=1000/\n<=1000/\Q (.str<|sR z n) H
def LN:oS X (binaryOp .Mult) VX:=by
 intro c s y H x w v u Q I l j h;obtain⟨z,n,rfl,rfl,p,o,q⟩:=h;obtain⟨t,rfl⟩:=l;obtain⟨o,rfl⟩:=j;refine PySem.P.mul_str ?_ ?_ ?_ ?_
 ·rw[pj (by lia),pj<|by lia];rfl
 ·intro r i g;have:((2:Int) ^ 63-1) / (n:Int) ≥ 1000:=by
   rw[ge_iff_le,Int.le_ediv_iff_mul_le<|by lia];lia
  have o:z.length<=z.length * n:=Nat.le_mul_of_pos_right _ (by lia);lia
 ·intro r i;change decide (z.length * (n:Int).toNat >sizeLine)=false;rw[pj];have:=sz (n:=z.length * n) p;rw[Ay];lia
 ·by_cases g:n=0
  ·subst g;rw[og (by lk)];show#[by lk,.str<|sR z 0,H,I.kept λb o e=>e,#[_,rfl],q]
  ·rw[nY (by lia)]
   by_cases r:((n:Int) ==1 || z.length ==0)=true
   ·rw[og r];refine#[.str<|sR z n,H,I,#[t,?_],q];have:sR z n=z:=by
     rw[DF,sI,sI]at r;rcases r with e|e
     ·have e:n=1:=by lia
      subst e;unfold sR;simp
     ·have e:z.cps=#[]:=Array.eq_empty_of_size_eq_zero e;have:∀m,(List.replicate m (#[]:Array Nat)).foldl (· ++ ·) #[]=#[]:=λm=>by
       induction m with
       | zero=>rfl
       | succ m d=>rw[List.replicate_succ,List.foldl_cons];simpa using d
      unfold sR;rw[e,this n];cases z;simp at e;rw[e]
    rw[this]
   ·rw[nY r,Ay];refine#[?_,.str<|sR z n,H,I.kept λb o e=>e,#[_,rfl],q];show fits_reps (by change decide (_ >sizeLine)=false;rw[pj];have:=sz (n:=z.length * n) p;lia)
def UO(K:mK)(s:TE)(ts:TO):TE:=λy H Q=>s y H λx r=>ts y r λk w=>∃a u,k=some (-1)/\x=.ref a/\SqL K w a u/\qv w (.lst u.reverse) Q
def Z8.rev(h:Z8 xs us):Z8 xs.reverse us.reverse:=by
 induction h with
 | nil=>show .nil
 | cons r _ y=>rw[za,za];show Paired.append y<|.cons r .nil
def Yg5{X:Cx}{e st:mQ}{n:TE}{ts:TO}{u pos:Pos}{ops:mH->mH->mD mH}(d:PE X e n)(c:PO X (some st) ts)(Y:∀l r,subscripted (.Slice none none (some st) u) false l r=operate (ops l r) (getItem l r)):PE X (.Subscript e (.Slice none none (some st) u) pos) (UO X.K n ts):=by
 intro w s y H Q I h;refine Subscript_<|Wr (d w s y H _ I h) λv U x N M L J=>?_;refine wpAny_Slice ?_;rw[evalPart_none];refine ou ?_;refine ou ?_;refine oK (c w U y N _ M J) λj s3 G=>?_
 obtain⟨k,E,D,C,a,B,A,hx,hq,q⟩:=G;subst A hx;cases L;have p:nM X w y E {s3 with heap:=s3.heap.push {cls:=.type "slice",data:=.fields (List.toArray [.none,.none,j])}}:=D.kept (t':=s3.toks) λb ob q=>oH _ q
 obtain⟨x,r,i,g⟩:=p.list hq;change ∅ (subscriptTail e (.Slice none none (some st) u) (.ref a)<|.ref #v[s3]) (EP X w y Q) X.xe {s3 with heap:=s3.heap.push {cls:=.type "slice",data:=.fields (List.toArray [.none,.none,j])}};refine tail_any (ops:=ops (.ref a)<|.ref #v[s3]) i.isList.typeIs GG.lookup ?_<|Y _ _;refine NP i.isList (Heap.IsSliceOf.new ..) .none .none C (by simp) ?_ (by rw[ph,<-r.length];show g);rw[PySem.W.krv_pick];refine#[.ref _,_,p.laid (t':=s3.toks) (o:=.lst B.reverse) (λb ob q=>oH _ q) (oq _) ?_,rfl,q.at _<|p.hok.fresh<|oq _];show#[by rw[wS];show g,_,0,Z8.rev r,pp _ rfl]
end L2
end
section
namespace L2
open PySem PySem.Spec PyProof.Rows
structure zK(K:Frag)(x qual:Str)(st:Stmt)(ps:List Str)(v:V) where
 f:Addr
 fd:FuncData
 dV:Value
 F:yg K x qual st dV f fd
 b:rj K fd ps []
 u:Value
 r:Yc v u
 b1:rj K fd ps [u]
def yg.okW{P:mS}{w:mP}{K:mK}{u:mF->mJ mH}{nI:mO}{x qual:mF}{st:mM}{r:mH}{f:mG}{fd:mU}{N ps:mD mF}{k:Nat}{y:Sp}(F:yg K x qual st r f fd)(S:Zw N ps (Zj st))
  (q:∀(c8:mH)(A:mT)(nG:mD Env)(s:mI)(H:Hp)(vs:mD V)(Q:VK)(E:XK),Y2 k (A.deeper<|envOfC qual (Zj st) #v[s] f c8)->y vs H Q E->
   let X:=(pS pL P w K u nI N qual (Zj st) f c8 A nG s H E).nox;let D:qD:={nx:=λ_ p=>Q .non p,rt:=Q};WSs X (Y6 st) D (start N vs) H) (len:∀vs H Q E,y vs H Q E->vs.length=ps.length:=by bv_omega):Wz P w K u nI pL (k+1) f fd ps y:=yg.ok F S len q
def Ax(y:Gl X x)(h:∃tk,X.mg x=some (.int v tk))(hd:(x ==("__debug__":mF))=false:=by lk):PE X (.Name x pos) (tC<|.int v):=by
 obtain⟨tk,h⟩:=h;show X2 y h #[tk,rfl] hd
def Dq{y:Type}{l:mD y}{a:y}(x:l.Nodup)(h:l[i]? =some a):a∉l.take i:=λm=>by
 have e:l=l.take i++(a ::l.drop (i+1)):=by rw[<-Iu h,wj]
 rw[e,rO]at x;show x.2.2 a m a pK rfl
section
variable {prog:mS} {w:mP} {KT:Type} [DecidableEq KT] {knd:HeapKind prog w KT} {A:mT} {E:mH->mI->Prop} {s:mI}
def Zuo(c:mG)(u:(c ==sysModules)=false):MeetsIn prog w (Builtin.«dict.__len__» #[[.ref c],[]]) (λ_ R s=>∃y,s.heap.DictOfH knd c y/\R (.ok<|.ret<|.int y.length s.toks) {s with toks:=s.toks+1}) :=
 .of_wp λA R s ⟨y,r,h⟩=>by
  obtain⟨o,n,l,q,_,x,p,_,_⟩:=r;change wpAny _ _ (dictSize c >>=_) _ _ s;unfold dictSize;refine nW<|nW<|wpAny_dictEntries q x<|ou ?_;change wpAny _ _ (Builtin.Dict.pendingCount c >>=_) _ _ s;refine nW<|wpAny_pendingCount_other u<|wpAny_ret_mkInt ?_;rw[EA,size_of_entries p];show h
def YQ{Q:mH->mI->Prop}(u:(c ==sysModules)=false)(x:s.heap.DictOfH knd c y)(r:(y.length:Int)<2 ^ 63)
  (h:Q (.int y.length<|s.toks+1) {s with toks:=s.toks+1+1}):wpAny (model prog w) A (call (.builtin "len") [.ref c]) Q E s:=by
 refine Hk kind_len plain_len entry_len (args_len1 _) ?_;unfold Builtin.«len»;refine nW (m:=oneArg "len" _)<|ou<|nW (m:=callSpecial? (.ref c)<|Str.ofString "__len__") ?_;refine wpAny_callSpecial?_slot (name:=Str.ofString "__len__") x.typeIs F.slot_dict_len<|vp F.slot_dict_len x.typeIs F.entry_dict_len (F.args_dict_len_1 _) (Zuo (knd:=knd) c u) #[y,x,?_];change wpAny _ _ _ _ _ {s with toks:=s.toks+1};refine nW<|rJ<|ou<|nW<|wpAny_letGo ?_;change wpAny _ _ (if((y.length:Nat):Int)<0 then _ else _) _ _ _;rw[nY (by lia)];change wpAny _ _ (if((y.length:Nat):Int) ≥ 2 ^ 63 then _ else _) _ _ _;rw[nY (by lia)];show nW<|wpAny_mkInt<|ou #[_,rfl,h]
end
def Fw:mD V->Hp->VK->Prop:=λx H Q=>∃a y,x=[V.ref a]/\H a=some (.dT y)/\Q (.int y.length) H
def OR:Y7 X (.builtin "len") Fw:=by
 intro i s y H g e Q I r h;obtain⟨a,x,rfl,p,q⟩:=h;obtain⟨u,rfl,o⟩:=Wp r;cases o;obtain⟨z,hd,n,l,j⟩:=JJ I.hok p;have w:x.length=n.length:=oz l;refine YQ hd j (by rw[<-w];rw[uh]at z;lia) ?_;rw[<-w];show#[.int _,H,I.tok _,#[_,rfl],q]
section
variable {prog:mS} {w:mP} {KT:Type} [DecidableEq KT] {knd:HeapKind prog w KT} {A:mT} {R:Result->mI->Prop} {l d it:mG} {tps:mD mG} {qs:mD (KT×mG×mH)} {h₀:mO}
def BF(knd:HeapKind prog w KT)(h:mO)(tps:mD mG)(qs:mD (KT×mG×mH)):Prop :=
 Paired (λp (q:KT×mG×mH)=>(∃o n,h.get? p=some o/\o.cls=.type "tuple"/\o.data=.seq (List.toArray [.ref q.2.1,q.2.2]) n)/\∃ok,h.get? q.2.1=some ok/\∀y:mO,y.get? q.2.1=some ok->knd.is y q.1 q.2.1) tps qs
def BF.key(y:BF knd h tps qs):∀q∈qs,∃ok,h.get? q.2.1=some ok/\∀h':mO,h'.get? q.2.1=some ok->knd.is h' q.1 q.2.1:=by
 unfold BF at y
 induction y with
 | nil=>intro q z;cases z
 | cons r _ x =>
  intro q z;rcases oM.mp z with rfl|z
  ·show r.2
  ·show x q z
def Yby{h h':mO}{x:mD (KT×mG×mH)}(u:h.DictOfH knd d x)(hd:∀o,h.get? d=some o->h'.get? d=some o)(s:∀y∈x,knd.is h' y.1 y.2.1):h'.DictOfH knd d x:=by
 obtain⟨o,r,q,p,n,j,i,_,g⟩:=u;show#[o,r,q,hd o p,n,j,i,s,g]
def Zji{Q:mH->mI->Prop}{E:mH->mI->Prop}(M:A.handled=none)(L:knd.room A.in1.in1)(J:s.heap.get? l=some {cls:=.type "list",data:=.seq (tps.map Value.ref).toArray n})(g:BF knd s.heap tps qs)(I:(qs.map (·.1)).Nodup)(hsz:qs.length<=sizeLine)
  (h:∀h' Y dd,h'.DictOfH knd dd qs->dd=#v[s]->s.heap.get? dd=none->(∀b o,s.heap.get? b=some o->h'.get? b=some o)->Q (.ref dd) {s with heap:=h',toks:=Y}) :
  wpAny (model prog w) A (call (.type "dict") [.ref l]) Q E s:=by
 have is_:∀h':mO,(∀b o,s.heap.get? b=some o->h'.get? b=some o)->∀q∈qs,knd.is h' q.1 q.2.1:=λh' H q G=>by
  obtain⟨ok,D,U⟩:=g.key q G;show U h'<|H _ _ D
 refine Nc (Pd:=λi h=>h.DictOfH knd #v[s] (qs.take i)/\∀b o,s.heap.get? b=some o->h.get? b=some o) M J (λi p e=>?_) #[Heap.DictOfH.new s.heap,λb o z=>oH _ z] (λi h h' a b c=>#[Yby a.1 b λy j=>is_ h' c y<|AQ j,c]) λh' Y dd e u=>?_
 ·obtain⟨q,x,⟨C,B,F4,p,E1⟩,_⟩:=Paired.get g e;have c:q∈qs:=qf x;refine#[_,_,C,B,F4,p,E1,λargs s' Q E u N=>wpAny_dictSet_heap (by rw[Cu (by left)];show L) (is_ _ u.2 q c) u.1 (λU a r=>N U _ #[?_,?_] r) ?_]
  ·have D5:atKey (qs.take i) q.1=none:=by
    cases e:atKey (qs.take i) q.1 with
    | none=>rfl
    | some z =>
     unfold atKey at e;obtain⟨y,j,_⟩:=oN.mp e;have y0:=List.find?_some j;have y1:y.1=q.1:=pA y0;have N:y.1∈(qs.map (·.1)).take i:=by rw[<-vU];show oh.mpr #[y,List.mem_of_find?_eq_some j,rfl]
     rw[y1]at N;show absurd N (Dq I<|by rw[oF,x];rfl)
   rw[show storedH (qs.take i) q.1 q.2.1 q.2.2=qs.take (i+1)from by rw[storedH_new D5,oW,x];rfl]at a;show a
  ·show λb o z=>by rw[r.2 _ (oQ<|oJ z)];show u.2 b o z
  ·rw[oZ];lia
 ·subst e;rw[show qs.take tps.length=qs from tX (by rw[oz g];show oq _)]at u;show h h' Y _ u.1 rfl
end
def KS:mD V->Hp->VK->Prop:=λw H Q=>∃(l:mG)(x:mD mG)(y:mD (mD om×V)),w=[.ref l]/\H l=some (.lst<|x.map V.ref)/\
 Paired (λt (q:mD om×V)=>∃a,H t=some (.tup [.ref a,q.2])/\H a=some (.tup<|q.1.map kV)) x y/\(y.map fst).Nodup/\qv H (.dT y) Q
def Zud(hc:X.calm=true)(hu:X.A.units+64<cLine):Y7 X (.type "dict") KS:=by
 intro a9 s y H xs us Q I r h;obtain⟨l,j,x,rfl,hl,c,hn,q⟩:=h;obtain⟨u,rfl,ru⟩:=Wp r;cases ru;obtain⟨hz,b9,n,Y,hg⟩:=(show Z9 X.prog X.w H s.heap l (.lst<|j.map V.ref)from I.hok l _ hl)
 rw[xv Y]at hg;have key:∀{j:mD mG}{x:mD (mD om×V)},Paired (λt (q:mD om×V)=>∃a,H t=some (.tup [.ref a,q.2])/\H a=some (.tup<|q.1.map kV)) j x->∃w,KT H x w/\BF (tupleKind<|Zz X.prog X.w) s.heap j w:=by
  intro j x c
  induction c with
  | nil=>show#[[],.nil,.nil]
  | cons r t U =>
   rename_i p q _ _;obtain⟨w,h1,h2⟩:=U;obtain⟨a,ra,rk⟩:=r;obtain⟨_,b9,Y,o,ho,z8,m,hd⟩:=(show Z9 X.prog X.w H s.heap p (.tup [.ref a,q.2])from I.hok p _ ra)
   obtain⟨k,v,rfl,N,M⟩:=xk Y;cases(show k=Value.ref a from N);obtain⟨_,K0,r2,o2,L,g,m2,G⟩:=(show Z9 X.prog X.w H s.heap a (.tup<|q.1.map kV)from I.hok a _ rk)
   show#[(q.1,a,v) ::w,.cons #[rfl,rk,M] h1,.cons #[#[o,m,ho,z8,hd],o2,L,λh' e=>#[o2,_,m2,e,g,G,by simpa using IB r2]] h2]
 obtain⟨w,E,T6⟩:=key c;have D:x.length=w.length:=oz E;have C0:x.length<=sizeLine:=by
  have:=oz c;rw[nQ]at hz;lia
 have M3:(w.map (·.1)).Nodup:=by
  have:∀{x:mD (mD om×V)}{w:mD (mD om×mG×mH)},KT H x w->w.map (·.1)=x.map fst:=by
   intro x w z
   induction z with
   | nil=>rfl
   | cons r t U=>rw[oR,oR,U,r.1]
  rw[this E];show hn
 refine Zji (knd:=tupleKind<|Zz X.prog X.w) (I.ok.hd hc) (Ag (A:=X.A.in1)<|by change X.A.units+1+1<cLine;lia) hg T6 M3 (by rw[<-D];show C0) λh' A7 i hD C d k=>?_
 have B:i≠sysModules:=λz=>by
  have hb:=I.big;rw[<-C,z]at hb;show sr _ hb
 have hH0:H i=none:=by
  cases e:H i with
  | none=>rfl
  | some u =>
   obtain⟨ob,z⟩:=(I.hok i u e).there;rw[d]at z;cases z
 obtain⟨o,es,ep,e1,e2,e3,e4,_,e5⟩:=hD;obtain⟨hH,J⟩:=I.laidAt (t':=A7) (o:=.dT x) k d (show Z9 X.prog X.w (nO H i<|.dT x) h' i (.dT x)from#[C0,uc.mpr B,w,E.keeps λb ys e=>by rw[Zd (Zf e hH0)];show e,o,es,ep,e1,e2,e3,e4,e5]);show#[.ref i,_,J,rfl,q.at i hH]
section
variable {E:mH->mI->Prop} {κ:KeyKind} {kd:SortKind}
def Lts(prog:mS)(w:mP)(A:mT)(s:mI)(κ:KeyKind)(kd:SortKind):Prop :=
 ∀(x y:mH)(a b:κ.α)(r:mH->mI->Prop)(u:Bool->mI->Prop),κ.keyOf x=some a->κ.keyOf y=some b->a≠b->u (κ.blt a b) s->wpAny (model prog w) A (keyLt' kd x y) u r s
def Yjh(κ:KeyKind)(o:Array Keyed):Prop:=(o.toList.map λp=>κ.keyOf p.1).Nodup
variable (hL:Lts prog w A s κ kd) (k:KeysOf κ o) (d:Yjh κ o)
include hL k d
end
end L2
end
section
namespace L2
open PySem PyProof.Rows
section
variable {prog:mS} {w:mP} {A:mT} {E:mH->mI->Prop} {s:mI} {o:Array Keyed} {kd:SortKind} {p:Array (Nat×Nat×Nat)} {st:SortSt}
def zG(prog:mS)(w:mP)(A:mT)(s:mI)(kd:SortKind)(o:Array Keyed):Prop :=
 ∀x∈o,∀y∈o,∀(r:mH->mI->Prop)(u:Bool->mI->Prop),(∀b,u b s)->wpAny (model prog w) A (keyLt' kd x.1 y.1) u r s
variable (L:zG prog w A s kd o)
include L
omit L
variable {a b out:Array Keyed} {x y z:mD Keyed} {v:Keyed}
omit L in
omit L in
include L
omit L
include L
omit L in
end
end L2
end
section
namespace L2
open PySem PySem.Spec PyProof.Rows
open Classical in
def yr(y:mD (mF×mG))(H:Hp):Hp:=λb=>if ∃x,y.lookup x=some b then none else H b
def Zz2(h:y.lookup x=some b):yr y H b=none:=og #[x,h]
def xV(h:∀x,y.lookup x≠some b):yr y H b=H b:=nY λ⟨x,z⟩=>h x z
def ME :nH (yr y H) H:=λb o e=>by
 unfold yr at e
 by_cases z:∃x,y.lookup x=some b
 ·rw[og z]at e;cases e
 ·rw[nY z]at e;show e
variable {X:Cx}
def Dy(I:nM X u y H s)(h:X.env.cells.lookup x=some c):∃o v,rZ X.env.cells H s.heap c=some (Fz o)/\s.heap.get? c=some o/\o.data=.cell v:=by
 obtain⟨v,o,w,hd⟩:=I.cell x c h;refine#[o,v,?_,w,hd];unfold rZ;rw[og #[x,h],w];rfl
def nM.noC(I:nM X u y H s)(w:∀x,X.fn x=true)(h:X.mV.heap.get? b=some o)(x:mF):X.env.cells.lookup x≠some b:=λz=>absurd (qB (oJ h)<|I.ok.cab x b (w x) z)<|sr _
def nM.env0C(I:nM X n y H s)(r:∀x,X.fn x=true):uo X.prog X.w X.K X.mg X.nI X.A X.stack s (rZ X.env.cells H s.heap):=by
 have E:=I.env0;refine#[E.frames,E.mod,λb o e=>#[(E.bs b o e).1,?_],E.bsz,E.funs,λb p=>?_,λb o e=>?_,E.bare]
 ·rw[zg λx=>I.noC r (I.ok.bs b o e).1 x];show(E.bs b o e).2
 ·rw[zg λx z=>?_]
  ·show E.frf b p
  ·rcases oM.mp (I.stkSub b p)with w|w
   ·show I.cne x b z w
   ·obtain⟨_,o,u,_⟩:=I.ok.funs.mem w;show I.noC r u x z
 ·by_cases z:∃x,X.env.cells.lookup x=some b
  ·obtain⟨x,z⟩:=z;obtain⟨l,v,q,u,j⟩:=Dy I z;rw[q]at e;cases e;show#[u,u,_,u]
  ·rw[zg λx w=>z #[x,w]]at e;show(I.hok b o e).stay (λ_ _ _ q=>q) (λc q=>Xf I q) (λc u q=>Xf I q) (λc o q=>Xf I q) (λc o q=>Xf I q)
def CE.lend(I:nM X D y H s)(h:CE X.stack X.prog X.w (rZ X.env.cells H s.heap) s Q u s'):CE X.stack X.prog X.w H s (λv M=>∃j,M=yr X.env.cells j/\(∀x c o,X.env.cells.lookup x=some c->s.heap.get? c=some o->j c=some (Fz o))/\Q v j) u s':=by
 obtain⟨v,j,os,d,un,g,r,q⟩:=h;have frz:∀x c o,X.env.cells.lookup x=some c->s.heap.get? c=some o->j c=some (Fz o):=λx c o L J=>by
  obtain⟨E,w,i,l,_⟩:=Dy I L;rw[J]at l;cases l;show un.frzs c _ _ i
 have Y:∀{b:mG}{o:HO},H b=some o->∀x,X.env.cells.lookup x≠some b:=λe x z=>by rw[I.freeC x _ z]at e;cases e
 have ad:∀{b:mG},(∀x,X.env.cells.lookup x≠some b)->H b=none->rZ X.env.cells H s.heap b=none:=λz n=>by rw[zg z];show n
 refine#[v,yr X.env.cells j,os,d,#[λb o i l U a=>?_,λb o i l U a=>?_,λb o i l a=>?_,un.there,λb N e=>?_,λb o u e=>?_,λb G e=>?_],λb o e=>?_,r,j,rfl,frz,q]
 ·by_cases z:∃x,X.env.cells.lookup x=some b
  ·obtain⟨x,z⟩:=z;show(g b _<|frz x b o z i).1
  ·show un.keep b o i (ad (λx p=>z #[x,p]) l) U a
 ·by_cases z:∃x,X.env.cells.lookup x=some b
  ·obtain⟨x,z⟩:=z;show#[o.slots,(g b _<|frz x b o z i).1]
  ·show un.slot b o i (ad (λx p=>z #[x,p]) l) U a
 ·by_cases z:∃x,X.env.cells.lookup x=some b
  ·obtain⟨x,z⟩:=z;show Zz2 z
  ·rw[xV λx p=>z #[x,p]];show un.free b o i (ad (λx p=>z #[x,p]) l) a
 ·rw[xV (Y e)];show un.tups b N<|Xf I e
 ·rw[xV (Y e)];show un.frzs b o u<|Xf I e
 ·obtain⟨m,z⟩:=un.tbls b G<|Xf I e;show#[m,by rw[xV (Y e)];show z]
 ·have soft:∀{c:mG}{o:HO},j c=some o->(∀E,o≠Fz E)->yr X.env.cells j c=some o:=λ{c o} z n=>by
   rw[xV]
   ·show z
   ·intro x p;obtain⟨_,w,_,l,_⟩:=Dy I p;rw[frz x c _ p l]at z;cases z;show n _ rfl
  show(g b o<|ME b o e).stay (λ_ _ _ q=>q) (λc q=>soft q λ_ z=>nomatch z) (λc N q=>soft q λ_ z=>nomatch z) (λc o q=>soft q λ_ z=>nomatch z) (λc o q=>soft q λ_ z=>nomatch z)
def CT(X:Cx)(y:St)(H:Hp)(S:Hp->VK->Prop)(Q:VK):Prop:=∀s,nH H s->(∀(i:Nat)(x:mF)(v:V)(c:mG),X.N[i]? =some x->y[i]? =some (some v)->X.env.scope.names.lookup x=some .cell->X.env.cells.lookup x=some c->H c=none/\CellAt s c v)->
 S s λv r=>∀w,nH w r->(∀b u o,H b=some u->r b=some o->w b=some o)->(∀b o,r b=some o->(∀x,o≠Fz x)->w b=some o)->Q v w
def Tt(F:Wz X.prog X.w X.K X.mg X.nI pL k f fd ps g)(d:Y2 k X.A)(a:∀x,X.fn x=true)(Y:rj X.K fd ps [])
  (I:nM X U y H s) (r:Z8 vs us) (h:CT X y H (λN M=>g vs N M E0) Q):∅ (call (.ref f) us) (EP X U y Q) X.xe s:=by
 have h:=h (rZ X.env.cells H s.heap) (λb o e=>Xf I e) λi x v c L j J G=>HH I L j J G
 have E:us.length=ps.length:=by rw[<-r.length];show F.len _ _ _ _ h
 have b:=Y s us I.kIn (by rw[qM];show E);rw[qM]at b;refine uU<|uS (F.run X.A X.stack s _ #[us,[]] us vs _ E0 d (I.env0C a) b r h) λr w l=>?_;cases r with
 | error e=>show False.elim l
 | ok D =>
  cases D with
  | ret u =>
   obtain⟨v,w,C,B,p,A,frz,q⟩:=I.after<|CE.lend I l;subst A;refine#[v,_,C,B,q _ ME (λb u o e e2=>?_) λb o e n=>?_]
   ·rw[xV λx z=>by rw[I.freeC x b z]at e;cases e];show e2
   rw[xV]
   ·show e
   ·intro x w;obtain⟨_,p,_,j,_⟩:=Dy I w;rw[frz x b _ w j]at e;cases e;show n _ rfl
  | next=>show False.elim l
  | brk=>show False.elim l
  | cont=>show False.elim l
def YU(X:Cx)(x:Sp)(t:TA):TE:=λy H Q=>t y H λw u=>CT X y u (λs r=>x w s r E0) Q
def Bh(F:Wz X.prog X.w X.K X.mg X.nI pL k f fd ps u)(o:Y2 k X.A)(n:∀x,X.fn x=true)(l:Gl X x)(j:X.mg x=some (.ref f))(i:keepIn X.K (.ref f)=true)(g:rj X.K fd ps [])
  (d:PA X (e ::es) t) (c:(x ==("__debug__":mF))=false:=by lk) (a:starEach (e ::es) X.env=(false,eval e X.env) ::starEach es X.env:=by rfl) (Y:(backTo pos<|starEach es X.env).any (·.1)=false:=by rfl) :
  PE X (.Call (.Name x p) (e ::es) [] pos) (YU X u t):=by
 intro U s y H Q I h;refine uQ<|yF I l j ?_ c;refine AY (h₀:=X.nI) I.ok.mod.kin i (uJ (d pos U s y H _ I h) λN M L J w r q=>#[w.kIn,?_]) a Y;show Tt F o n g w r q
def SG(X:Cx)(Pt:mG)(r:Arguments)(q:mQ)(p:Scope)(s:Pos)(y:mD (mF×mG)):TE:=λ_ H Q=>∃x,H Pt=some (.tbl<|Wb x)/\(s.line,s.col,X.env.qual++"<lambda>")∈x/\∀w u,nH H u->H w=none->Clo u Pt w (X.env.qual++"<lambda>") r q p y->Q (.ref w) u
def AR(p:X.env.code=.ref c)(o:PySem.W.codeHdIn X.K c Pt=true)(n:defaultsOf w X.env=([],[]):=by rfl)(l:closureFor u X.env=pure x:=by rfl):PE X (.Lambda w j u i) (SG X Pt w j u i x):=by
 intro L s y H Q I h;obtain⟨g,e,d,a⟩:=h;show Lu I n p (Hv I.ok.mod.kin o) e d l λr q J Y U N M=>#[.ref r,q,Y,rfl,a r q U N M]
section
variable {P:mS} {w:mP} {K:mK} {mg:mF->mJ mH} {nI:mO}
def rW.okL{x qual:mF}{st:mM}{f Pt:mG}{fd:mU}{N ps:mD mF}{k:Nat}{y:Sp}(F:rW K x qual st f fd)(L:wC K fd Pt)(S:Zw N ps (Zj st))
  (q:∀(c:mG)(A:mT)(u:mD Env)(s:mI)(H:Hp)(vs:mD V)(Q:VK)(E:XK),PySem.W.codeHdIn K c Pt=true->Y2 k (A.deeper<|envOfC qual (Zj st) #v[s] f (.ref c))->y vs H Q E->
   let X:=(pS pL P w K mg nI N qual (Zj st) f (.ref c) A u s H E).nox;let D:qD:={nx:=λ_ p=>Q .non p,rt:=Q};WSs X (Y6 st) D (start N vs) H) (len:∀vs H Q E,y vs H Q E->vs.length=ps.length:=by bv_omega):Wz P w K mg nI pL (k+1) f fd ps y:=by
 obtain⟨h,g,kV,e,d,a,o,Y,U,rfl,lk,n⟩:=F.ex;obtain⟨c,r,l⟩:=L;have r:o=.ref c:=r;subst r;refine Ej lk n S len λA u s H vs Q E j i=>?_
 show#[_,rQ.nox Zq,q c A u s H vs Q E l j i]
end
def kD:om->PyData
 | .inl i=>.int i
 | .inr x=>.str x
mutual
inductive Rp(H:Hp):PyData->V->Prop
 | str (x:Str):Rp H (.str x) (.str x)
 | bl (b:Bool):Rp H (.bool b) (.bl b)
 | int (i:Int):Rp H (.int i) (.int i)
 | lst {a:Addr} {xs:List V} {ds:List PyData}:H a=some (.lst xs)->uC H ds xs->Rp H (.list ds) (.ref a)
 | tup {a:Addr} {xs:List V} {ds:List PyData}:H a=some (.tup xs)->uC H ds xs->Rp H (.tuple ds) (.ref a)
 | dk {a:Addr} {kvs:List (om×V)} {ds:List PyData}:H a=some (.dK kvs)->uC H ds (kvs.map snd)->Rp H (.dict<|(kvs.map λp=>kD p.1).zip ds) (.ref a)
inductive uC(H:Hp):List PyData->List V->Prop
 | nil:uC H [] []
 | cons {d:PyData} {v:V} {ds:List PyData} {vs:List V}:Rp H d v->uC H ds vs->uC H (d ::ds) (v ::vs)
end
def uC.length{y:mD PyData}{vs:mD V}(h:uC H y vs):y.length=vs.length:=by
 induction y generalizing vs with
 | nil=>cases h;rfl
 | cons d _ t=>cases h with|cons _ h=>show pO Nat.succ<|t h
def Zyd(e:xy k u=true):Reads h u (kD k) []:=by
 rcases Xe e with⟨i,t,rfl,rfl⟩|⟨x,t,rfl,rfl⟩
 ·show .int i t
 ·show .str x t
def XO{es:mD DictEntry}{kvs:mD (om×mH)}(g:Pairs (Zz P w) es kvs):ReadsAll h (es.map (·.key)) (kvs.map λp=>kD p.1) []:=by
 induction g with
 | nil=>show .nil
 | cons y _ _ x=>show ReadsAll.cons (as:=[]) (bs:=[]) (Zyd y) x
def Vx{es:mD DictEntry}{kvs:mD (om×mH)}(h:Pairs (Zz P w) es kvs):es.map (·.val)=kvs.map snd:=by
 induction h with
 | nil=>rfl
 | cons u y _ x=>rw[oR,oR,y,x]
def Vl(h:KV kvs vs):Z8 (kvs.map snd) (vs.map snd)/\(vs.map λp=>kD p.1)=kvs.map λp=>kD p.1:=by
 induction h with
 | nil=>show#[.nil,rfl]
 | cons r t y=>show#[.cons r.2 y.1,by rw[oR,oR,y.2,r.1]]
def Rp.reads(I:nM X B y H s){d:PyData}{v:V}{u:mH}(f:Rp H d v)(r:Yc v u):∃as,Reads s.heap u d as/\∀a∈as,∃o,H a=some o:=by
 revert u;refine Rp.rec (motive_1:=λd v _=>∀{u:mH},Yc v u->∃as,Reads s.heap u d as/\∀a∈as,∃o,H a=some o) (motive_2:=λw U _=>∀{Y:mD mH},Z8 U Y->∃as,ReadsAll s.heap Y w as/\∀a∈as,∃o,H a=some o) ?_ ?_ ?_ ?_ ?_ ?_ ?_ ?_ f
 ·intro x u r;obtain⟨t,rfl⟩:=(show ∃t,u=Value.str x t from r)
  show#[[],.str x t,λ_ z=>nomatch z]
 ·intro b u r;obtain rfl:u=Value.bool b:=r;show#[[],.bool b,λ_ z=>nomatch z]
 ·intro i u r;obtain⟨t,rfl⟩:=(show ∃t,u=Value.int i t from r)
  show#[[],.int i t,λ_ z=>nomatch z]
 ·intro a Q w e h j u r;obtain rfl:u=Value.ref a:=r;obtain⟨_,M,n,N,g⟩:=(show Z9 X.prog X.w H s.heap a (.lst Q)from I.hok a _ e)
  obtain⟨as,q,l⟩:=j N;show#[a ::as,.list g rfl rfl q,λb c=>(oM.mp c).elim (λz=>#[_,(pO H z).trans e]) (l b)]
 ·intro a Q w e h j u r;obtain rfl:u=Value.ref a:=r;obtain⟨_,M,N,o,g,x,m,hd⟩:=(show Z9 X.prog X.w H s.heap a (.tup Q)from I.hok a _ e)
  obtain⟨as,q,l⟩:=j N;show#[as,.tuple g x hd q,l]
 ·intro a x w e h j u r;obtain rfl:u=Value.ref a:=r;obtain⟨_,_,U,i,o,A,ep,g,L,hd,_,n,_⟩:=(show Z9 X.prog X.w H s.heap a (.dK x)from I.hok a _ e)
  obtain⟨J,G⟩:=Vl i;obtain⟨as,q,l⟩:=j J;have E:=h.length;rw[nQ]at E;have D:((x.map λp=>kD p.1).zip w).map fst=x.map λp=>kD p.1:=List.map_fst_zip (by rw[nQ];lia)
  have C:((x.map λp=>kD p.1).zip w).map snd=w:=List.map_snd_zip (by rw[nQ];lia);refine#[a ::[]++as,.dict g L.1 hd ?_ ?_,λb c=>?_]
  ·rw[D,<-G];show XO n
  ·rw[C,Vx n];show q
  ·rcases oM.mp c with z|z
   ·show#[_,(pO H z).trans e]
   ·show l b z
 ·intro Y r;cases r;show#[[],.nil,λ_ z=>nomatch z]
 ·intro d v w U h t x p Y r;cases r with
  | cons r n =>
   obtain⟨as,q,l⟩:=x r;obtain⟨bs,i,L⟩:=p n;show#[as++bs,.cons q i,λb c=>(pC.mp c).elim (l b) (L b)]
def zA:mD V->Hp->VK->Prop:=λy H Q=>∃(a:mG)(d:PyData),y=[.ref a]/\Rp H d (.ref a)/\d.showable=true/\d.depth<=60/\d.shown.length<=sizeLine/\Q (.str d.shown) H
def Bu(x:∃w,X.nI.Ns sysModules w)(p:X.A.guards=some [])(N:X.A.units+64<cLine):Y7 X (.builtin "repr") zA:=by
 intro M s y H L J Q I r h;obtain⟨a,d,rfl,n,l,hd,j,q⟩:=h;obtain⟨u,rfl,i⟩:=Wp r;cases i;obtain⟨o,g,c⟩:=n.reads I (u:=.ref a) rfl;refine repr_of_reads' g l (λ_ Y=>?_) p (by lia) (λ_ _ e=>e) (λU u tk x=>?_) j
 ·obtain⟨o,e⟩:=c _ Y;obtain⟨w,o,d,G,x,_⟩:=x;rw[(I.bs _ _ x).2]at e;cases e
 ·show#[.str _,H,I.un (h':=U) (t':=tk) (Un.kept x)<|I.hok.kept x,#[_,rfl],q]
def Zxo{P:mS}{w:mP}{K:mK}{L mb:mF->mJ mH}{k:Nat}{fa a:mG}{fd:mU}{x:mF}{l:mI}{vs:mD mH}{J:mD Int}{tabs:mD (mG×Array mH)}
  (KX:K.In l.heap) (G:l.heap.Ns mainGlobals L) (Y:l.heap.Ns builtinsNs mb) (hbb:∀x:mF,x≠ "__name__"->mb x=bootBuiltins x) (E:l.heap.NoLimit) (hbm:NK L l.heap) (hg:l.gens=#[])
  (D:l.heap.get? a=some {cls:=.type "list",data:=.seq vs.toArray}) (hi:IntsAre vs J) (hl:J.length<=63) (hr:Y2 k callerA) (TO:Dl K l.heap tabs)
  (hsm:∃mm,l.heap.Ns sysModules mm) (F:∀nI:mO,K.In nI->nI.Ns mainGlobals L->(∃mm,nI.Ns sysModules mm)->Wz P w K L nI pL k fa fd [x] (zB K tabs)) (M:∀(s:mI)(u:mH),BindsTo s fd #[[u],[]] [(x,u)]) :
  codeAny (model P w) callerA (.call (.ref fa) #[[.ref a],[]]) (λr s'=>r=.ok (.ret<|.bool true)/\OldK l.heap s'.heap/\s'.os=l.os/\AllBare s'.gens) l:=by
 have rv:=Vg hi;have C:=hi.length;have S2:J.length<=sizeLine:=oU hl (by lk);have i:∀{b:mG}{j:Array mH},tabs.lookup b=some j->l.heap.get? b=some (PySem.W.tabObj #[]):=λe=>TO.emp _<|Ez e
 have core:∀H:Hp,SqL K H a (J.map V.int)->pe P w H l.heap->(∀b u,H b=some u->(b=a/\K.lookup a=none/\∃o xs,u=.frz o (.lst xs))\/∃j,tabs.lookup b=some j/\u=.tbl j)->(∀p∈tabs,H p.1=some (.tbl p.2))->
   codeAny (model P w) callerA (.call (.ref fa) #[[.ref a],[]]) (λr s'=>r=.ok (.ret<|.bool true)/\OldK l.heap s'.heap/\s'.os=l.os/\AllBare s'.gens) l:=by
  intro H hS B hA hT;have K2:∀{b:mG}{o:Obj},l.heap.get? b=some o->H b=none->(vZ l.heap H).get? b=some o:=λe n=>Tq e n
  have A:∀{b:mG}{o:Obj},l.heap.get? b=some o->(∀vs n,o.data≠.seq vs n)->(∀vs,o.data≠.fields vs)->H b=none:=λ{b o} e d1 d2=>by
   cases q:H b with
   | none=>rfl
   | some u =>
    rcases hA b u q with⟨Q,_⟩|⟨j,Q,_⟩
    ·subst Q;rw[D]at e;cases e;show absurd rfl<|d1 _ _
    ·rw[i Q]at e;cases e;show absurd rfl<|d2 _
  have U:∀{b:mG}{m:mF->mJ mH},l.heap.Ns b m->(vZ l.heap H).Ns b m:=λ{b m} ⟨o,es,ep,e,d,r⟩=>#[o,es,ep,K2 e (A e (λ_ _ z=>by rw[d]at z;cases z) λ_ z=>by rw[d]at z;cases z),d,r]
  have hKb:K.In (vZ l.heap H):=λb o e=>K2 (KX b o e) (by
   cases q:H b with
   | none=>rfl
   | some u =>
    rcases hA b u q with⟨Q,y,_⟩|⟨j,Q,_⟩
    ·subst Q;rw[y]at e;cases e
    ·have g:=KX b o e;rw[i Q]at g;cases g;have h2:=xx.mp TO.nt _<|PySem.W.mem_of_lookupK e;show absurd (show false=true from h2) pi)
  have hM:Mod K L (vZ l.heap H):=#[hKb,U G,#[mb,U Y,hbb],let⟨mc,g,h2⟩:=E;#[mc,U g,h2],by
   obtain⟨bm,ob,b1,b2,c,b4,b5,y⟩:=hbm;show#[bm,ob,b1,b2,K2 c (A c (λ_ _ z=>by rw[y]at z;cases z) λ_ z=>by rw[y]at z;cases z),b4,b5,y]]
  have e0:uo P w K L (vZ l.heap H) callerA [] l H:=#[rfl,hM,λb o e=>Ycl e,yt<|Ul _ _,trivial,λb Y=>absurd (show b∈([]:mD mG)from Y) (by simp),B,.of_eq hg]
  refine uS ((F _ hKb (U G)<|hsm.imp λ_ z=>U z).run callerA [] l H #[[.ref a],[]] [.ref a] [.ref a] (λv _=>v=.bl true) E0 hr e0 (M l<|.ref a) (.cons rfl .nil) #[a,J,rfl,hS,hl,hT,λ_=>rfl]) λr s' h=>?_
  cases r with
  | error e=>show False.elim h
  | ok fl =>
   cases fl with
   | next=>show False.elim h
   | brk=>show False.elim h
   | cont=>show False.elim h
   | ret u =>
    obtain⟨v,y,os,bare,un,M4,r',q⟩:=h;have q':v=.bl true:=q;subst q';obtain rfl:u=Value.bool true:=r';refine#[rfl,#[λb o e=>?_,λb o e=>un.there b o e<|by simp],os,bare];cases q:H b with
    | none=>show .inl (un.keep b o e q (by intro z;show absurd (show b∈([]:mD mG)from z)<|by simp)<|by simp)
    | some u =>
     rcases hA b u q with⟨_,_,ob,xs,z⟩|⟨j,z,z2⟩
     ·subst z;have z2:=un.frzs b ob _ q;obtain⟨y,_⟩:=B b _ q;obtain⟨c,_⟩:=M4 b _ z2;rw[e]at y;cases y;show .inl c
     ·subst z2;obtain⟨more,y⟩:=un.tbls b j q;have Q:=i z;rw[e]at Q;cases Q;obtain⟨c,hc⟩:=TO.cod _<|Ez z;obtain⟨qs,y1,_⟩:=M4 b _ y;show .inr<|.inl #[((Hv KX hc).tab e).isCodeTable,rfl,#[],qs,rfl,by rw[y1];simp]
 have tabH:∀p∈tabs,p.1≠a:=λp I z=>by
  have:=TO.emp p I;rw[z,D]at this;cases this
 have N:∀{H:Hp}{b:mG}{j:Array mH},tabs.lookup b=some j->Z9 P w H l.heap b (.tbl j):=λ{H b j} e=>by
  obtain⟨ls,hq,nd⟩:=TO.shape _<|Ez e;have hq:j=Wb ls:=hq;subst hq;show#[_,i e,.inr #[ls,[],rfl,nd,rfl,λ_ z=>nomatch z]]
 cases hk:K.lookup a with
 | some o =>
  have e:=KX a o hk;rw[D]at e;cases e;refine core (λb=>(tabs.lookup b).map HO.tbl) (.inr #[_,vs.toArray,_,hk,rfl,rfl,rfl,by rw[ph,C];show S2,by simpa using rv]) (λb u z=>?_) (λb u z=>?_) λp I=>?_
  ·obtain⟨j,g,rfl⟩:=oN.mp z;show N g
  ·obtain⟨j,g,rfl⟩:=oN.mp z;show .inr #[j,g,rfl]
  ·change(tabs.lookup p.1).map HO.tbl=_;rw[Fb TO.nd I];rfl
 | none =>
  refine core (λb=>if b=a then some (.frz {cls:=.type "list",data:=.seq vs.toArray} (.lst<|J.map V.int))else(tabs.lookup b).map HO.tbl) (.inl<|.inr #[{cls:=.type "list",data:=.seq vs.toArray},og rfl]) (λb u z=>?_) (λb u z=>?_) λp I=>?_
  ·by_cases Y:b=a
   ·have y:=(og Y).symm.trans z;cases y;subst Y;show#[D,by rw[nQ];show S2,vs,_,rv,D]
   ·have y:=(nY Y).symm.trans z;obtain⟨j,g,rfl⟩:=oN.mp y;show N g
  ·by_cases Y:b=a
   ·have y:=(og Y).symm.trans z;cases y;show .inl #[Y,hk,_,_,rfl]
   ·have y:=(nY Y).symm.trans z;obtain⟨j,g,rfl⟩:=oN.mp y;show .inr #[j,g,rfl]
  ·change(if p.1=a then _ else _)=_;rw[nY (tabH p I),Fb TO.nd I];rfl
def walk_ofS{l:PySem.W.OpenLaw}{k:Nat}{q:mS}{g:mD mF}{e:(mF->mJ mH)->mO->Prop}{n:mP->mO->Prop}{d:DefRec}{K:Params->mK}{x:mF}
  (c:l.most=some 63) (j:d.params.defaults=[]) (U:Y2 k callerA) (Q:∀(w:mP)(h:mO),n w h->(K w.params).In h)
  (F:∀(w:mP)(y:mF->mJ mH)(p:mG)(h:mO),n w h->(K w.params).In h->h.Ns mainGlobals y->y d.name=some (.ref p)->
   ∃(fd:mU)(tabs:mD (mG×Array mH)),Dl (K w.params) h tabs/\(∀(s:mI)(u:mH),BindsTo s fd #[[u],[]] [(x,u)])/\
    ∀nI:mO,(K w.params).In nI->nI.Ns mainGlobals y->(∃N,nI.Ns sysModules N)->Wz l.prog w (K w.params) y nI pL k p fd [x] (zB (K w.params) tabs)) (M:importsNone q=true) :
  PySem.W.WalkO q g e n l.row.toRowW d [] (λf vs=>PySem.call f vs):=by
 refine Att.attach_call c j λw D C y B p o A cd B1 a vs ns G Y ho hd E3 i r L J I=>?_
 have KX:=Q w _ Y;obtain⟨fd,tabs,TO,H,E⟩:=F w y p _ Y KX G.T.g i;show Zxo KX G.T.g G.T.b G.T.builtins G.T.nolimit G.T.bmain I r L J U TO ((G.T.seer M).mods.imp λ_ z=>z.1) E H
def Yce:V->mD V->Hp->VK->Prop:=λx y H Q=>∃(l:mG)(bs:mD Bool)(b:Bool)(j:Nat),x=.ref l/\y=[.bl b]/\H l=some (.lst<|bs.map V.bl)/\j<1000/\bs[j]? =some b/\(∀i,i<j->bs[i]? ≠some b)/\Q (.int (j:Nat)) H
def Zy3:Bo X "list.index" Yce:=by
 intro J s y H x G v E Q I d a h;obtain⟨l,bs,b,j,rfl,rfl,Y,u,U,N,q⟩:=h;cases d;obtain⟨u,rfl,M⟩:=a.one;cases M;obtain⟨z,u,n,r,c,e⟩:=I.lstM Y;obtain rfl:=He r;obtain⟨L,p⟩:=pT.mp U;refine xr F.slot_list_index #[_,e,rfl] F.entry_list_index (F.args_list_index_2 _ _) (SeqAt.list_indexAt l _ n _ _ (.bool b) (Be b) j (by simpa using L) (by lia) ?_ λm o i=>?_) #[e,λw g=>?_,#[.int _,H,I.tok _,#[_,rfl],q]]
 ·simp[Be,p]
 ·have o:m<bs.length:=by simpa using o
  have:=N m i;rw[pJ o]at this;simpa[Be]using this
 ·have g:w∈bs.map Value.bool:=by simpa using g
  obtain⟨c,_,rfl⟩:=oh.mp g;show HK c b
def Iq(P:mS)(w:mP)(K:mK)(x:mF->mJ mH)(nI:mO)(k:Nat)(f:mG)(H:Hp)(Q:VK)(E:XK):Prop :=
 ∀(A:mT)(y:mD Env)(s:mI),Y2 k A->uo P w K x nI A y s H->codeAny (model P w) A (.call (.ref f) #[[],[]]) (CR (pU P w) y P w H s Q E) s
def WH(P:mS)(w:mP)(K:mK)(s:mF->mJ mH)(nI:mO)(k:Nat)(E:XK)(r:TE):TE:=λy H Q=>r y H λx u=>∃f,x=.ref f/\xF u f/\Iq P w K s nI k f u Q E
def Yb3(j:Y2 k X.A)(i:PE X (.Name x p) g)(d:ua (pU X.prog X.w) X E):PE X (.Call (.Name x p) [] [] pos) (WH X.prog X.w X.K X.mg X.nI k E g):=by
 intro n s y H Q I h;refine uQ<|oK (i n s y H _ I h) λu l c=>?_;obtain⟨w,a,o,Y,f,U,N,M⟩:=c;subst U;obtain rfl:u=Value.ref f:=Y;refine PySem.W.callWith_F0 (N.at o)<|uU<|uS (M X.A X.stack l j o.env0) λr L q=>?_;cases r with
 | error e=>show d n y a l e L o q
 | ok w =>
  cases w with
  | ret u=>show o.after q
  | next=>show False.elim q
  | brk=>show False.elim q
  | cont=>show False.elim q
section
variable {P:mS} {w:mP} {K:mK} {mg:mF->mJ mH} {nI:mO}
def AH(P:mS)(w:mP)(K:mK)(mg:mF->mJ mH)(nI:mO)(N:mD mF)(q:mF)(scope:Scope)(f:mG)(x:mH)(y:mD (mF×mG))(A:mT)(u:mD Env)(s:mI)(H:Hp)(E:XK):Cx :=
 {Es P w K mg nI N q scope f x y A u s H with xe:=λe p=>wpAny (model P w) (A.deeper<|PySem.W.envX q scope #v[s] f x y) (leaving (PySem.W.envX q scope #v[s] f x y) e) (λ_ r=>pU P w u H s E e r) (λo r=>pU P w u H s E o r) p}
def By :ua (pU P w) (AH P w K mg nI N q scope f l x A j s H E) E:=by
 intro L y J G e i I h;obtain⟨g,cls,o,Y,rfl,os,u,un,r,⟨U,B,d,c⟩,a⟩:=h;have n:=I.call' os un r u (λb z=>absurd z<|by simp);change wpAny _ _ (leaving _<|.ref g) _ _ i;refine NX n.ok.frames rfl d λD p up=>?_
 show NA (X:=AH P w K mg nI N q scope f l x A j s H E) rfl rfl rfl n p up (λb o Y U Q=>c b o Y (U.imp_left λ⟨M,z⟩=>I.nI.there b M z<|by change b∉([]:mD mG);simp) Q) a
def SO(C:Clo H Pt l q G I p x)(L:sL H p x fs fvs)
  (D:∀(pm c8 B6:mH),bindArgs (PySem.W.kla_fn "<lambda>" q G I p x pm c8 B6) #[[],[]]=pure []) (A3:∀y∈p.names,y.2=.free->y.1∈fs) (Y:∀y∈p.names,y.2≠.cell)
  (hk:p.kind=.function) (T8:p.isCoroutine=false) (K6:p.isGenerator=false)
  (body:∀(c:mG)(A:mT)(j:mD Env)(s:mI),Y2 k (A.deeper<|PySem.W.envX q p #v[s] l (.ref c) x)->
   WE (AH P w K mg nI fs q p l (.ref c) x A j s (offL H x) (λcls h u=>∀r,nH u r->(∀b∈x.map snd,r b=H b)->E cls h r)) I (fvs.map some) (offL H x) (λv u=>∀r,nH u r->(∀b∈x.map snd,r b=H b)->Q v r)):Iq P w K mg nI (k+1) l H Q E:=by
 intro A j s hr U;have g:∀{u:Hp}{b:mG},b∈x.map snd->sh H u x b=H b:=λ{u b} z=>by unfold sh;rw[og z]
 have conv:∀{e:mH}{a:mI},pU P w j (offL H x) s (λcls h u=>∀r,nH u r->(∀b∈x.map snd,r b=H b)->E cls h r) e a->pU P w j H s E e a:=λ{e a} h9=>by
  obtain⟨ea,cls,h,u,e1,os,d,JB,N,⟨a0,B,l,pB⟩,e2⟩:=h9;obtain⟨un,ok,M⟩:=PB L U JB N;refine#[ea,cls,h,sh H u x,e1,os,d,un,ok,#[a0,B,l,λb o J z2 n=>pB b o J ?_ n],e2 _ M λb z=>g z]
  by_cases y:b∈x.map snd
  ·obtain⟨_,_,J,_⟩:=L.isC y;show .inl #[_,(U.hok b _ J).1]
  ·refine z2.imp_right λn=>?_
   unfold sh at n;rw[nY y]at n;show n
 show Md (gs:=[]) (gvs:=[]) C L D (λy o=>nomatch o) rfl (λi y v o n=>by cases o) A3 Y hk T8 K6 hr U (λc=>body c A j s) (λv u z M=>z _ M λb z=>g z) λc e a hs=>qQ hs (λ_ O1 z=>conv z) λe' O1 z=>conv z
end
end L2
end
section
namespace YM
open PySem L2 NM
def vA(c k:Int):Int:=((c+7919 * k) * 48271%2147483647) * ((c+7919 * k) * 48271%2147483647+2 * k+1)%2147483629
def SR(c k:Int):0<=vA c k:=qT _ (by lk)
def To(c k:Int):vA c k<2147483629:=qZ _ (by lk)
def Er(y:mD Int)(k:Nat):Int:=match y[k]? with
 | some c=>vA c k
 | none=>0
abbrev Zh:=mF×mF
def Yq(k:mF):mD mF:=if k ="points" then["stem","left","right"]else if k ="cross" then["a","b","c","d"]else if k ="plain" then["a","b"]else["a"]
def uf(i:Int):Nat:=rG.getD i.toNat 0
def tR(k:Nat):mF:=toString (k:Int)
def Ys(kind:mF)(c:Int)(k:Nat):mF:=if c%3=0 then#[(List.toArray [kind.cps.toList.getD 0 0])]++tR k else(#[(List.toArray [uf (c / 3%26)])]++#[(List.toArray [uf (c / 78%26)])])++sR "0" (c / 2028%3).toNat++tR k
def Co:∀k,k<100->(tR k).length<=2:=by left
def Fe{k:Nat}(h:k<100):(k:Int).natAbs.log2<1920:=by
 rw[Int.natAbs_natCast];refine Ig (Nat.log2_le_self k) (by lia)
def vn(a c:Nat):Nat:=if 48<=c/\c<=57 then a * 10+(c-48)else 0
def uw(s:mF):Nat:=s.cps.toList.foldl vn 0
def GS:∀k,k<100->uw (tR k)=k:=by left
def DO:∀k,k<100->0<(tR k).length:=by left
def Zzi:∀m,m<3->(sR "0" m).cps.toList.foldl vn 0=0:=by left
def TJ:∀m,m<3->(sR "0" m).length=m:=by left
def VN:∀i,i<26->97<=rG.getD i 0/\rG.getD i 0<=122:=by left
def RW{i:Int}(y:0<=i)(x:i<26):97<=uf i/\uf i<=122:=VN i.toNat (by lia)
def vv(x y:mF):(x++y).cps.toList=x.cps.toList++y.cps.toList:=zX x y
def xM{kind:mF}{c:Int}{k:Nat}(x:57<kind.cps.toList.getD 0 0)(h:k<100):uw (Ys kind c k)=k:=by
 have y:∀a c,57<c->vn a c=0:=λa c h=>by unfold vn;rw[nY (by lia)]
 unfold Ys;split
 ·unfold uw;rw[vv,zx];change List.foldl vn (vn 0<|kind.cps.toList.getD 0 0) _=k;rw[y _ _ x];show GS k h
 ·have s:=qT (c / 3) (show(26:Int)≠0 by lk);have r:=qZ (c / 3) (show(0:Int)<26 by lk);have w:=qT (c / 78) (show(26:Int)≠0 by lk);have u:=qZ (c / 78) (show(0:Int)<26 by lk);have q:=qT (c / 2028) (show(3:Int)≠0 by lk);have p:=qZ (c / 2028) (show(0:Int)<3 by lk);unfold uw;rw[vv,vv,vv,zx,zx,zx];change List.foldl vn (List.foldl vn (vn (vn 0<|uf<|c / 3%26)<|uf<|c / 78%26) _) _=k;rw[y _ (uf<|c / 78%26) (by have:=RW w u;lia),Zzi _<|by lia];show GS k h
def zY{kind:mF}{c:Int}{k:Nat}(h:k<100):2<=(Ys kind c k).length:=by
 have:=DO k h;unfold Ys;split
 ·rw[qI];change 2<=1+_;lia
 ·rw[qI,qI,qI];change 2<=1+1+_+_;lia
def Vi{kind:mF}{c:Int}{k:Nat}(h:k<100):(Ys kind c k).length<=6:=by
 have:=Co k h;unfold Ys;split
 ·rw[qI];change 1+_<=6;lia
 ·have y:=qT (c / 2028) (show(3:Int)≠0 by lk);have x:=qZ (c / 2028) (show(0:Int)<3 by lk);rw[qI,qI,qI,TJ _<|by lia];change 1+1+_+_<=6;lia
def Yl(ps:mD Zh):mD Zh:=ps.flatMap λp=>(Yq p.1).map λe=>(p.2,e)
def Xm(y:mD (Zh×Zh)):mD Zh:=y.flatMap λj=>[j.1,j.2]
def Ff(a b:mD Zh):Yl (a++b)=Yl a++Yl b:=wI ..
def AX(a b:mD (Zh×Zh)):Xm (a++b)=Xm a++Xm b:=wI ..
def rh:mD mF:=["plain","points","cross","gate","stop"]
structure Net(ps:List Zh)(js:List (Zh×Zh))(opn:List Zh):Prop where
 perm:(Xm js++opn).Perm (Yl ps)
 nd:(ps.map snd).Nodup
 apart:∀j∈js,j.1.1≠j.2.1
 kind:∀p∈ps,p.1∈rh
inductive rA(n1 n2 n3 n4:Str):List Zh->List (Zh×Zh)->Zh->Zh->Prop
 | plain (a b:Str) (h:(a,b)∈[(("a":Str),("b":Str)),("b","a")]):rA n1 n2 n3 n4 [("plain",n1)] [] (n1,a) (n1,b)
 | loop (a b:Str) (h:(a,b)∈[(("left":Str),("right":Str)),("right","left")]):rA n1 n2 n3 n4 [("points",n1),("plain",n2),("plain",n3),("points",n4)] [((n1,"left"),(n2,"a")),((n1,"right"),(n3,"a")),((n2,"b"),(n4,a)),((n4,b),(n3,"b"))] (n1,"stem") (n4,"stem")
 | siding (x a b k:Str) (h:[x,a,b].Perm ["stem","left","right"]) (hk:k∈[("stop":Str),"gate"]):rA n1 n2 n3 n4 [("points",n1),("plain",n2),(k,n3)] [((n1,x),(n2,"b")),((n2,"a"),(n3,"a"))] (n1,a) (n1,b)
 | cross (k:Str) (hk:k∈[("gate":Str),"stop"]):rA n1 n2 n3 n4 [("cross",n1),("gate",n2),(k,n3)] [((n1,"c"),(n2,"a")),((n3,"a"),(n1,"d"))] (n1,"a") (n1,"b")
def DY{y:Type}{d:y}{l m:mD y}(x:mD Nat)(h:x.Perm (List.range m.length))(e:l=x.map λi=>m.getD i d):l.Perm m:=by
 have w:((List.range m.length).map λi=>m.getD i d)=m:=by
  apply List.ext_getElem
  ·simp
  ·intro i s u;simp[ub,u]
 rw[e];show(h.map _).trans (by rw[w])
def rA.sub{y x w u:mF}{ps:mD Zh}{s:mD (Zh×Zh)}{a b:Zh}(h:rA y x w u ps s a b):(ps.map snd).Sublist [y,x,w,u]:=by
 cases h with
 | plain=>show .cons_cons _ (Dt _)
 | loop=>show List.Sublist.refl _
 | siding=>show .cons_cons _ (.cons_cons _<|.cons_cons _<|Dt _)
 | cross=>show .cons_cons _<|.cons_cons _<|.cons_cons _<|Dt _
def zr{k:mF}(y:k ="gate"\/k ="stop"):Yq k=[("a":mF)]:=by rcases y with rfl|rfl<;>decide +kernel
def Nw:Yq "points"=[("stem":mF),"left","right"]:=by left
def Cs:Yq "plain"=[("a":mF),"b"]:=by left
def WU:Yq "cross"=[("a":mF),"b","c","d"]:=by left
def rA.perm{y w u r:mF}{ps:mD Zh}{o:mD (Zh×Zh)}{a b:Zh}(h:rA y w u r ps o a b):(Xm o++[a,b]).Perm (Yl ps):=by
 cases h with
 | plain a b h =>
  simp only[oM,vO,rC,Ad]at h;rcases h with⟨rfl,rfl⟩|⟨rfl,rfl⟩
  ·simp[Xm,Yl,Cs]
  ·simp only[Xm,Yl,Cs,List.flatMap_nil,As,oR,vq,IN,qM];show BC _ _ _
 | loop a b h =>
  have q:Yl [("points",y),("plain",w),("plain",u),("points",r)]=([(y,"stem"),(y,"left"),(y,"right"),(w,"a"),(w,"b"),(u,"a"),(u,"b"),(r,"stem"),(r,"left"),(r,"right")]:mD Zh):=by simp[Yl,Nw,Cs]
  rw[q];simp only[oM,vO,rC,Ad]at h;rcases h with⟨rfl,rfl⟩|⟨rfl,rfl⟩
  ·show DY (d:=(y,y)) [1,3,2,5,4,8,9,6,0,7] (show List.Perm _ (List.range 10) by lk) rfl
  ·show DY (d:=(y,y)) [1,3,2,5,4,9,8,6,0,7] (show List.Perm _ (List.range 10) by lk) rfl
 | siding x a b k h p =>
  have s:k ="gate"\/k ="stop":=by
   simp only[oM,vO,rC]at p;show p.symm
  have q:Yl [("points",y),("plain",w),(k,u)]=([("stem":mF),"left","right"].map λe=>(y,e))++([(w,"a"),(w,"b"),(u,"a")]:mD Zh):=by simp[Yl,Nw,Cs,zr s]
  rw[q];refine Em ?_<|DK _<|h.map λe=>(y,e);show DY (d:=(y,y)) [0,4,3,5,1,2] (show List.Perm _ (List.range 6) by lk) rfl
 | cross k p =>
  have s:k ="gate"\/k ="stop":=by
   simp only[oM,vO,rC]at p;show p
  have q:Yl [("cross",y),("gate",w),(k,u)]=([(y,"a"),(y,"b"),(y,"c"),(y,"d"),(w,"a"),(u,"a")]:mD Zh):=by simp[Yl,WU,zr s,zr (k :="gate")<|.inl rfl]
  rw[q];show DY (d:=(y,y)) [2,4,5,3,0,1] (show List.Perm _ (List.range 6) by lk) rfl
def rA.kind{u s r q:mF}{ps:mD Zh}{o:mD (Zh×Zh)}{a b:Zh}(h:rA u s r q ps o a b):∀p∈ps,p.1∈rh:=by
 cases h with
 | plain=>intro p y;simp at y;subst y;simp[rh]
 | loop=>intro p y;simp at y;rcases y with rfl|rfl|rfl|rfl<;>simp[rh]
 | siding x a b k h w=>intro p y;simp at y w;rcases y with rfl|rfl|rfl<;>rcases w with rfl|rfl<;>simp[rh]
 | cross k w=>intro p y;simp at y w;rcases y with rfl|rfl|rfl<;>rcases w with rfl|rfl<;>simp[rh]
def rA.apart{w u s r:mF}{ps:mD Zh}{q:mD (Zh×Zh)}{a b:Zh}(h:rA w u s r ps q a b)(p:[w,u,s,r].Nodup):∀j∈q,j.1.1≠j.2.1:=by
 simp only[qU,oM,vO,rC,Af,tV,not_false_eq_true,wL,and_true]at p;obtain⟨⟨x,n,l⟩,⟨x,n⟩,i⟩:=p;cases h with
 | plain=>intro j y;cases y
 | loop=>intro j y;simp at y;rcases y with rfl|rfl|rfl|rfl<;>first|assumption|show pH (by assumption)
 | siding x a b k h o=>intro j y;simp at y;rcases y with rfl|rfl<;>first|assumption|show pH (by assumption)
 | cross k o=>intro j y;simp at y;rcases y with rfl|rfl<;>first|assumption|show pH (by assumption)
def rA.opens{y x w u:mF}{ps:mD Zh}{s:mD (Zh×Zh)}{a b:Zh}(h:rA y x w u ps s a b):a.1∈ps.map snd/\b.1∈ps.map snd:=by
 cases h<;>simp
def BN{ps:mD Zh}{e:Zh}(h:e∈Yl ps):e.1∈ps.map snd:=by
 obtain⟨p,y,w⟩:=uD.mp h;obtain⟨x,_,rfl⟩:=oh.mp w;show oh.mpr #[p,y,rfl]
def Net.more{ps:mD Zh}{u:mD (Zh×Zh)}{e:Zh}{s r q o:mF}{qs:mD Zh}{w:mD (Zh×Zh)}{a b:Zh}(h:Net ps u [e])(B:rA s r q o qs w a b)(l:[s,r,q,o].Nodup)(new:∀n∈[s,r,q,o],n∉ps.map snd):Net (ps++qs) (u++w++[(e,a)]) [b]:=by
 have i:e.1∈ps.map snd:=BN (h.perm.subset<|by simp);have g:a.1∉ps.map snd:=new _<|B.sub.subset B.opens.1;refine#[?_,?_,?_,?_]
 ·rw[AX,AX,Ff];refine Em ?_<|h.perm.append B.perm;change(Xm u++Xm w++[e,a]++[b]).Perm ((Xm u++[e])++(Xm w++[a,b]));rw[qg,qg,qg];refine Dk _ ?_;change(Xm w++([e]++[a,b])).Perm ([e]++(Xm w++[a,b]));rw[<-qg,<-qg];show DK _ wM
 ·rw[oy,rO];show#[h.nd,Nv B.sub l,λx p y j z=>new y (B.sub.subset j)<|z ▸ p]
 ·intro j x;rw[pC,pC]at x;rcases x with(z|z)|z
  ·show h.apart j z
  ·show B.apart l j z
  ·simp at z;subst z;show λy=>g<|y ▸ i
 ·intro p x;rcases pC.mp x with z|z
  ·show h.kind p z
  ·show B.kind p z
def wR(s:mF)(n:Nat):Prop:=∃y c k,(96<y.cps.toList.getD 0 0/\y.cps.toList.getD 0 0<123)/\k<n/\s=Ys y c k
def rA.len{x w u s:mF}{ps:mD Zh}{y:mD (Zh×Zh)}{a b:Zh}(h:rA x w u s ps y a b):ps.length<=4/\y.length<=4:=by
 cases h<;>simp
structure we(i:Nat)(ps:List Zh)(js:List (Zh×Zh))(P5:Zh):Prop where
 net:Net ps js [P5]
 pl:ps.length<=1+4 * i
 jl:js.length<=5 * i
 nm:∀p∈ps,p=((("gate":Str),("g":Str)):Zh)\/wR p.2 (4 * i)
def we.start:we 0 [("gate","g")] [] ("g","a"):=by
 refine#[#[?_,by simp,by simp,by simp[rh]],by simp,by simp,by simp];simp[Xm,Yl,zr (k :="gate")<|.inl rfl]
def RI{x s:mF}(y:x.length=1)(h:2<=s.length):s≠x:=λz=>by rw[z]at h;lia
def we.more{i:Nat}{ps:mD Zh}{N:mD (Zh×Zh)}{M:Zh}{k1 k2 k3 s:mF}{r q o l:Int}{qs:mD Zh}{L:mD (Zh×Zh)}{a b:Zh}(h:we i ps N M)(hi:i<20)
  (J:96<k1.cps.toList.getD 0 0/\k1.cps.toList.getD 0 0<123) (I:96<k2.cps.toList.getD 0 0/\k2.cps.toList.getD 0 0<123) (H:96<k3.cps.toList.getD 0 0/\k3.cps.toList.getD 0 0<123) (G:96<s.cps.toList.getD 0 0/\s.cps.toList.getD 0 0<123)
  (B:rA (Ys k1 r<|4 * i) (Ys k2 q<|4 * i+1) (Ys k3 o<|4 * i+2) (Ys s l<|4 * i+3) qs L a b):we (i+1) (ps++qs) (N++L++[(M,a)]) b:=by
 have j:=xM (c:=r) (vd (by lk) J.1) (show 4 * i<100 by lia);have g:=xM (c:=q) (vd (by lk) I.1) (show 4 * i+1<100 by lia);have d:=xM (c:=o) (vd (by lk) H.1) (show 4 * i+2<100 by lia);have Y:=xM (c:=l) (vd (by lk) G.1) (show 4 * i+3<100 by lia);have w:∀{x y:mF}{m n:Nat},uw x=m->uw y=n->m≠n->x≠y:=λD C u z=>u (by rw[<-D,<-C,z])
 have A:[Ys k1 r (4 * i),Ys k2 q<|4 * i+1,Ys k3 o<|4 * i+2,Ys s l<|4 * i+3].Nodup:=by
  simp[w j g (by lia),w j d (by lia),w j Y (by lia),w g d (by lia),w g Y (by lia),w d Y<|by lia]
 have all:∀n∈[Ys k1 r (4 * i),Ys k2 q<|4 * i+1,Ys k3 o<|4 * i+2,Ys s l<|4 * i+3],4 * i<=uw n/\2<=n.length/\wR n (4 * (i+1)):=by
  intro n u;simp only[oM,vO,rC]at u;rcases u with rfl|rfl|rfl|rfl
  ·show#[by lia,zY (by lia),_,_,_,J,by lia,rfl]
  ·show#[by lia,zY (by lia),_,_,_,I,by lia,rfl]
  ·show#[by lia,zY (by lia),_,_,_,H,by lia,rfl]
  ·show#[by lia,zY (by lia),_,_,_,G,by lia,rfl]
 refine#[h.net.more B A λn u hm=>?_,?_,?_,?_]
 ·obtain⟨p,U,rfl⟩:=oh.mp hm;obtain⟨a1,a2,_⟩:=all _ u;rcases h.nm p U with z|⟨E,c,k,Q,d8,e⟩
  ·show RI (x :="g") (by left) a2 (by rw[z])
  ·rw[e,xM (vd (by lk) Q.1)<|by lia]at a1;lia
 ·have:=B.len.1;have:=h.pl;rw[oP];lia
 ·have:=B.len.2;have:=h.jl;rw[oP,oP];change _+_+1<=_;lia
 ·intro p U;rcases pC.mp U with z|z
  ·rcases h.nm p z with y|⟨E,c,k,Q,d8,e⟩
   ·show .inl y
   ·show .inr #[E,c,k,Q,by lia,e]
  ·show .inr (all _<|B.sub.subset<|oh.mpr #[p,z,rfl]).2.2
def we.done{i:Nat}{ps:mD Zh}{u:mD (Zh×Zh)}{w:Zh}(h:we i ps u w)(g:i<20):Net (ps++[(("gate":mF),("h":mF))]) (u++[(w,(("h":mF),("a":mF)))]) []:=by
 have r:("h":mF)∉ps.map snd:=λz=>by
  obtain⟨p,s,e⟩:=oh.mp z;rcases h.nm p s with y|⟨n,c,k,x,q,y⟩
  ·rw[y]at e;show absurd e (by left)
  ·show RI (x :="h") (by left) (zY (kind:=n) (c:=c) (k:=k)<|by lia) (by rw[<-y];show e)
 have l:w.1∈ps.map snd:=BN (h.net.perm.subset<|by simp);refine#[?_,?_,?_,?_]
 ·rw[AX,Ff,qM];have x:Yl [("gate","h")]=([("h","a")]:mD Zh):=by simp[Yl,zr (k :="gate")<|.inl rfl]
  rw[x];change(Xm u++([w]++[(("h":mF),("a":mF))])).Perm _;rw[<-qg];show DK _ h.net.perm
 ·rw[oy,rO];show#[h.net.nd,by simp,λx q y o z=>by simp at o;rw[z,o]at q;show r q]
 ·intro j x;rcases pC.mp x with z|z
  ·show h.net.apart j z
  ·simp at z;subst z;show λy=>r (by have y:w.1=("h":mF):=y;rw[<-y];show l)
 ·intro p s;rcases pC.mp s with z|z
  ·show h.net.kind p z
  ·simp at z;subst z;simp[rh]
def W4(j:Nat):mF :="e"++tR j
def xZ(Zs:mD Zh)(i:Nat)(x:mD Zh)(w:mD (Zh×Zh)):Prop:=∃y:mD mF,y.length=i/\(∀k∈y,k ="gate"\/k ="stop")/\x=(List.range i).map (λj=>(y.getD j "gate",W4 j))/\w=(List.range i).map (λj=>(Zs.getD j ("",""),(W4 j,("a":mF))))
def xZ.more{Zs:mD Zh}{i:Nat}{w:mD Zh}{u:mD (Zh×Zh)}{k:mF}{q:Zh}(h:xZ Zs i w u)(p:k ="gate"\/k ="stop")(o:Zs[i]? =some q):xZ Zs (i+1) (w++[(k,W4 i)]) (u++[(q,(W4 i,("a":mF)))]):=by
 obtain⟨s,r,y,rfl,rfl⟩:=h;refine#[s++[k],by rw[oP,r];rfl,?_,?_,?_]
 ·intro x n;rcases pC.mp n with z|z
  ·show y x z
  ·simp at z;rw[z];show p
 ·rw[Ae,oy];congr 1
  ·refine Gr λj x=>?_
   have x:=yS.mp x;rw[ub,ub,xq<|by lia]
  ·change[(k,W4 i)]=[((s++[k]).getD i "gate",W4 i)];rw[ub,wU (by lia),r,Nat.sub_self]
   rfl
 ·rw[Ae,oy];congr 1;change[(q,(W4 i,("a":mF)))]=[(Zs.getD i ("",""),(W4 i,("a":mF)))];rw[ub,o]
  rfl
def ZN(k:mF):(Yq k).Nodup:=by
 unfold Yq;split
 ·decide +kernel
 ·split
  ·decide +kernel
  ·split<;>decide +kernel
theorem xU:∀{ps:mD Zh},(ps.map snd).Nodup->(Yl ps).Nodup
 | [],_=>wL
 | p ::ps,h=>by
  rw[oR,qU]at h;rw[show Yl (p ::ps)=((Yq p.1).map λe=>(p.2,e))++Yl ps from As ..,rO];refine#[?_,xU h.2,?_]
  ·refine List.Pairwise.map _ (λa b z y=>z ?_)<|ZN p.1;show(Prod.mk.inj y).2
  ·intro x u y w z;obtain⟨e,_,rfl⟩:=oh.mp u;rw[<-z]at w;show h.1<|BN w
def Net.ond{ps:mD Zh}{y:mD (Zh×Zh)}{o:mD Zh}(h:Net ps y o):o.Nodup:=by
 have:=(h.perm.nodup_iff).mpr (xU h.nd);show(rO.mp this).2.1
def Net.add{ps:mD Zh}{w:mD (Zh×Zh)}{o:mD Zh}{k n:mF}(h:Net ps w o)(r:n∉ps.map snd)(q:k∈rh):Net (ps++[(k,n)]) w (o++(Yq k).map λe=>(n,e)):=by
 refine#[?_,?_,h.apart,?_]
 ·rw[Ff,<-qg];have:Yl [(k,n)]=(Yq k).map λe=>(n,e):=by simp[Yl]
  rw[this];show DK _ h.perm
 ·rw[oy,rO];show#[h.nd,by simp,λx u y s z=>by simp at s;rw[z,s]at u;show r u]
 ·intro p y;rcases pC.mp y with z|z
  ·show h.kind p z
  ·simp at z;rw[z];show q
def Net.join{ps:mD Zh}{y:mD (Zh×Zh)}{o o':mD Zh}{a b:Zh}(h:Net ps y o)(x:(a ::b ::o').Perm o)(w:a.1≠b.1):Net ps (y++[(a,b)]) o':=by
 refine#[?_,h.nd,?_,h.kind]
 ·rw[AX];refine Em ?_ h.perm;change(Xm y++[a,b]++o').Perm _;rw[qg];show Dk _ x
 ·intro j u;rcases pC.mp u with z|z
  ·show h.apart j z
  ·simp at z;rw[z];show w
theorem FU{y:Type}:∀{l:mD y}{i:Nat}{a:y},l[i]? =some a->(a ::l.eraseIdx i).Perm l
 | [],_,_,h=>by cases h
 | x ::l,0,a,h=>by cases h;show qW _
 | x ::l,i+1,a,h=>by
  rw[DS];show(BC x a _).trans ((FU (l:=l) h).cons x)
def Yal{y:Type}{l m:mD y}{i j:Nat}{a b:y}(x:l[i]? =some a)(w:m[j]? =some b):(a ::b ::(l.eraseIdx i++m.eraseIdx j)).Perm (l++m):=by
 refine Em ?_<|(FU x).append (FU w);change List.Perm _ (a ::(l.eraseIdx i++(b ::m.eraseIdx j)));show(List.perm_middle.symm).cons a
def UI{l:mD Zh}{a:Zh}(w:l.Nodup)(s:a∈l):(a ::l.filter λe=>decide<|e≠a).Perm l:=by
 induction l with
 | nil=>cases s
 | cons x l r =>
  rw[qU]at w
  by_cases z:x=a
  ·subst z;rw[tJ,nY<|by simp];have:(l.filter λe=>decide<|e≠x)=l:=MY.mpr λe u=>oO λy=>w.1<|y ▸ u
   rw[this]
  ·rw[tJ,og<|oO z];have u:a∈l:=by
    rcases oM.mp s with y|y
    ·show absurd y.symm z
    ·show y
   show(BC x a _).trans ((r w.2 u).cons x)
def TR{r:Zh}{l:mD Zh}{a:Zh}(y:(r ::l).Nodup)(x:a∈l):(a ::r ::l.filter λe=>decide<|e≠a).Perm (r ::l) :=
 (BC r a _).trans ((UI (qU.mp y).2 x).cons r)
def Sb{j:Nat}(h:j<100):uw (W4 j)=j:=by
 unfold W4 uw;rw[vv,zx];show GS j h
def YI:∀k,k<100->(tR k).cps.toList.getD 0 0<=57:=by left
def Uk{kd:mF}{c:Int}{k j:Nat}(w:j<100)(u:kd.cps.toList.getD 0 0≠101):Ys kd c k≠W4 j:=by
 intro z;have y:=pO (λs:mF=>s.cps.toList) z;have r:(W4 j).cps.toList=101 ::(tR j).cps.toList:=by unfold W4;rw[vv];rfl
 simp only[r]at y;unfold Ys at y;split at y
 ·rw[vv]at y;show u (List.cons.inj y).1
 ·rw[vv,vv,vv]at y;have s:=qT (c / 78) (show(26:Int)≠0 by lk);have q:=qZ (c / 78) (show(0:Int)<26 by lk);have o:=RW s q;have p:=(List.cons.inj y).2;have x:=YI j w;rw[<-p]at x;have:uf (c / 78%26)<=57:=x;lia
def Net.closed{ps:mD Zh}{x:mD (Zh×Zh)}{Zs r:mD Zh}{q:mD (Zh×Zh)}(h:Net ps x Zs)(d:xZ Zs Zs.length r q)(M:Zs.length<=90)(c:∀j,j<90->W4 j∉ps.map snd):Net (ps++r) (x++q) []:=by
 obtain⟨y,u,w,rfl,rfl⟩:=d;have Y:∀n,n<=Zs.length->Net (ps++(List.range n).map λj=>(y.getD j "gate",W4 j)) (x++(List.range n).map λj=>(Zs.getD j ("",""),(W4 j,("a":mF)))) (Zs.drop n):=by
  intro n
  induction n with
  | zero=>intro _;simpa using h
  | succ n U =>
   intro Q;have p:=U (by lia);have o:n<Zs.length:=by lia
   have P3:y.getD n "gate"="gate"\/y.getD n "gate"="stop":=w _ (by
    rw[ub,pJ<|by lia];show List.getElem_mem _)
   have l:W4 n∉(ps++(List.range n).map λj=>(y.getD j "gate",W4 j)).map snd:=by
    rw[oy,pC];rintro(z|z)
    ·show c n (by lia) z
    ·rw[qj]at z;obtain⟨j,i,e⟩:=oh.mp z;have i:=yS.mp i;have:=pO uw e;rw[Sb (by lia)]at this;have u:uw (W4 j)=n:=this;rw[Sb (by lia)]at u;lia
   have g:=p.add l (k:=y.getD n "gate") (by rcases P3 with z|z<;>rw[z]<;>simp[rh]);rw[zr P3]at g;have hd:Zs.drop n=Zs.getD n ("","") ::Zs.drop (n+1):=by
    rw[zv o,ub,pJ o]
    rfl
   have s:(Zs.getD n ("","")).1≠W4 n:=by
    have:Zs.getD n ("","")∈Zs.drop n:=by rw[hd];simp
    have N:=BN<|p.perm.subset<|rN _ this;show λz=>l<|z ▸ N
   have u:=g.join (a:=Zs.getD n ("","")) (b:=(W4 n,"a")) (o':=Zs.drop<|n+1) (by
    rw[hd];change List.Perm _ (Zs.getD n ("","") ::(Zs.drop (n+1)++[(W4 n,("a":mF))]));show(List.perm_append_singleton _ _).symm.cons _) s
   rw[Ae,oy,oy,<-qg,<-qg];show u
 have:=Y Zs.length<|oq _;rwa[HN]at this
end YM
end
section
namespace YM
open PySem L2 NM
def CW:∀k∈rh,57<k.cps.toList.getD 0 0/\k.cps.toList.getD 0 0≠101/\0<k.length/\k.length<=6/\(Yq k).length<=4/\0<(Yq k).length:=by left
def IP(s:mF)(n:Nat):Prop:=∃y∈rh,∃(c:Int)(k:Nat),k<n/\s=Ys y c k
structure Xo(i m:Nat)(ps:List Zh)(js:List (Zh×Zh))(Zs:List Zh):Prop where
 net:Net ps js Zs
 sum:ps.length+Zs.length<=39
 jl:js.length<=m
 nm:∀p∈ps,IP p.2 i
def Xo.start:Xo 0 0 [] [] []:=#[#[qW _,wL,by simp,by simp],by simp,by simp,by simp]
def Xo.mono{i m y x:Nat}{ps:mD Zh}{w:mD (Zh×Zh)}{Zs:mD Zh}(h:Xo i m ps w Zs)(n:i<=y)(u:m<=x):Xo y x ps w Zs :=
 #[h.net,h.sum,oU h.jl u,λp s=>let⟨r,q,c,k,l,o⟩:=h.nm p s;#[r,q,c,k,by lia,o]]
def Xo.new{i m:Nat}{ps:mD Zh}{y:mD (Zh×Zh)}{Zs:mD Zh}{kd:mF}{c:Int}(h:Xo i m ps y Zs)(x:i<100)(w:kd∈rh):Ys kd c i∉ps.map snd:=λz=>by
 obtain⟨p,u,e⟩:=oh.mp z;obtain⟨s,r,o,k,n,q⟩:=h.nm p u;have:=pO uw<|e.symm.trans q;rw[xM (CW _ w).1 x,xM (CW _ r).1 (by lia)]at this;lia
def Xo.add{i m:Nat}{ps:mD Zh}{x:mD (Zh×Zh)}{Zs:mD Zh}{kd:mF}{c:Int}(h:Xo i m ps x Zs)(w:i<100)(y:kd∈rh)(s:ps.length+Zs.length+(Yq kd).length<=38):Xo (i+1) m (ps++[(kd,Ys kd c i)]) x (Zs++(Yq kd).map λe=>(Ys kd c i,e)):=by
 refine#[h.net.add (h.new w y) y,?_,h.jl,?_]
 ·rw[oP,oP,nQ];change _+1+_<=39;lia
 ·intro p u;rcases pC.mp u with z|z
  ·show(h.mono (sF i)<|oq m).nm p z
  ·simp at z;rw[z];show#[kd,y,c,i,by lia,rfl]
def Xo.join(h:Xo i m ps x o)(y:(a ::b ::o').Perm o)(w:a.1≠b.1):Xo i (m+1) ps (x++[(a,b)]) o':=by
 refine#[h.net.join y w,?_,?_,h.nm]
 ·have:=h.sum;have u:=y.length_eq;simp at u;lia
 ·rw[oP];show yw h.jl
def Xo.done{i m:Nat}{ps:mD Zh}{y:mD (Zh×Zh)}{Zs x:mD Zh}{w:mD (Zh×Zh)}(h:Xo i m ps y Zs)(n:i<=100)(u:xZ Zs Zs.length x w):Net (ps++x) (y++w) []:=by
 have l:=h.sum;refine h.net.closed u (by lia) λj g z=>?_
 obtain⟨p,s,e⟩:=oh.mp z;obtain⟨r,q,d,k,c,o⟩:=h.nm p s;show Uk (by lia) (CW _ q).2.1 (o.symm.trans e)
def Zri{y x:Type}{R:y->x->Prop}{l:mD y}{m:mD x}(h:Paired R l m)(i:Nat):Paired R (l.eraseIdx i) (m.eraseIdx i):=by
 induction h generalizing i with
 | nil=>show .nil
 | cons r t u =>
  cases i with
  | zero=>show t
  | succ i=>show .cons r<|u i
theorem Nz{y w:Type}(f:y->w):∀(l:mD y)(i:Nat),(l.map f).eraseIdx i=(l.eraseIdx i).map f
 | [],_=>rfl
 | _ ::_,0=>rfl
 | x ::l,i+1=>by rw[oR,DS,DS,oR,Nz f l i]
end YM
end
section
namespace L2
open PySem PySem.Spec PyProof.Rows
section
variable {X:Cx} {a b:mQ} {ta tb:TE} {p pos:Pos}
def qt(y:X.mg "len"=none)(x:PE X a ta)(w:Gl X "len":=by rfl)(h:Cg a=true:=by rfl):PE X (.Call (.Name "len" p) [a] [] pos) (yT (Mo X.K)<|uV ta xI):=Z5 XW w y DW (Zb x Za h) (by lk) (by lk) (AB h) rfl
def xg(n:String){u:mF}{q:Pos}(x:X.mg "isinstance"=none)(w:X.mg u=none)(s:bootBuiltins u=some (.type n))(r:PE X a ta)(o:Gl X "isinstance":=by rfl)(h:Cg a=true:=by rfl)(y:Gl X u:=by rfl)(l:u≠ "__name__":=by lk)(j:(u ==("__debug__":mF))=false:=by lk):PE X (.Call (.Name "isinstance" p) [a,.Name u q] [] pos) (yT (yU X.K)<|uV ta<|uV (tC<|.ty n) xI):=Z5 DC o x tw (Zb r (Zb (PK (v:=.ty n) y w s rfl l j) Za) h) (by lk) (by lk) (AB h) (by rw[AB rfl];rfl)
def xG{k:Nat}(y:Y2 k X.A)(x:PE X a ta)(w:PE X b tb):PE X (.Compare a [.Eq] [b] pos) (rR (BH X.K) ta tb):=Bz (El y) x w<|Yv _
def pY{k:Nat}(y:Y2 k X.A)(x:PE X a ta)(w:PE X b tb):PT X (.Compare a [.Eq] [b] pos) (yz<|rR (BH X.K) ta tb):=Yg (El y) x w<|Yv _
def Qa{k:Nat}(y:Y2 k X.A)(x:PE X a ta)(w:PE X b tb):PE X (.Compare a [.NotEq] [b] pos) (rR (uY X.K) ta tb):=Bz (wm y) x w<|Yv _
def rV{k:Nat}(y:Y2 k X.A)(x:PE X a ta)(w:PE X b tb):PT X (.Compare a [.NotEq] [b] pos) (yz<|rR (uY X.K) ta tb):=Yg (wm y) x w<|Yv _
def OV{k:Nat}(y:Y2 k X.A)(x:PE X a ta)(w:PE X b tb)(u:behindInMarks .In b=false:=by with_unfolding_all rfl):PE X (.Compare a [.In] [b] pos) (rR (Cz X.K) ta tb):=Bz (Hc y) x w u
def sX{k:Nat}(y:Y2 k X.A)(x:PE X a ta)(w:PE X b tb)(u:behindInMarks .In b=false:=by with_unfolding_all rfl):PT X (.Compare a [.In] [b] pos) (yz<|rR (Cz X.K) ta tb):=Yg (Hc y) x w u
def wA{k:Nat}(y:Y2 k X.A)(x:PE X a ta)(w:PE X b tb)(u:behindInMarks .NotIn b=false:=by with_unfolding_all rfl):PT X (.Compare a [.NotIn] [b] pos) (yz<|rR (CM X.K) ta tb):=Yg (Iv y) x w u
def oi(y:PE X a ta)(x:PE X b tb)(w:FL b:=by show λ_ _=>rfl):PE X (.Subscript a b pos) (rR (zd X.K) ta tb):=Mf Ot y x w
def rS{q:Pos}(w:PE X a ta)(u:PE X b tb)(h:Cg b=true:=by rfl)(s:attributeBase a "append" X.env (eval a X.env)=eval a X.env:=by rfl)
  (y:((backTo pos<|starEach [b] X.env).all (λx=>!x.1) && (backToKw pos<|keywordEach [] X.env).all (λx=>x.1.isSome)
   && decide ([b].length+([]:mD Keyword).length+(if([]:mD Keyword).isEmpty then 0 else 1)<30))=true:=by rfl)
  (r:(q.endLine ==pos.line)=true:=by rfl):PE X (.Call (.Attribute a "append" q) [b] [] pos) (Mr X.K "list" Ly ta<|uV tb xI):=yb vX Oi PySem.F.type_list_append Pg w (Zb u Za h) s y r (AB h) rfl
end
def pF{X:Cx}{scope:Scope}{r:mD (mF×mG)}{q:mD mF}(n:Nat)(u:mD Nat)(s:closureFor scope X.env=pure r)(kind:scope.kind=.function:=by rfl)(cell:∀w∈scope.names,w.2≠.cell:=by left)
  (names:∀w∈scope.names,w.2=.local->scope.names.lookup w.1=some .local:=by left) (o:vK (λp=>X.env.cells.lookup p.1=some p.2) r:=by and_intros)
  (l:(scope.names.all λw=>w.2 !=.free || ((r.lookup w.1).isSome && (X.env.kindOf w.1 ==some .cell || X.env.kindOf w.1 ==some .free)))=true:=by rfl)
  (i:q.length=n+u.length:=by rfl) (h:vK (λp:Nat×Nat=>∃x,q[n+p.1]? =some x/\X.N[p.2]? =some x/\scope.names.lookup x=some .free) ((List.range u.length).zip u):=by and_intros) :
  X6 X scope r q (λy=>List.replicate n none++u.map λj=>(y[j]?).join):=X6.std n u kind cell names s o l i h
def Dm:mD mF->Bool
 | []=>true
 | x ::l=>!l.contains x && Dm l
theorem Sr:∀{l:mD mF},Dm l=true->l.Nodup
 | [],_=>wL
 | x ::l,h=>by
  rw[Dm,rB,Bool.not_eq_true']at h;show qU.mpr #[λz=>(by rw[Of.mpr z]at h;cases h.1),Sr h.2]
def pc{X:Cx}{pos:Pos}(i:Nat){x:mF}(y:Dm X.N=true:=by kernel_rfl)(w:X.N[i]? =some x:=by rfl)(u:vY X.env.scope x:=by show zP<|lookup_relabel_local rfl)(s:X.fn x=true\/X.env.scope.names.lookup x=some .local:=by show Am<|lookup_relabel_local rfl):PG X (.Name x pos) (rT i):=FA (Sr y) w u s
def oj{X:Cx}(i:Nat){ps:mD mF}{x:mF}{e:mQ}{y:TE}{pos w:Pos}(S:Zw X.N ps X.env.scope)(u:PE X e y)(s:X.N[i]? =some x:=by rfl)(r:vY X.env.scope x:=by and_intros)(q:swapsWith e (some<|.Name x w) pos.line X.env=pure false:=by rfl)(p:X.fn x=true\/X.env.scope.names.lookup x=some .local:=by and_intros):PS X (.Assign [.Name x w] e pos) (AJ y<|rT i):=Ygu S.nd s r u q p
def oY{X:Cx}(i:Nat){ps:mD mF}{x:mF}{pos:Pos}(S:Zw X.N ps X.env.scope)(y:X.N[i]? =some x:=by rfl)(w:vY X.env.scope x:=by and_intros)(u:X.fn x=true\/X.env.scope.names.lookup x=some .local:=by and_intros):PG X (.Name x pos) (rT i):=FA S.nd y w u
def qh{X:Cx}{p r q:mQ}{o:mD mQ}{scope:Scope}{pos:Pos}{w:mD (mF×mG)}(u:mD mF){fr:St->St}{n:TI}{g:TG}{l:TT}{j:TE}
  (S:X6 X scope w u fr) (i:PI X r q n) (h:∀{s H C y},PG (Y8 X scope w u s H C y) r g) (e:∀{s H C y},PF (Y8 X scope w u s H C y) o l)
  (d:∀{s H C y},PE (Y8 X scope w u s H C y) p j) (c:X.calm=true:=by rfl) (a:∀x,foldedSetIterable q X.env x=pure x:=by intro _;rfl):PE X (.ListComp p [#[r,q,o,0]] scope pos) (Bs n fr g l j):=WT c S i (λ_ _ _ _=>h) (λ_ _ _ _=>e) (λ_ _ _ _=>d) a
def xP{X:Cx}(i:Nat){ps:mD mF}{y:mF}{h w:Pos}{n r q:mQ}{l:mD mQ}{scope:Scope}{pos:Pos}{p:mD (mF×mG)}(o:mD mF){fr:St->St}{e:TI}{g:TG}{d:TT}{c:TE}
  (F:Zw X.N ps X.env.scope) (S:X6 X scope p o fr) (a:PI X r q e) (Y:∀{s H C u},PG (Y8 X scope p o s H C u) r g) (U:∀{s H C u},PF (Y8 X scope p o s H C u) l d)
  (Q:∀{s H C u},PE (Y8 X scope p o s H C u) n c) (N:X.N[i]? =some y:=by rfl) (M:vY X.env.scope y:=by show zP rfl) (L:X.calm=true:=by rfl) (J:∀x,foldedSetIterable q X.env x=pure x:=by intro _;rfl)
  (j:swapsWith (.ListComp n [#[r,q,l,0]] scope pos) (some<|.Name y h) w.line X.env=pure true:=by rfl) (I:X.fn y=true\/X.env.scope.names.lookup y=some .local:=by and_intros) :
  PS X (.Assign [.Name y h] (.ListComp n [#[r,q,l,0]] scope pos) w) (AJ (Bs e fr g d c)<|rT i):=Zvl F.nd N M L S a (λ_ _ _ _=>Y) (λ_ _ _ _=>U) (λ_ _ _ _=>Q) J j I
abbrev Dn.O{K:mK}{x q:mF}{st:mM}{ps:mD mF}(d:Dn K x q st ps)(P:mS)(w:mP)(mg:mF->mJ mH)(nI:mO)(k:Nat)(sp:Sp):Prop:=Wz P w K mg nI pL k d.f d.fd ps sp
abbrev Dn.X{K:mK}{x q:mF}{st:mM}{ps:mD mF}(d:Dn K x q st ps)(P:mS)(w:mP)(mg:mF->mJ mH)(nI:mO)(k:Nat)(sp:Sp):Prop:=Wz P w K mg nI (pU P w) k d.f d.fd ps sp
abbrev zK.O{K:mK}{x q:mF}{st:mM}{ps:mD mF}{v:V}(d:zK K x q st ps v)(P:mS)(w:mP)(mg:mF->mJ mH)(nI:mO)(k:Nat)(sp:Sp):Prop:=Wz P w K mg nI pL k d.f d.fd ps sp
def Ykc{y:Type}{us:mD y}(h:us.length=5):∃a b c d e,us=[a,b,c,d,e]:=by
 rcases us with _|⟨a,_|⟨b,_|⟨c,_|⟨d,_|⟨e,_|_⟩⟩⟩⟩⟩<;>first|show#[_,_,_,_,_,rfl]|cases h
abbrev kB(K:mK)(a b:mG)(v:Bool):Prop:=kitOne K (.ref a) (.ref b)=some v
abbrev uZ(ps:mD mF)(st:mM):Prop:=Zw ps ps<|Zj st
abbrev cB(K:mK)(a:mG):Prop:=findIn K (.ref a) "__class__"=some (some<|.builtin "object.__class__")
abbrev OE(K:mK)(mg:mF->mJ mH)(x:mF)(a:mG):Prop:=ED K mg x a [.type "ValueError",.type "Exception",.type "BaseException",.type "object"] "ValueError.__new__"
structure DG(K:Frag)(mg:Str->Option Value)(x:Str)(st:Stmt)(ps:List Str) extends Dn K x x st ps where
 m:mg x=some (.ref f)
def Zv{X:Cx}{x:mF}{st:mM}{ps:mD mF}{d:DG X.K X.mg x st ps}{y:Sp}{j k:Nat}{e:mQ}{es:mD mQ}{t:TA}{p pos:Pos}(F:Wz X.prog X.w X.K X.mg X.nI pL k d.f d.fd ps y)(w:Y2 j X.A)(u:PA X (e ::es) t)(s:Gl X x:=by rfl)(r:k<=j:=by lk)(q:(x ==("__debug__":mF))=false:=by lk)(o:starEach (e ::es) X.env=(false,eval e X.env) ::starEach es X.env:=by rfl)(n:(backTo pos<|starEach es X.env).any (·.1)=false:=by rfl):PE X (.Call (.Name x p) (e ::es) [] pos) (KP y [] E0 t):=Wd F (w.mono r) s d.m d.F.kp d.b .nil Z4 u q o n
end L2
end
section
namespace L2
abbrev IF:=Nat->St->Hp->Prop
abbrev IC:=St->Hp->Prop
end L2
namespace HT
open PySem PyProof.Rows
section
open PySem.SeqAt
variable {prog:mS} {w:mP} {A:mT} {E:mH->mI->Prop} {s:mI}
def cat_tup{t b:mG}{vs y:mD mH}{Q:mH->mI->Prop}(a:IsTup s.heap t vs.toArray)(Y:IsTup s.heap b y.toArray)(l:vs≠[])
  (U:y=[]->Q (.ref t) s) (N:y≠[]->Q (.ref #v[s]) {s with heap:=s.heap.push {cls:=.type "tuple",data:=.seq (vs++y).toArray}})
  (hsz:vs.length+y.length<=sizeLine):wpAny (model prog w) A (binaryOp .Add (.ref t)<|.ref b) Q E s:=by
 obtain⟨⟨cls,j,data,i⟩,p,h,n,hd⟩:=id a;obtain⟨⟨g,u,data2,r⟩,x,d,c,q⟩:=id Y;simp only at h hd d q;subst h hd d q;have e:vs.toArray++y.toArray=(vs++y).toArray:=by simp
 by_cases o:y=[]
 ·show concat_meets #[_,p,rfl] #[_,x,rfl] noFill_tuple_add seq_tuple_add Ky KI (Mu _ _)
   (tuple_addW1 t b vs.toArray y.toArray n c j u i r (by simpa using l)<|by simp[o]) #[p,x,U o]
 ·refine concat_meets #[_,p,rfl] #[_,x,rfl] noFill_tuple_add seq_tuple_add Ky KI (Mu _ _)
   (tuple_addW2 t b vs.toArray y.toArray n c j u i r (by simpa using l) (by simpa using o) (by rw[ph,ph];show hsz)) #[p,x,?_]
  rw[e];show N o
end
end HT
namespace L2
open PySem PyProof.Rows
section
variable {prog:mS} {w:mP} {A:mT} {E:mH->mI->Prop} {s:mI} {o:Array Keyed} {kd:SortKind} {p:Array (Nat×Nat×Nat)} {st:SortSt}
structure Ps(kd:SortKind)(o:Array Keyed)(p:Array (Nat×Nat×Nat))(st:SortSt):Prop where
 perm:(arrOf st).Perm o
 kind:kindOf st=kd
 good:failedOf st=none
 pend:pendingOf st=p
theorem Ps.many(h:Ps kd o p st):(arrOf st).size=o.size:=h.perm.size_eq
theorem Ps.to(h:Ps kd o p st){xs:Array Keyed}(q:xs.Perm (arrOf st)):Ps kd o p (setArr st xs):=#[q.trans h.perm,h.kind,h.good,h.pend]
theorem Ps.mem(h:Ps kd o p st){x:Keyed}(y:x∈arrOf st):x∈o:=h.perm.mem_iff.mp y
theorem Xl{y:Array Keyed}{i:Nat}{Q:Keyed->SortSt->Prop}(x:i<y.size)(q:Q y[i] st):wpS (model prog w) A E s (elem' y i) Q st:=by
 rw[elem'_eq,Ji y i x];show oE q
theorem pq{y:Type}{c:Prop}[Decidable c]{x u:StateT SortSt Sem y}{R:y->SortSt->Prop}(r:c->wpS (model prog w) A E s x R st)(q:¬c->wpS (model prog w) A E s u R st):wpS (model prog w) A E s (if c then x else u) R st:=by
 by_cases z:c
 ·rw[og z];show r z
 ·rw[nY z];show q z
theorem HY{y:Type}{m n:StateT SortSt Sem y}{Q:y->SortSt->Prop}(C:SortSt->Prop)(a:(∀x:SortSt,C x->wpS (model prog w) A E s m Q x)->wpS (model prog w) A E s n Q st)(b:∀x:SortSt,C x->wpS (model prog w) A E s m Q x):wpS (model prog w) A E s n Q st:=a b
theorem GA{y u:Type}{m:u->StateT SortSt Sem y}{Q:y->SortSt->Prop}{n:StateT SortSt Sem y}(C:u->SortSt->Prop)(a:(∀x r,C x r->wpS (model prog w) A E s (m x) Q r)->wpS (model prog w) A E s n Q st)(b:∀x r,C x r->wpS (model prog w) A E s (m x) Q r):wpS (model prog w) A E s n Q st:=a b
theorem Ck{y u r:Type}{m:u->r->StateT SortSt Sem y}{Q:y->SortSt->Prop}{n:StateT SortSt Sem y}(C:u->r->SortSt->Prop)(a:(∀x q l,C x q l->wpS (model prog w) A E s (m x q) Q l)->wpS (model prog w) A E s n Q st)(b:∀x q l,C x q l->wpS (model prog w) A E s (m x q) Q l):wpS (model prog w) A E s n Q st:=a b
def Yfk:Nat->StateT SortSt Sem Unit:=sortPriv% PySem.Builtin.setMinGallop
def Gs(st y:SortSt):Prop:=kindOf y=kindOf st/\arrOf y=arrOf st/\pendingOf y=pendingOf st/\failedOf y=failedOf st
theorem EM{g:Nat}{Q:Unit->SortSt->Prop}{y:SortSt}(h:Gs y st)(q:∀x,Gs y x->Q () x):wpS (model prog w) A E s (Yfk g) Q st:=Aq<|q _ #[h.1,h.2.1,h.2.2.1,h.2.2.2]
variable (L:zG prog w A s kd o)
include L
theorem Bl{x y:Keyed}{Q:mJ Bool->SortSt->Prop}(u:kindOf st=kd)(r:x∈o)(n:y∈o)(q:∀b,Q (some b) st):wpS (model prog w) A E s (lt' x y) Q st:=by
 rw[lt'_eq];refine ow<|vi ?_;rw[u];show ow<|yJ<|wpAny_attempt<|L x r y n _ _ λb=>#[rfl,oE<|q b]
theorem BX{i j:Nat}{Q:mJ Bool->SortSt->Prop}(h:Ps kd o p st)(y:i<o.size)(x:j<o.size)(q:∀b,Q (some b) st):wpS (model prog w) A E s (ltAt' i j) Q st:=by
 rw[ltAt'_eq];refine ow<|vi<|ow<|Xl (by rw[h.many];show y)<|ow<|Xl (by rw[h.many];show x) ?_;show Bl L h.kind (h.mem<|tZ _) (h.mem<|tZ _) q
theorem Vb{lo m:Nat}{Q:mJ Nat->SortSt->Prop}(h:Ps kd o p st)(Y:1<=m)(D:lo+m<=o.size)(q:∀n u,Ps kd o p u->1<=n->n<=m->Q (some n) u):wpS (model prog w) A E s (countRun' lo m) Q st:=by
 have up:∀(a:Nat)(st:SortSt)(R:mJ (mJ Nat)×Nat->SortSt->Prop),1<=a->a<=m->Ps kd o p st->(∀n,a<=n->n<=m->R (none,n) st)->
   wpS (model prog w) A E s (forIn [a:m] ((none,a):mJ (mJ Nat)×Nat) λ_ y=>do
    let g <-ltAt' (lo+y.snd) (lo+y.snd-1)
    match g with
    | some smaller=>if smaller=true then pure (ForInStep.done (none,y.snd))else pure (ForInStep.yield (none,y.snd+1))
    | _=>pure<|ForInStep.done (some none,y.snd)) R st:=λa st R Y U h q=>by
  refine tM (I:=λn c u=>u=st/\c=(none,n)) ?_ ?_ #[rfl,rfl]
  ·rintro n c u j d ⟨rfl,rfl⟩;refine ow<|BX L h (by lia) (by lia) λb=>?_;cases b with
   | true=>show oE (q n j<|by lia)
   | false=>show oE #[rfl,rfl]
  ·rintro c u ⟨rfl,rfl⟩;show q _ (by lia) (by lia)
 rw[countRun'_eq];refine ow<|up 1 st _ (oq _) Y h λn N M=>?_;dsimp only
 by_cases J:n=m
 ·rw[og (by simpa using J)];show oE<|q n st h N M
 rw[nY (by simpa using J)];apply HY (Ps kd o p)
 case a =>
  intro Zs
  by_cases y:n >1
  ·rw[og y];refine ow<|BX L h (by lia) (by lia) λb=>?_;cases b with
   | true=>show oE (q n st h N M)
   | false=>show ow<|wpS_reverse<|Zs _<|h.to<|mirror_perm _ _ _ _
  ·rw[nY y];show Zs st h
 intro u U;refine ow<|yJ<|vm #[rfl,?_];refine ow<|tQ (tM (I:=λi c r=>Ps kd o p r/\∃e,c=(none,i,e)) (Q:=λc r=>Ps kd o p r/\∃i e,c=(none,i,e)/\n+1<=i/\i<=m) ?_ ?_ #[U,0,rfl]) ?_
 ·rintro i c r j d ⟨x,e,rfl⟩;dsimp only;refine ow<|BX L x (by lia) (by lia) λb=>?_;cases b with
  | true =>
   change wpS _ _ _ _ (if e >0 then _ else _) _ _
   by_cases l:e >0
   ·rw[og l];show ow<|wpS_reverse<|oE #[x.to<|mirror_perm _ _ _ _,0,rfl]
   ·rw[nY l];show oE #[x,0,rfl]
  | false =>
   refine ow<|BX L x (by lia) (by lia) λb=>?_;cases b with
   | true=>show oE #[x,i,e,rfl,j,by lia]
   | false=>show oE #[x,e+1,rfl]
 ·rintro c r ⟨x,e,rfl⟩;show#[x,_,e,rfl,by lia,by lia]
 ·rintro c r ⟨x,i,e,rfl,j,d⟩;dsimp only;apply HY (Ps kd o p)
  case a =>
   intro Zs
   by_cases l:e >0
   ·rw[og l];show ow<|wpS_reverse<|Zs _<|x.to<|mirror_perm _ _ _ _
   ·rw[nY l];show Zs r x
  intro y H;refine ow<|wpS_reverse ?_;have g:=H.to<|mirror_perm (arrOf y) lo (lo+i)<|(lo+i-lo) / 2;show ow<|up i _ _ (by lia) d g λk C G=>oE<|q k _ g (by lia) G
theorem Yc7{lo n r:Nat}{Q:Bool->SortSt->Prop}(h:Ps kd o p st)(d:lo+n<=o.size)(q:∀j,Ps kd o p j->Q true j):wpS (model prog w) A E s (binarySort' lo n r) Q st:=by
 rw[binarySort'_eq];refine ow<|tQ (tM (I:=λ_ c j=>c=(none,())/\Ps kd o p j) (Q:=λc j=>c=(none,())/\Ps kd o p j) ?_ (λ_ _ z=>z) #[rfl,h]) ?_
 ·rintro x c j a Y ⟨rfl,g⟩;refine ow<|tQ (tM (I:=λ_ c i=>i=j/\∃l u,c=(none,l,u)/\u<=x) (Q:=λc i=>i=j/\∃l u,c=(none,l,u)/\u<=x) ?_ (λ_ _ z=>z) #[rfl,0,x,rfl,oq _]) ?_
  ·rintro y c i _ _ ⟨rfl,l,u,rfl,e⟩;dsimp only
   by_cases z:l ≥ u
   ·rw[og z];show oE #[rfl,l,u,rfl,e]
   ·rw[nY z];refine ow<|BX L g (by lia) (by lia) λb=>?_;cases b with
    | true=>show oE #[rfl,l,(l+u) / 2,rfl,by lia]
    | false=>show oE #[rfl,(l+u) / 2+1,u,rfl,e]
  ·rintro c i ⟨rfl,l,u,rfl,e⟩;change wpS _ _ _ _ (do moveDown' (lo+x) (lo+l);pure (ForInStep.yield (none,()))) _ _;rw[moveDown'_eq];show ow<|Aq<|oE #[rfl,g.to<|bubble_perm _ _ _]
 ·rintro c j ⟨rfl,g⟩;show oE<|q j g
def Yd0:Bool->Keyed->Array Keyed->Nat->Nat->Nat->StateT SortSt Sem (mJ Nat):=sortPriv% PySem.Builtin.gallop
def ZJ:Array Keyed->Array Keyed->StateT SortSt Sem (Array Keyed):=sortPriv% PySem.Builtin.mergeLo
def Ui:Array Keyed->Array Keyed->StateT SortSt Sem (Array Keyed):=sortPriv% PySem.Builtin.mergeHi
theorem zO{left:Bool}{key:Keyed}{U:Array Keyed}{nI n h:Nat}{Q:mJ Nat->SortSt->Prop}(J:kindOf st=kd)(H:key∈o)(B:∀x∈U,x∈o)(hb:nI+n<=U.size)(hh:h<n)(q:∀k,k<=n->Q (some k) st) :
  wpS (model prog w) A E s (Yd0 left key U nI n h) Q st:=by
 have j:∀(i:Nat)(R:mJ Bool->SortSt->Prop),i<n->(∀b,R (some b) st)->wpS (model prog w) A E s (do
   let x <-elem' U (nI+i)
   if left=true then lt' x key else do
    let y <-lt' key x
    pure (Option.map (λx=>!x) y)) R st:=λi R hi r=>by
  have D:nI+i<U.size:=by lia
  refine ow<|Xl D ?_;have C:=B _<|tZ D;cases left with
  | true=>show Bl L J C H r
  | false=>show ow<|Bl L J H C λb=>oE<|r _
 refine ow<|j h _ hh λb=>?_;have on:∀{f:Nat->mJ (mJ Nat)×Nat×Nat->StateT SortSt Sem (ForInStep<|mJ (mJ Nat)×Nat×Nat)}{R:mJ (mJ Nat)×Nat×Nat->SortSt->Prop}(G:Nat->Prop){l u:Nat},G u->
   (∀i l u (a:ForInStep (mJ (mJ Nat)×Nat×Nat)->SortSt->Prop),G u->(∀l u,G u->a (.done (none,l,u)) st/\a (.yield (none,l,u)) st)->wpS (model prog w) A E s (f i (none,l,u)) a st)->(∀l u,G u->R (none,l,u) st)->wpS (model prog w) A E s (forIn [:n] (none,l,u) f) R st:=λ{f R} G {l u} g hf r =>
  tQ (tM (I:=λ_ c N=>N=st/\∃l u,c=(none,l,u)/\G u) (Q:=λc N=>N=st/\∃l u,c=(none,l,u)/\G u) (λi c N _ _ ⟨e,l,u,M,Y⟩=>by subst e M;show hf i l u _ Y λl u Y=>#[#[rfl,l,u,rfl,Y],#[rfl,l,u,rfl,Y]]) (λ_ _ z=>z) #[rfl,l,u,rfl,g]) λc N ⟨e,l,u,M,Y⟩=>by subst e M;show r l u Y
 have go:∀{c:Prop} [Decidable c] {x y:StateT SortSt Sem (ForInStep<|mJ (mJ Nat)×Nat×Nat)} {R:ForInStep (mJ (mJ Nat)×Nat×Nat)->SortSt->Prop},(c->wpS (model prog w) A E s x R st)->(¬c->wpS (model prog w) A E s y R st)->wpS (model prog w) A E s (if c then x else y) R st:=λ{c _ x y R} h1 h2=>by
  by_cases z:c
  ·rw[og z];show h1 z
  ·rw[nY z];show h2 z
 cases b with
 | true =>
  refine ow<|on (λ_=>True) trivial (λi l u a _ r=>go (λ_=>oE (r l u trivial).1) λ(z:¬u ≥ n-h)=>ow<|j (h+u) _ (by lia) λb=>?_) λl u _=>?_
  ·cases b with
   | true=>show oE (r _ _ trivial).2
   | false=>show oE (r _ _ trivial).1
  ·refine ow<|on (λu=>u<=n) (show h+min u (n-h)<=n by lia) (λi l u a d r=>go (λ_=>oE (r l u d).1) λ(z:¬l ≥ u)=>ow<|j (l+(u-l) / 2) _ (by lia) λb=>?_) λl u d=>oE<|q u d;cases b with
   | true=>show oE (r _ _ d).2
   | false=>show oE (r _ _ (show l+(u-l) / 2<=n by lia)).2
 | false =>
  refine ow<|on (λ_=>True) trivial (λi l u a _ r=>go (λ_=>oE (r l u trivial).1) λ(z:¬u ≥ h+1)=>ow<|j (h-u) _ (by lia) λb=>?_) λl u _=>?_
  ·cases b with
   | true=>show oE (r _ _ trivial).1
   | false=>show oE (r _ _ trivial).2
  ·refine ow<|on (λu=>u<=n) (show h-l<=n by lia) (λi l u a d r=>go (λ_=>oE (r l u d).1) λ(z:¬l ≥ u)=>ow<|j (l+(u-l) / 2) _ (by lia) λb=>?_) λl u d=>oE<|q u d;cases b with
   | true=>show oE (r _ _ d).2
   | false=>show oE (r _ _ (show l+(u-l) / 2<=n by lia)).2
omit L
def Mg(a b:Array Keyed)(out:Array Keyed)(x y:mD Keyed):Prop:=(out.toList++(x++y)).Perm (a.toList++b.toList)
variable {a b out:Array Keyed} {x y z:mD Keyed} {v:Keyed}
omit L in
theorem Mg.one(h:Mg a b out (v ::x) y):Mg a b (out.push v) x y:=by
 unfold Mg at h ⊢;rw[Gq,qg];show h
omit L in
theorem Mg.two(h:Mg a b out x (v ::y)):Mg a b (out.push v) x y:=by
 unfold Mg at h ⊢;rw[Gq,qg];show(Dk _ (List.perm_middle (l₁:=x)).symm).trans h
theorem Mg.ones(h:Mg a b out (z++x) y){t:Array Keyed}(e:t.toList.Perm z):Mg a b (out++t) x y:=by
 unfold Mg at h ⊢;rw[ve,qg,<-qg t.toList];show(((e.append_right x).append_right y).append_left _).trans h
theorem Mg.twos(h:Mg a b out x (z++y)){t:Array Keyed}(e:t.toList.Perm z):Mg a b (out++t) x y:=by
 unfold Mg at h ⊢;rw[ve,qg];refine(Dk _ ?_).trans h;rw[<-qg,<-qg];show((e.append_right x).trans wM).append_right y
theorem Mg.swap(h:Mg a b out x y):(out.toList++(y++x)).Perm (a.toList++b.toList):=(wM.append_left _).trans h
theorem Ar{u:Array Keyed}{i:Nat}(h:i<u.size):u.toList.drop i=u[i] ::u.toList.drop (i+1):=by
 rw[zv (by simpa using h)];simp
theorem Kd{u:Array Keyed}{i k:Nat}:u.toList.drop i=(u.extract i<|i+k).toList++u.toList.drop (i+k):=by
 rw[xQ,yq,show i+k-i=k by lia,<-List.drop_drop,wj]
theorem CZ{u:Array Keyed}{i:Nat}:(u.extract i u.size).toList=u.toList.drop i:=by
 rw[xQ,yq,tX<|by simp]
theorem Mg.perm{u r:mD Keyed}(h:Mg a b out x y)(q:u.Perm x)(n:r.Perm y):Mg a b out u r:=((q.append n).append_left _).trans h
theorem Bd{u:Array Keyed}{i:Nat}(r:1<=i)(h:i<=u.size):(u.toList.take i).Perm (u[i-1] ::u.toList.take (i-1)):=by
 have e:u.toList.take i=u.toList.take (i-1)++[u[i-1]]:=by
  have:=oW (l:=u.toList) (i:=i-1);rw[show i-1+1=i by lia,wu,Ji u (i-1)<|by lia]at this;show this
 rw[e];show wM
theorem QE{u:Array Keyed}{i n:Nat}(h:i<=n):(u.toList.take n).Perm ((u.extract i n).reverse.toList++u.toList.take i):=by
 have e:u.toList.take n=u.toList.take i++(u.extract i n).toList:=by
  have:=GQ (l:=u.toList) (i:=i) (j:=n-i);rw[show i+(n-i)=n by lia]at this;rw[this,xQ,yq]
 rw[e,Hu];show wM.trans<|(Do _).symm.append_right _
theorem Dd{u:Array Keyed}{i:Nat}:(u.extract 0 i).toList=u.toList.take i:=by
 rw[xQ,yq]
 rfl
section
variable {C D F:Type} {pd:Array Keyed->Nat->Nat->Prop} {fd:Array Keyed->Nat->Nat->D->C} {ls:mD Keyed} {fu:Array Keyed->F->C} {G G1 G2:C->SortSt->Prop}
def uT(st:SortSt)(pd:Array Keyed->Nat->Nat->Prop)(fd:Array Keyed->Nat->Nat->D->C)(c:C)(u:SortSt):Prop:=Gs st u/\∃o i j d,c=fd o i j d/\pd o i j
def xN(st:SortSt)(ls:mD Keyed)(fu:Array Keyed->F->C)(c:C)(u:SortSt):Prop:=Gs st u/\∃r d,c=fu r d/\r.toList.Perm ls
theorem sU(h:∀o i j d u,Gs st u->pd o i j->G (fd o i j d) u)(c:C)(u:SortSt)(z:uT st pd fd c u):G c u:=by
 obtain⟨r,o,i,j,d,rfl,q⟩:=z;show h o i j d u r q
theorem zq(h:∀r d u,Gs st u->r.toList.Perm ls->G (fu r d) u)(c:C)(u:SortSt)(z:xN st ls fu c u):G c u:=by
 obtain⟨q,r,d,rfl,n⟩:=z;show h r d u q n
theorem EF(r:∀c u,G1 c u->G c u)(q:∀c u,G2 c u->G c u)(c:C)(u:SortSt)(z:G1 c u\/G2 c u):G c u:=z.elim (r c u)<|q c u
end
def Bb(a b:Array Keyed)(n:Nat)(out:Array Keyed)(i j:Nat):Prop:=Mg a b out (a.toList.drop i) (b.toList.drop j)/\i+1<a.size/\j<b.size/\n<i+j
def Aw(a b:Array Keyed)(n:Nat)(out:Array Keyed)(i j:Nat):Prop:=Mg a b out (a.toList.take i) (b.toList.take j)/\1<=i/\i<=a.size/\2<=j/\j<=b.size/\n+i+j<a.size+b.size
include L
theorem Yg0{Q:Array Keyed->SortSt->Prop}(hk:kindOf st=kd)(ha:∀x∈a,x∈o)(hb:∀x∈b,x∈o)(a1:1<=a.size)(b1:1<=b.size)(q:∀(r:Array Keyed) e,Gs st e->r.toList.Perm (a.toList++b.toList)->Q r e):wpS (model prog w) A E s (ZJ a b) Q st:=by
 have h:Gs st st:=#[rfl,rfl,rfl,rfl]
 refine ow<|yJ<|vm #[rfl,?_];refine ow<|Xl (show 0<b.size by lia) ?_;have m0:Mg a b (List.toArray [b[0]]) (a.toList.drop 0) (b.toList.drop 1):=by
  have:Mg a b #[] (a.toList.drop 0) (b.toList.drop 0):=qW _;rw[Ar (show 0<b.size by lia)]at this;show this.two
 have E7:∀{out:Array Keyed}{i j:Nat},Mg a b out (a.toList.drop i) (b.toList.drop j)->(out++a.extract i a.size++b.extract j b.size).toList.Perm (a.toList++b.toList):=λz=>by
  rw[ve,ve,CZ,CZ,qg];show z
 have K3:∀{out:Array Keyed}{i j:Nat},Mg a b out (a.toList.drop i) (b.toList.drop j)->(out++b.extract j b.size++a.extract i a.size).toList.Perm (a.toList++b.toList):=λz=>by
  rw[ve,ve,CZ,CZ,qg];show z.swap
 refine pq (λ_=>oE<|q _ _ h<|E7 m0) λe1=>pq (λ_=>oE<|q _ _ h<|K3 m0) λe2=>?_
 have e1:¬1=b.size:=by simpa using e1
 have e2:¬1=a.size:=by simpa using e2
 refine ow<|vi ?_;refine ow (tQ (tM
  (I:=λk=>uT st (Bb a b k) λo i j d=>(none,o,i,j,d))
  (Q:=xN st (a.toList++b.toList) λr d=>(some r,d)) ?_ ?_ #[h,_,_,_,_,rfl,m0,by lia,by lia,by lia]) ?_)
 rotate_left
 ·show sU λo i j d N M u=>absurd u.2.2.2 (by have:=u.2.1;have:=u.2.2.1;lia)
 ·show zq λr d N M hr=>oE<|q r N M hr
 intro k c e _ k2;revert c e;refine sU λout i j d e M u=>?_
 refine ow (tQ (tM
  (I:=λk'=>uT st (Bb a b<|k+k') λo i j d=>(none,o,i,j,d))
  (Q:=λc N=>xN st (a.toList++b.toList) (λr d=>(some r,d)) c N\/uT st (Bb a b<|k+1) (λo i j d=>(none,o,i,j,d)) c N) ?_ ?_ #[M,_,_,_,_,rfl,u]) ?_)
 ·clear u M;intro k' c Y _ k3;revert c Y;refine sU λout i j d Y n u=>?_
  have m:=u.1;have C:=u.2.1;have l:=u.2.2.1;have B:=u.2.2.2;dsimp only;refine ow<|Xl l<|ow<|Xl (show i<a.size by lia)<|ow<|Bl L (n.1.trans hk) (hb _<|tZ _) (ha _<|tZ _) λc=>?_;cases c with
  | true =>
   refine ow<|Xl l ?_;rw[Ar l]at m;refine pq (λ_=>oE<|.inl #[n,_,_,rfl,E7 m.two]) λ(z:¬(j+1 ==b.size)=true)=>?_
   have z:¬j+1=b.size:=by simpa using z
   show pq (λ_=>oE<|.inr #[n,_,_,_,_,rfl,m.two,C,by lia,by lia]) λ_=>oE #[n,_,_,_,_,rfl,m.two,C,by lia,by lia]
  | false =>
   refine ow<|Xl (show i<a.size by lia) ?_;rw[Ar (show i<a.size by lia)]at m;refine pq (λ_=>oE<|.inl #[n,_,_,rfl,K3 m.one]) λ(z:¬(i+1+1 ==a.size)=true)=>?_
   have z:¬i+1+1=a.size:=by simpa using z
   show pq (λ_=>oE<|.inr #[n,_,_,_,_,rfl,m.one,by lia,l,by lia]) λ_=>oE #[n,_,_,_,_,rfl,m.one,by lia,l,by lia]
 ·show sU λo i j d N M u=>.inr #[M,_,_,_,_,rfl,u.1,u.2.1,u.2.2.1,by have:=u.2.2.2;lia]
 clear u M;refine EF (zq λr d Y n hr=>oE #[n,r,_,rfl,hr])<|sU λout i j d Y n u=>?_;refine ow<|yJ<|vm #[rfl,?_];refine ow (tQ (tM
  (I:=λk'=>uT st (Bb a b<|k+1) λo i j d=>(none,o,i,j,d))
  (Q:=λc N=>xN st (a.toList++b.toList) (λr d=>(some r,d)) c N\/uT st (Bb a b<|k+1) (λo i j d=>(none,o,i,j,d)) c N) ?_ (λ_ _=>.inr) #[n,_,_,_,_,rfl,u]) ?_)
 ·clear u n;intro k' c Y _ k3;revert c Y;refine sU λout i j d Y n u=>?_
  have m:=u.1;have C:=u.2.1;have l:=u.2.2.1;have B:=u.2.2.2;dsimp only;generalize d.1=g;apply GA (λ(_:Nat) e=>Gs st e)
  case a =>
   intro Zs;refine pq (λ_=>?_) λ_=>?_
   ·generalize g-1=g';show Zs g' Y n
   ·show Zs g Y n
  intro g st4 h4;refine ow<|EM h4 λC1 J=>?_;refine ow<|Xl l<|ow<|zO L (J.1.trans hk) (hb _<|tZ _) ha (by lia) (by lia) λk5 hk5=>?_;dsimp only;have m5:=m;rw[Kd (i:=i) (k:=k5)]at m5;apply Ck (λ(out:Array Keyed) (i:Nat) e=>Gs st e/\Mg a b out (a.toList.drop i) (b.toList.drop j)/\i+1<a.size/\k+1<i+j)
  case a =>
   intro Zs;refine pq (λ_=>pq (λ_=>oE<|.inl #[J,_,_,rfl,K3<|m5.ones<|qW _]) λz1=>pq (λ_=>oE<|.inl #[J,_,_,rfl,E7<|m5.ones<|qW _]) λz2=>?_) λ_=>?_
   ·have z1:¬i+k5+1=a.size:=by simpa using z1
    have z2:¬i+k5=a.size:=by simpa using z2
    have H:i+k5+1<a.size:=by lia
    have G:k+1<i+k5+j:=by lia
    have D:=m5.ones<|qW _;revert H G D;generalize i+k5=i';generalize out++a.extract i i'=U;show λH G D=>Zs U i' C1 #[J,D,H,G]
   ·show Zs out i C1 #[J,m,C,B]
  clear m5 m C B J hk5;intro out i st6 u;have h6:=u.1;have m:=u.2.1;have C:=u.2.2.1;have B:=u.2.2.2;refine ow<|Xl l ?_;rw[Ar l]at m;refine pq (λ_=>oE<|.inl #[h6,_,_,rfl,E7 m.two]) λz=>?_
  have z:¬j+1=b.size:=by simpa using z
  refine ow<|Xl (show i<a.size by lia)<|ow<|zO L (h6.1.trans hk) (ha _<|tZ _) hb (by lia) (by lia) λk7 hk7=>?_;dsimp only;have m7:=m.two;have m8:=m7;rw[Kd (i:=j+1) (k:=k7)]at m8;apply Ck (λ(out:Array Keyed) (j:Nat) e=>Gs st e/\Mg a b out (a.toList.drop i) (b.toList.drop j)/\j<b.size/\k+1<i+j)
  case a =>
   intro Zs;refine pq (λ_=>pq (λ_=>oE<|.inl #[h6,_,_,rfl,E7<|m8.twos<|qW _]) λz1=>?_) λ_=>?_
   ·have z1:¬j+1+k7=b.size:=by simpa using z1
    have H:j+1+k7<b.size:=by lia
    have G:k+1<i+(j+1+k7):=by lia
    have D:=m8.twos<|qW _;revert H G D;generalize j+1+k7=j';generalize out.push b[j]++b.extract (j+1) j'=U;show λH G D=>Zs U j' st6 #[h6,D,H,G]
   ·show Zs _ _ st6 #[h6,m7,by lia,by lia]
  clear m7 m8 m B h6 hk7 z l;intro out j st7 u;have h7:=u.1;have m:=u.2.1;have l:=u.2.2.1;have B:=u.2.2.2;refine ow<|Xl (show i<a.size by lia) ?_;rw[Ar (show i<a.size by lia)]at m;refine pq (λ_=>oE<|.inl #[h7,_,_,rfl,K3 m.one]) λz=>?_
  have z:¬i+1+1=a.size:=by simpa using z
  show pq (λ_=>oE<|.inr #[h7,_,_,_,_,rfl,m.one,by lia,l,by lia]) λ_=>oE #[h7,_,_,_,_,rfl,m.one,by lia,l,by lia]
 show EF (zq λr d Y n hr=>oE #[n,r,_,rfl,hr])<|sU λout i j d Y n u=>ow<|EM n λC1 J=>oE #[J,_,_,_,_,rfl,u]
theorem Yhd{Q:Array Keyed->SortSt->Prop}(hk:kindOf st=kd)(ha:∀x∈a,x∈o)(hb:∀x∈b,x∈o)(a1:1<=a.size)(b1:1<=b.size)(q:∀(r:Array Keyed) l,Gs st l->r.toList.Perm (a.toList++b.toList)->Q r l):wpS (model prog w) A E s (Ui a b) Q st:=by
 have h:Gs st st:=#[rfl,rfl,rfl,rfl]
 refine ow<|yJ<|vm #[rfl,?_];refine ow<|Xl (show a.size-1<a.size by lia) ?_;have m0:Mg a b (List.toArray [a[a.size-1]]) (a.toList.take<|a.size-1) (b.toList.take b.size):=by
  have:Mg a b #[] (a.toList.take a.size) (b.toList.take b.size):=by
   rw[tX (by simp),tX<|by simp];show qW _
  show(this.perm (Bd a1<|oq _).symm (qW _)).one
 have E7:∀{out:Array Keyed}{i j:Nat},Mg a b out (a.toList.take i) (b.toList.take j)->(a.extract 0 i++b.extract 0 j++out.reverse).toList.Perm (a.toList++b.toList):=λz=>by
  rw[ve,ve,Dd,Dd,Hu];show(wM.trans<|(Do _).append_right _).trans z
 have K3:∀{out:Array Keyed}{i j:Nat},Mg a b out (a.toList.take i) (b.toList.take j)->(b.extract 0 j++a.extract 0 i++out.reverse).toList.Perm (a.toList++b.toList):=λz=>by
  rw[ve,ve,Dd,Dd,Hu];show(wM.trans<|(Do _).append_right _).trans z.swap
 refine pq (λ_=>oE<|q _ _ h<|E7 m0) λe1=>pq (λ_=>oE<|q _ _ h<|K3 m0) λe2=>?_
 have e1:¬a.size-1=0:=by simpa using e1
 have e2:¬b.size=1:=by simpa using e2
 refine ow<|vi ?_;refine ow (tQ (tM
  (I:=λk=>uT st (Aw a b k) λo i j d=>(none,i,j,o,d))
  (Q:=xN st (a.toList++b.toList) λr d=>(some r,d)) ?_ ?_ #[h,_,_,_,_,rfl,m0,by lia,by lia,by lia,by lia,by lia]) ?_)
 rotate_left
 ·show sU λo i j d U M u=>absurd u.2.2.2.2.2 (by have:=u.2.1;have:=u.2.2.2.1;lia)
 ·show zq λr d U M hr=>oE<|q r U M hr
 intro k c l _ k2;revert c l;refine sU λout i j d l M u=>?_
 refine ow (tQ (tM
  (I:=λk'=>uT st (Aw a b<|k+k') λo i j d=>(none,i,j,o,d))
  (Q:=λc U=>xN st (a.toList++b.toList) (λr d=>(some r,d)) c U\/uT st (Aw a b<|k+1) (λo i j d=>(none,i,j,o,d)) c U) ?_ ?_ #[M,_,_,_,_,rfl,u]) ?_)
 ·clear u M;intro k' c e _ k3;revert c e;refine sU λout i j d e n u=>?_
  have m:=u.1;have J:=u.2.1;have H:=u.2.2.1;have D:=u.2.2.2.1;have N:=u.2.2.2.2.1;have k1:=u.2.2.2.2.2;dsimp only;refine ow<|Xl (show j-1<b.size by lia)<|ow<|Xl (show i-1<a.size by lia)<|ow<|Bl L (n.1.trans hk) (hb _<|tZ _) (ha _<|tZ _) λc=>?_;cases c with
  | true =>
   refine ow<|Xl (show i-1<a.size by lia) ?_;have m:=(m.perm (Bd J H).symm (qW _)).one;refine pq (λ_=>oE<|.inl #[n,_,_,rfl,E7 m]) λz=>?_
   have z:¬i-1=0:=by simpa using z
   show pq (λ_=>oE<|.inr #[n,_,_,_,_,rfl,m,by lia,by lia,D,N,by lia]) λ_=>oE #[n,_,_,_,_,rfl,m,by lia,by lia,D,N,by lia]
  | false =>
   refine ow<|Xl (show j-1<b.size by lia) ?_;have m:=(m.perm (qW _) (Bd (by lia) N).symm).two;refine pq (λ_=>oE<|.inl #[n,_,_,rfl,K3 m]) λz=>?_
   have z:¬j-1=1:=by simpa using z
   show pq (λ_=>oE<|.inr #[n,_,_,_,_,rfl,m,J,H,by lia,by lia,by lia]) λ_=>oE #[n,_,_,_,_,rfl,m,J,H,by lia,by lia,by lia]
 ·show sU λo i j d U M u=>.inr #[M,_,_,_,_,rfl,u.1,u.2.1,u.2.2.1,u.2.2.2.1,u.2.2.2.2.1,by have:=u.2.2.2.2.2;lia]
 clear u M;refine EF (zq λr d e n hr=>oE #[n,r,_,rfl,hr])<|sU λout i j d e n u=>?_;refine ow<|yJ<|vm #[rfl,?_];refine ow (tQ (tM
  (I:=λk'=>uT st (Aw a b<|k+1) λo i j d=>(none,i,j,o,d))
  (Q:=λc U=>xN st (a.toList++b.toList) (λr d=>(some r,d)) c U\/uT st (Aw a b<|k+1) (λo i j d=>(none,i,j,o,d)) c U) ?_ (λ_ _=>.inr) #[n,_,_,_,_,rfl,u]) ?_)
 ·clear u n;intro k' c e _ k3;revert c e;refine sU λout i j d e n u=>?_
  have m:=u.1;have J:=u.2.1;have H:=u.2.2.1;have D:=u.2.2.2.1;have N:=u.2.2.2.2.1;have k1:=u.2.2.2.2.2;dsimp only;generalize d.1=g;apply GA (λ(_:Nat) l=>Gs st l)
  case a =>
   intro Zs;refine pq (λ_=>?_) λ_=>?_
   ·generalize g-1=g';show Zs g' e n
   ·show Zs g e n
  intro g st4 h4;refine ow<|EM h4 λC1 C=>?_;refine ow<|Xl (show j-1<b.size by lia)<|ow<|zO L (C.1.trans hk) (hb _<|tZ _) ha (by lia) (by lia) λB hk5=>?_;dsimp only;generalize i-B=ac;have m5:=(m.perm (QE hk5).symm (qW _)).ones (qW _);apply Ck (λ(out:Array Keyed) (i:Nat) l=>Gs st l/\Mg a b out (a.toList.take i) (b.toList.take j)/\1<=i/\i<=a.size/\k+1+i+j<a.size+b.size)
  case a =>
   intro Zs;refine pq (λ_=>pq (λ_=>oE<|.inl #[C,_,_,rfl,E7 m5]) λz1=>?_) λ_=>?_
   ·have z1:¬B=0:=by simpa using z1
    have r1:1<=B:=by lia
    have r2:B<=a.size:=by lia
    have r3:k+1+B+j<a.size+b.size:=by lia
    have r4:=m5;revert r4 r1 r2 r3;generalize out++(a.extract B i).reverse=Y;generalize B=i';show λr1 r2 r3 r4=>Zs Y i' C1 #[C,r4,r1,r2,r3]
   ·show Zs out i C1 #[C,m,J,H,k1]
  clear m5 m J H k1 C hk5;intro out i st6 u;have h6:=u.1;have m:=u.2.1;have J:=u.2.2.1;have H:=u.2.2.2.1;have k1:=u.2.2.2.2;refine ow<|Xl (show j-1<b.size by lia) ?_;have m:=(m.perm (qW _) (Bd (by lia) N).symm).two;refine pq (λ_=>oE<|.inl #[h6,_,_,rfl,K3 m]) λz=>?_
  have z:¬j-1=1:=by simpa using z
  refine ow<|Xl (show i-1<a.size by lia)<|ow<|zO L (h6.1.trans hk) (ha _<|tZ _) hb (by lia) (by lia) λG hk7=>?_;dsimp only;generalize j-1-G=bc;have m8:=(m.perm (qW _) (QE hk7).symm).twos (qW _);apply Ck (λ(out:Array Keyed) (j:Nat) l=>Gs st l/\Mg a b out (a.toList.take i) (b.toList.take j)/\2<=j/\j<=b.size/\k+1+i+j<a.size+b.size)
  case a =>
   intro Zs;refine pq (λ_=>pq (λ_=>oE<|.inl #[h6,_,_,rfl,K3 m8]) λz1=>pq (λ_=>oE<|.inl #[h6,_,_,rfl,E7 m8]) λz2=>?_) λ_=>?_
   ·have z1:¬G=1:=by simpa using z1
    have z2:¬G=0:=by simpa using z2
    have r1:2<=G:=by lia
    have r2:G<=b.size:=by lia
    have r3:k+1+i+G<a.size+b.size:=by lia
    have r4:=m8;revert r4 r1 r2 r3;generalize out.push b[j-1]++(b.extract G<|j-1).reverse=Y;generalize G=j';show λr1 r2 r3 r4=>Zs Y j' st6 #[h6,r4,r1,r2,r3]
   ·show Zs _ _ st6 #[h6,m,by lia,by lia,by lia]
  clear m8 m k1 h6 hk7 z D N;intro out j st7 u;have h7:=u.1;have m:=u.2.1;have D:=u.2.2.1;have N:=u.2.2.2.1;have k1:=u.2.2.2.2;refine ow<|Xl (show i-1<a.size by lia) ?_;have m:=(m.perm (Bd J H).symm (qW _)).one;refine pq (λ_=>oE<|.inl #[h7,_,_,rfl,E7 m]) λz=>?_
  have z:¬i-1=0:=by simpa using z
  show pq (λ_=>oE<|.inr #[h7,_,_,_,_,rfl,m,by lia,by lia,D,N,by lia]) λ_=>oE #[h7,_,_,_,_,rfl,m,by lia,by lia,D,N,by lia]
 show EF (zq λr d e n hr=>oE #[n,r,_,rfl,hr])<|sU λout i j d e n u=>ow<|EM n λC1 C=>oE #[C,_,_,_,_,rfl,u]
omit L
theorem VS{u:Type}{M:Model}{Q:PUnit->u->Prop}{q r:u}(h:Q ⟨⟩ r):wpS M A E s (set r:StateT u Sem PUnit) Q q:=by
 unfold wpS;rw[StateT.run_set];show ou #[rfl,h]
theorem PN:∀(l:mD Keyed)(off k:Nat)(u:Array Keyed),off+k+l.length<=u.size->((l.zipIdx k).foldl (λa x=>a.setIfInBounds (off+x.2) x.1) u).toList=u.toList.take (off+k)++l++u.toList.drop (off+k+l.length)
 | [],off,k,u,_=>by simp
 | x ::l,off,k,u,h=>by
  rw[qr]at h;rw[List.zipIdx_cons,List.foldl_cons,PN l off (k+1) _ (by rw[Array.size_setIfInBounds];lia),QR];have r:(u.toList.set (off+k) x).take (off+(k+1))=u.toList.take (off+k)++[x]:=by
   rw[show off+(k+1)=off+k+1 by lia,oW,List.take_set_of_le<|oq _,IJ<|by simpa using(by lia:off+k<u.size)]
   rfl
  rw[r,List.drop_set_of_lt (by lia),qr,qg,qg,show off+(k+1)+l.length=off+k+(l.length+1) by lia];simp
theorem YB{u m:Array Keyed}{i j k:Nat}(q:i<=j)(n:j<=k)(d:k<=u.size)(r:m.toList.Perm ((u.extract i j).toList++(u.extract j k).toList)) :
  ((m.toList.zipIdx).foldl (λa x=>a.setIfInBounds (i+x.2) x.1) u).Perm u:=by
 have e:(u.extract i j).toList++(u.extract j k).toList=(u.toList.drop i).take (k-i):=by
  rw[xQ,xQ,yq,yq,show k-i=(j-i)+(k-j) by lia,GQ,List.drop_drop,show i+(j-i)=j by lia]
 rw[e]at r;have l:=r.length_eq;have h:u.toList.length=u.size:=ut;rw[oZ,xY,h]at l;rw[QY,PN m.toList i 0 u<|by lia];have g:u.toList=u.toList.take i++(u.toList.drop i).take (k-i)++u.toList.drop (i+(k-i)):=by
  rw[<-GQ,wj]
 rw[show i+0+m.toList.length=i+(k-i) by lia];show((r.append_left _).append_right _).trans (by rw[EA,<-g])
def Ch:Nat->mD (Nat×Nat×Nat)->Nat->Prop
 | a,[],b=>a=b
 | a,x ::r,b=>x.1=a/\1<=x.2.1/\Ch (a+x.2.1) r b
theorem Ch.le:∀{l:mD (Nat×Nat×Nat)}{a b:Nat},Ch a l b->a<=b
 | [],_,_,h=>yt h
 | _ ::_,_,_,⟨_,_,h⟩=>oU (Nat.le_add_right _ _) h.le
theorem Ch.snoc{n q:Nat}:∀{l:mD (Nat×Nat×Nat)}{a b:Nat},Ch a l b->1<=n->Ch a (l++[(b,n,q)]) (b+n)
 | [],_,_,h,u=>by cases(h:_=_);show#[rfl,u,rfl]
 | _ ::_,_,_,⟨r,j,h⟩,u=>#[r,j,h.snoc u]
theorem Ch.mod{f:Nat×Nat×Nat->Nat×Nat×Nat}(u:∀x,(f x).1=x.1/\(f x).2.1=x.2.1):∀{l:mD (Nat×Nat×Nat)}{k a b:Nat},Ch a l b->Ch a (l.modify k f) b
 | [],k,_,_,h=>by rw[List.modify_nil];show h
 | x ::r,0,_,_,⟨q,n,h⟩=>by rw[List.modify_zero_cons];show#[(u x).1.trans q,by rw[(u x).2];show n,by rw[(u x).2];show h]
 | x ::r,k+1,_,_,⟨q,n,h⟩=>by rw[List.modify_succ_cons];show#[q,n,h.mod u]
theorem Ch.two{x y:Nat×Nat×Nat}{post:mD (Nat×Nat×Nat)}:∀{pre:mD (Nat×Nat×Nat)}{a b:Nat},Ch a (pre++x ::y ::post) b->x.1+x.2.1=y.1/\1<=x.2.1/\1<=y.2.1/\y.1+y.2.1<=b/\Ch a (pre++(x.1,x.2.1+y.2.1,x.2.2) ::post) b
 | [],a,b,⟨u,r,q,n,h⟩=>#[by rw[u,q],r,n,by rw[q];show h.le,u,by change 1<=x.2.1+y.2.1;lia,by change Ch (a+(x.2.1+y.2.1)) post b;rw[<-Nat.add_assoc];show h]
 | z ::pre,a,b,⟨u,r,h⟩=>by
  obtain⟨q,n,l,j,g⟩:=h.two;show#[q,n,l,j,u,r,g]
include L
theorem Tj{pre post:mD (Nat×Nat×Nat)}{x y:Nat×Nat×Nat}{Q:Bool->SortSt->Prop}(h:Ps kd o p st)(D:p.toList=pre++x ::y ::post)(e:x.1+x.2.1=y.1)(hb:y.1+y.2.1<=o.size)(n1:1<=x.2.1)(n2:1<=y.2.1)
  (q:∀(I:Array (Nat×Nat×Nat)) u,I.toList=pre++(x.1,x.2.1+y.2.1,x.2.2) ::post->Ps kd o I u->Q true u):wpS (model prog w) A E s (mergeAt' pre.length) Q st:=by
 obtain⟨l,d,U⟩:=x;obtain⟨c,Y,qw⟩:=y;have g1:(pendingOf st)[pre.length]? =some (l,d,U):=by rw[h.pend,<-wu,D];simp
 have g2:(pendingOf st)[pre.length+1]? =some (c,Y,qw):=by rw[h.pend,<-wu,D];simp
 dsimp only at e hb n1 n2 q;have es:=h.many;refine ow<|vi ?_;change wpS _ _ _ _ (match((pendingOf st)[pre.length]?,(pendingOf st)[pre.length+1]?)with
  | (some (l,d,power),some (c,Y,snd_))=>_
  | x=>_) _ _
 rw[g1,g2];refine ow<|VS ?_;have I:(((pendingOf st).setIfInBounds pre.length (l,d+Y,U)).eraseIdxIfInBounds (pre.length+1)).toList=pre++(l,d+Y,U) ::post:=by
  rw[h.pend,Array.toList_eraseIdxIfInBounds,QR,D,List.set_append_right _ _<|oq _,List.eraseIdx_append_of_length_le<|sF _];simp
 have N:∀x∈arrOf st,x∈o:=λx M=>h.mem M
 have C:∀u:SortSt,Ps kd o (((pendingOf st).setIfInBounds pre.length (l,d+Y,U)).eraseIdxIfInBounds (pre.length+1)) u->Q true u:=λu z=>q _ u I z
 clear q;refine ow<|Xl (show c<(arrOf st).size by lia)<|ow<|zO L h.kind (N _<|tZ _) N (show l+d<=(arrOf st).size by lia) (show 0<d by lia) λk hk=>?_;refine pq (λ_=>oE<|C _ #[h.perm,h.kind,h.good,rfl]) λ(z:¬(d-k ==0)=true)=>?_
 have z:¬d-k=0:=by simpa using z
 refine ow<|Xl (show l+k+(d-k)-1<(arrOf st).size by lia)<|ow<|zO L h.kind (N _<|tZ _) N (show c+Y<=(arrOf st).size by lia) (show Y-1<Y by lia) λH hk3=>?_;refine pq (λ_=>oE<|C _ #[h.perm,h.kind,h.good,rfl]) λ(B:¬(H ==0)=true)=>?_
 have B:¬H=0:=by simpa using B
 have jn:∀(r:Array Keyed)(n u:SortSt),Gs n u->arrOf n=arrOf st->kindOf n=kd->failedOf n=none->pendingOf n=((pendingOf st).setIfInBounds pre.length (l,d+Y,U)).eraseIdxIfInBounds (pre.length+1)->r.toList.Perm (((arrOf st).extract (l+k) c).toList++((arrOf st).extract c (c+H)).toList)->
   wpS (model prog w) A E s (do
    modify λs=>setArr s<|r.toList.zipIdx.foldl (λa x=>a.setIfInBounds (l+k+x.2) x.1)<|arrOf s
    let x <-get
    pure (failedOf x).isNone) Q u:=λr n u g b1 b2 b3 b4 J=>by
  refine ow<|Aq<|ow<|vi<|oE ?_;have e3:failedOf u=none:=g.2.2.2.trans b3;have e4:=g.2.1.trans b1;change Q (failedOf u).isNone _;rw[e3];refine C _ #[?_,g.1.trans b2,e3,g.2.2.1.trans b4];change(r.toList.zipIdx.foldl (λa x=>a.setIfInBounds (l+k+x.2) x.1)<|arrOf u).Perm o;rw[e4];show(YB (by lia) (by lia) (by lia) J).trans h.perm
 have z0:1<=((arrOf st).extract (l+k) c).size:=by rw[Nt];lia
 have z3:1<=((arrOf st).extract c (c+H)).size:=by rw[Nt];lia
 have G:∀{i j:Nat},∀x∈(arrOf st).extract i j,x∈o:=λx M=>N x (by
  rw[<-AM]at M ⊢;rw[xQ,yq]at M;show IZ<|AQ M)
 show pq (λ_=>ow<|Yg0 L h.kind G G z0 z3 λr u g J=>jn r _ u g rfl h.kind h.good rfl J) λ_=>ow<|Yhd L h.kind G G z0 z3 λr u g J=>jn r _ u g rfl h.kind h.good rfl J
omit L in
theorem Vr{u:Type}{l:mD u}{i:Nat}(h:i+1<l.length):∃pre x y post,l=pre++x ::y ::post/\pre.length=i:=by
 refine#[l.take i,l[i],l[i+1],l.drop<|i+2,?_,by rw[oZ];lia];rw[<-zv,<-zv,wj]
theorem JZ{lo i:Nat}{Q:Bool->SortSt->Prop}(h:Ps kd o p st)(c:Ch 0 p.toList lo)(n:lo<=o.size)(j:i+1<p.size)(q:∀(u:Array (Nat×Nat×Nat)) r,Ps kd o u r->Ch 0 u.toList lo->Q true r):wpS (model prog w) A E s (mergeAt' i) Q st:=by
 obtain⟨pre,x,y,post,e,rfl⟩:=Vr (l:=p.toList) (i:=i) (by simpa using j);rw[e]at c;obtain⟨g,d,Y,J,U⟩:=c.two;show Tj L h e g (by lia) d Y λu r N M=>q u r M (by rw[N];show U)
theorem UD{Q:Unit->SortSt->Prop}(h:Ps kd o #[] st)(q:∀r,(arrOf r).Perm o->failedOf r=none->Q () r):wpS (model prog w) A E s sortRuns' Q st:=by
 rw[sortRuns'_eq];refine ow<|vi ?_;dsimp only;rw[h.many];generalize minRun' o.size o.size 0=H;refine ow<|tQ (tM (I:=λ_ c r=>∃lo p,c=(none,lo)/\Ps kd o p r/\Ch 0 p.toList lo/\lo<=o.size) (Q:=λc r=>∃lo p,c=(none,lo)/\Ps kd o p r/\Ch 0 p.toList lo/\lo<=o.size) ?_ (λ_ _ z=>z) #[0,#[],rfl,h,rfl,sY _]) ?_
 ·rintro x c r _ _ ⟨lo,p,rfl,d,Y,i⟩;dsimp only;refine pq (λ_=>oE #[lo,p,rfl,d,Y,i]) λz=>?_
  refine ow<|Vb L d (by lia) (by lia) λn U j N G=>?_;dsimp only;apply GA (λ(n:Nat) r=>Ps kd o p r/\1<=n/\lo+n<=o.size)
  case a =>
   intro Zs;refine pq (λD=>ow<|yJ<|vm #[rfl,ow<|Yc7 L j (by lia) λg M=>?_]) λ_=>?_
   ·have D:1<=min (o.size-lo) H:=by lia
    have C:lo+min (o.size-lo) H<=o.size:=by lia
    simp only[IQ,tT,rX];revert D C;generalize min (o.size-lo) H=n';show λD C=>Zs n' g #[M,D,C]
   ·show Zs n U #[j,N,by lia]
  clear d j N G;rintro n g ⟨M,N,G⟩;refine ow<|vi ?_;apply HY (λr=>∃p,Ps kd o p r/\Ch 0 p.toList lo)
  case a =>
   intro Zs;cases C:(pendingOf g).back? with
   | none=>show Zs g #[p,M,Y]
   | some y =>
    refine ow<|tQ (tM (I:=λ_ c l=>c=(none,())/\∃p,Ps kd o p l/\Ch 0 p.toList lo) (Q:=λc l=>c=(none,())/\∃p,Ps kd o p l/\Ch 0 p.toList lo) ?_ (λ_ _ z=>z) #[rfl,p,M,Y]) ?_
    ·rintro x c l _ _ ⟨rfl,J,u,e⟩;refine ow<|vi ?_
     by_cases D:(pendingOf l).size >1
     ·rw[og D,Ji (pendingOf l) ((pendingOf l).size-2)<|by lia];refine pq (λ_=>oE #[rfl,J,u,e]) λ_=>ow<|JZ L u e i ?_ λB st6 h6 c6=>oE #[rfl,B,h6,c6]
      rw[<-u.pend];lia
     ·rw[nY D];show oE #[rfl,J,u,e]
    ·rintro c l ⟨rfl,J,u,e⟩;refine ow<|Aq<|Zs _ #[_,#[u.perm,u.kind,u.good,rfl],?_];rw[u.pend,Array.toList_modify];refine Ch.mod (λ_=>?_) e;show#[rfl,rfl]
  rintro l ⟨J,u,e⟩;refine ow<|Aq<|oE #[lo+n,_,rfl,#[u.perm,u.kind,u.good,rfl],?_,G];rw[u.pend,Gq];show e.snoc N
 ·rintro c r ⟨lo,p,rfl,d,Y,i⟩;dsimp only;refine ow<|tQ (tM (I:=λ_ c l=>c=(none,())/\∃p,Ps kd o p l/\Ch 0 p.toList lo) (Q:=λc l=>c=(none,())/\∃p,Ps kd o p l/\Ch 0 p.toList lo) ?_ (λ_ _ z=>z) #[rfl,p,d,Y]) ?_
  ·rintro x c U _ _ ⟨rfl,u,j,n⟩;refine ow<|vi ?_;refine pq (λ_=>oE #[rfl,u,j,n]) λz=>ow<|JZ L j n i ?_ λB st6 h6 c6=>oE #[rfl,B,h6,c6]
   rw[j.pend]at z ⊢;have g:∀b:Bool,(if b=true then u.size-2-1 else u.size-2)+1<u.size:=λb=>by cases b<;>simp<;>lia
   show g _
  ·rintro c U ⟨rfl,u,j,n⟩;show oE<|q U j.perm j.good
end
open PySem.Spec
def Z8.nil_iff{xs:mD V}{us:mD mH}(r:Z8 xs us):us=[]↔xs=[]:=by
 cases r with
 | nil=>simp
 | cons _ _=>simp
section
variable {X:Cx} {pos:Pos}
def ZU(c:TT)(r:TS):TS:=λD y H=>∃W:Nat->St->Hp->Prop,(∃m,W m y H)/\∀m y H,W m y H->
 c y H λb w=>if b=true then ∃N:St->Hp->Prop,(∀x u,N x u->∃s,s<m/\W s x u)/\r {D with nx:=N,ct:=N,bk:=D.nx} y w else D.nx y w
def TN{c:mQ}{body:mD mM}{e:TT}{d:TS}(a:PassesOwn (model X.prog X.w) X.A X.env X.xe)(L:PT X c e)(J:rQ X body d):PS X (.While c body [] pos) (ZU e d):=by
 intro p s y H D I h;obtain⟨W,⟨G,E⟩,C⟩:=h;refine wpAny_While<|codeAny_whileLoop (λn q=>∃x u,nM X p x u q/\W n x u) ?_ G #[y,H,I,E];rintro n B ⟨w,Y,A,w1⟩;refine xW a<|oK (L p B w Y _ A<|C n w Y w1) λb s2 ⟨U,Q,r⟩=>?_;cases b with
 | true =>
  obtain⟨N,M,r⟩:=r;rw[og rfl];refine xW a<|oK (J p s2 w U _ Q r) λf N q=>?_;cases f with
  | next =>
   obtain⟨x,u,o,l⟩:=q;obtain⟨j,i,g⟩:=M x u l;show#[j,i,x,u,o,g]
  | cont =>
   obtain⟨x,u,o,l⟩:=q;obtain⟨j,i,g⟩:=M x u l;show#[j,i,x,u,o,g]
  | brk=>show q
  | ret v=>show q
 | false =>
  rw[nY pi];show Cj #[w,U,Q,r]
end
section
variable {X:Cx} {e:mQ} {te:TE} {lo hi:mJ mQ} {tl th:TO} {pos p2:Pos}
def Us(K:mK):R2:=λx y H Q=>∃a b u w,x=.ref a/\y=.ref b/\SqT K H a u/\SqT K H b w/\u≠[]/\u.length+w.length<=sizeLine/\
 (w=[]->Q (.ref a) H)/\(w≠[]->∀p,H p=none->Q (.ref p) (nO H p<|.tup<|u++w))
def YE:oS X (binaryOp .Add) (Us X.K):=by
 intro J s y H x w v u Q I j i h;obtain⟨a,b,g,d,rfl,rfl,c,Y,U,l,N,M⟩:=h;cases j;cases i;obtain⟨r,n,L,_⟩:=I.tuple c;obtain⟨r,p,p2,_⟩:=I.tuple Y;refine HT.cat_tup L p2 (λz=>U<|n.nil_iff.mp z) (λz=>#[.ref a,H,I,rfl,N<|p.nil_iff.mp z]) (λz=>?_) (by rw[<-n.length,<-p.length];show l);refine#[.ref #v[s],_,I.laid (t':=s.toks) (o:=.tup<|g++d) (λb r q=>oH _ q) (oq _) ?_,rfl,M (λr=>z<|p.nil_iff.mpr r) _<|I.hok.fresh<|oq _];show#[by rw[oP];show l,_,n.append p,IsTup.new _ _]
end
section
variable {X:Cx} {a b:mQ} {ta tb:TE} {pos:Pos}
def Yj5(K:mK)(T:String)(r:V->mD V->Hp->VK->Prop)(to:TE):TE:=λy H Q=>to y H λx w=>Hi K T x w/\r x [] w Q
variable {o e:mQ} {es:mD mQ} {to:TE} {t:TA} {name:mF} {m6 g8:Pos} {T id:String} {r:V->mD V->Hp->VK->Prop}
def Et(n:PlainAttrs T)(slot:Slot T name id)(w:typeOf (.builtin id)=pure (.type "method_descriptor"))(l:Bo X id r)(j:PE X o to)
  (i:attributeBase o name X.env (eval o X.env)=eval o X.env:=by rfl) (g:(m6.endLine ==g8.line)=true:=by rfl):PE X (.Call (.Attribute o name m6) [] [] g8) (Yj5 X.K T r to):=by
 intro u s y H Q I h;refine CU i g<|oK (j u s y H _ I h) λv d ⟨x,c,q,p,Y,U⟩=>?_;obtain⟨N,M⟩:=Sa q p Y;show#[T,id,n,slot,w,N,M,wb rfl<|CF<|l u d y c x [] v [] Q q p .nil U]
end
section
def Z8.two{x y:V}{us:mD mH}(h:Z8 [x,y] us):∃u v,us=[u,v]/\Yc x u/\Yc y v:=by
 cases h with
 | cons r t =>
  cases t with
  | cons q t =>
   cases t;show#[_,_,rfl,r,q]
end
section
theorem Z8.zero:∀{us:mD mH},Z8 [] us->us=[]
 | _,.nil=>rfl
end
section
def Z8.dropLast{xs:mD V}{us:mD mH}(h:Z8 xs us):Z8 xs.dropLast us.dropLast:=by
 induction h with
 | nil=>show .nil
 | cons r t y =>
  cases t with
  | nil=>show .nil
  | cons q x=>show .cons r y
end
section
def Z8.reverse{xs:mD V}{us:mD mH}(h:Z8 xs us):Z8 xs.reverse us.reverse:=by
 induction h with
 | nil=>show .nil
 | cons r t y=>rw[za,za];show Z8.append y<|.cons r .nil
end
section
def ZD{y:Type}(l:mD y):l.eraseIdx (l.length-1)=l.dropLast:=by
 induction l with
 | nil=>rfl
 | cons a r x =>
  cases r with
  | nil=>rfl
  | cons b r =>
   have e:(a ::b ::r).length-1=((b ::r).length-1)+1:=by
    have w:(a ::b ::r).length=r.length+2:=rfl;have u:(b ::r).length=r.length+1:=rfl;lia
   rw[e,DS,x]
   all_goals rfl
end
variable {X:Cx}
def Yj7:V->mD V->Hp->VK->Prop:=λx u H Q=>∃l w y,x=.ref l/\u=[]/\H l=some (.lst w)/\w[w.length-1]? =some y/\Q y (nO H l<|.lst w.dropLast)
def WZ:yc X "list.pop" Yj7:=by
 intro N s y H x M v L Q I i g h;obtain⟨l,J,w,rfl,rfl,j,d,q⟩:=h;cases i;have c:=g.zero;subst c;obtain⟨z,p,n,r,a,e⟩:=I.lstM j;obtain⟨u,Y,U⟩:=r.get d;have o:p.toArray[p.toArray.size-1]? =some u:=by
  change p.toArray[p.length-1]? =some u;rw[<-wu,<-a];show Y
 refine xr BL #[_,e,rfl] F.entry_list_pop (F.args_list_pop_1 _) (MeetsSeq.list_pop_last l p.toArray n u o<|by rw[ph];lia) #[e,?_];refine#[w,_,I.lset (its':=p.dropLast) j e ?_ r.dropLast ?_,U,q]
 ·change p.toArray.eraseIdxIfInBounds (p.toArray.size-1)=p.dropLast.toArray;rw[ph,MG,ZD]
 ·rw[wc];lia
section
variable {prog:mS} {w:mP} {A:mT} {E:mH->mI->Prop} {s:mI}
def Vd{a b:mF}{t u:Tok}{Q:Bool->mI->Prop}(h:Q (decide<|a.cps.toList<b.cps.toList) s):wpAny (model prog w) A (oneLt' false (.str a t)<|.str b u) Q E s:=by
 rw[oneLt'_eq];simp only[tT,rX];refine nW<|wpAny_richCompare_same (op:=.Lt) (xL s a t) (xL s b u) slot_str_lt<|call_str_lt #[(λz=>nomatch z),?_];show vj h
end
section
def zu:mH->mG
 | .ref a=>a
 | _=>0
end
section
theorem OU:∀{out:mD mH}{as:mD mG},(∀v∈out,v∈as.map Value.ref)->out=(out.map zu).map Value.ref
 | [],_,_=>rfl
 | v ::out,as,h=>by
  obtain⟨a,_,e⟩:=oh.mp<|h v pK;rw[oR,oR,<-OU λu y=>h u<|pV _ y,<-e]
  rfl
end
section
theorem Pq:∀as:mD mG,Z8 (as.map V.ref) (as.map Value.ref)
 | []=>.nil
 | a ::as=>.cons rfl<|Pq as
end
section
def IY(K:mK)(l:mG)(n:Nat):It :=
 #[λi H=>i<n/\∃y,SqL K H l y/\y.length=n,λi H x w=>w=H/\∀y,SqL K H l y->y.reverse[i]? =some x,λi _=>i=n]
end
section
def Zzm{P:mS}{w:mP}{K:mK}{tg:mQ}(l it:mG)(n:Nat):vI P w K tg (IY K l n) [it] it (λi h=>h.IsRevIter it l<|(n:Int)-1-(i:Nat)) where
 mem:=by simp
 obj:=λi h st b r=>by
  have e:b=it:=by simpa using r
  subst e;obtain⟨o,e,c,d⟩:=st;show#[o,e,λv z=>by rw[d]at z;cases z]
 keep:=λi h j st k=>st.at λo e=>k it (by simp) o e
 item:=by
  intro X a Y U C i B s y H E I g st q;subst a Y U;obtain⟨hi,Q,A,hn⟩:=q;obtain⟨b9,rv,p,hz⟩:=I.list A;have d8:n-1-i<Q.length:=by lia
  have hx:Q[n-1-i]? =some Q[n-1-i]:=pJ d8;obtain⟨u,hu,ru⟩:=rv.get hx;obtain⟨N,M,f2,L,J,G⟩:=g it (by simp);rw[show(n:Int)-1-(i:Nat)=((n-1-i:Nat):Int) by lia]at st;refine wpAny_pyNext_rev_item st p.isList (x:=u) (by simpa using hu) λj D sb=>?_
  rw[show((n-1-i:Nat):Int)-1=(n:Int)-1-((i+1:Nat):Nat) by lia]at D;have I1:nM X B y H {s with heap:=j}:=I.turned (t':=s.toks) (λb o r e=>(sb.2 b r).trans e) N M L J G;obtain⟨o,e,c,d⟩:=id D;refine#[u,rfl,xS (s:={s with heap:=j}) e c d (by lk) #[_,H,I1,ru,#[rfl,λys hy=>?_],D,λb r=>(g b r).1]];rw[I.list_inj hy A,Nn (by lia),hn,hx]
 done:=by
  intro X a Y U C i B s y H E I g st q;subst a Y U;obtain⟨N,M,f2,L,J,G⟩:=g it (by simp);have q:i=n:=q;rw[q,show(n:Int)-1-(n:Nat)=-1 by lia]at st;show wpAny_pyNext_rev_end (I.ok.hd C) st λj eb=>#[rfl,I.turned (t':=s.toks) (λb o r e=>eb b o r e) N M L J G]
 self:=λ_ _ _ _ _ st h=>wpAny_pyIter_revIter st h
end
section
def Yki(K:mK)(u:TA):TI:=λy H R=>u y H λs x=>∃l w,s=[.ref l]/\SqL K x l w/\R (IY K l w.length) x
end
section
def Vp{X:Cx}{i a:mQ}{n:TA}{p pos:Pos}(g:Gl X "reversed")(d:X.mg "reversed"=none)(c:PA X [a] n)(Y:starEach [a] X.env=[(false,eval a X.env)]:=by rfl) :
  PI X i (.Call (.Name "reversed" p) [a] [] pos) (Yki X.K n):=by
 intro U s y H R I h;refine Call_<|vf I g d boot_reversed<|yj (oK (c pos U s y H _ I h) λu x ⟨o,Q,w,N,M⟩=>?_) Y rfl;obtain⟨l,r,e,L,q⟩:=M;subst e;obtain⟨u,rfl,J⟩:=Wp N;cases J;obtain⟨j,G,E,u⟩:=w.list L;have D:=G.length;refine call_reversed_list E.isList<|wpAny_pyIter_revIter #[_,pp _ rfl,rfl,rfl] ?_;refine#[#v[x],[#v[x]],_,_,Q,rfl,w.kept (t':=x.toks) λb o e=>oH _ e,Zzm l _ r.length,#[_,pp _ rfl,rfl,?_],λb C=>?_,q]
 ·change Data.fields (List.toArray [.ref l,rawInt<|(j.toArray.size:Int)-1])=Data.fields (List.toArray [.ref l,rawInt<|(r.length:Int)-1-((0:Nat):Int)]);rw[show(j.toArray.size:Int)-1=(r.length:Int)-1-((0:Nat):Int) by rw[ph,<-D];lia]
 ·have e:b=#v[x]:=by simpa using C
  subst e;show w.fpOk (oq _)<|w.hok.fresh<|oq _
end
section
def Yb0{K:mK}{l:mG}{xs:mD V}{fr:St->St}{g:TG}{q:TT}{o:TE}{Q:VK}{y:St}{n:Hp}{D:mG}(Pv:Nat->mD V->Hp->Prop)(h:Pv 0 [] (nO n D<|.lst []))(j:∀i u H,i<=xs.length->Pv i u H->SqL K H l xs)
  (d:∀i x u H,xs.reverse[i]? =some x->Pv i u H->ro fr g q o y D x u H (Pv<|i+1)) (hd:∀u H,Pv xs.length u H->Q (.ref D) H):sj (IY K l xs.length) fr g q o Q y n D:=Xx Pv h (λ_ _ _=>rfl) (λi s H r p=>#[#[r,xs,j i s H (qm r) p,rfl],λx c ⟨e,w⟩=>e ▸ d i x s _ (w xs<|j i s H (qm r) p) p]) hd
end
section
variable {prog:mS} {w:mP} {A:mT} {E:mH->mI->Prop} {s:mI}
theorem UE:∀{vs:mD mH},vs.length<2->(vs.toArray.zip vs.toArray).map (·.2)=vs.toArray
 | [],_=>by simp
 | [_],_=>by simp
 | _ ::_ ::_,h=>absurd h (by simp)
def Ya6{a:mG}{vs:mD mH}{n:Nat}{kd:SortKind}{P:Fin->mI->Prop}(q:s.heap.get? a=some (seqObj "list" vs.toArray n))(i:vs.length<=sizeLine)
  (Y:2<=vs.length->∀y:mO,(∀b x,b≠a->s.heap.get? b=some x->y.get? b=some x)->(∀Q:SortKind->mI->Prop,Q kd {s with heap:=y}->wpAny (model prog w) A (keyKind' vs.toArray) Q E {s with heap:=y})/\zG prog w A {s with heap:=y} kd (pairsOf vs))
  (h:∀out:mD mH,out.Perm vs->P (.done<|.ret .none) {s with heap:=sortedHeap s.heap a vs out.toArray}):wpAny (model prog w) A (Builtin.«list.sort» #[[.ref a],[]]) P E s:=by
 rw[list_sort_plain];have C:a<#v[s]:=oJ q;refine nW (listItems_at q rfl<|nW<|listUpdate_at q rfl ?_ (hsz:=by simpa using i));obtain⟨g,r⟩:∃g,(s.heap.update a<|Obj.mapSeq λ_=>#[]).get? a=some (seqObj "list" #[] g):=#[_,get?_update_seq q _]
 refine nW<|seqEpoch_at r rfl<|nW<|wpAny_newTuple (hsz:=by simpa using i)<|nW<|wpAny_newList<|rJ ?_;generalize d:((s.heap.update a<|Obj.mapSeq λ_=>#[]).push (seqObj "tuple" vs.toArray 0)).push (seqObj "list" #[] 0)=y;have keep:∀b x,(s.heap.update a<|Obj.mapSeq λ_=>#[]).get? b=some x->y.get? b=some x:=λb x o=>by
  rw[<-d];show oH _<|oH _ o
 have p:=keep _ _ r;have keep:∀b x,b≠a->s.heap.get? b=some x->y.get? b=some x:=λb x U o=>keep b x (by rw[uM _ _ (pH U)];show o)
 have fin:∀out:mD mH,out.Perm vs->P (.done<|.ret .none) {s with heap:=y.update a (Obj.mapSeq λ_=>out.toArray)}:=λout N=>by
  have:=h out N;unfold sortedHeap at this;rw[d]at this;show this
 change wpAny (model prog w) A _ P E {s with heap:=y};dsimp only
 by_cases u:vs.toArray.size<2
 ·rw[og u,og u];refine nW<|ou ?_;rw[StateT.run_pure];refine nW<|ou ?_;dsimp only;refine nW (seqEpoch_at p rfl<|nW<|listUpdate_at p rfl ?_ (hsz2:=by rw[Array.size_map];change(pairsOf vs).size<=_;rw[pairsOf_size];lia));simp only[Ei,tT,rX];refine ou ?_;change P _ {s with heap:=y.update a (Obj.mapSeq λ_=>(vs.toArray.zip vs.toArray).map (·.2))};rw[UE (by simpa using u)];show fin vs<|qW _
 ·rw[nY u,nY u];have l:2<=vs.length:=by
   have:¬vs.length<2:=by simpa using u
   lia
  obtain⟨M,L⟩:=Y l y keep;refine nW<|M _ ?_;refine nW<|qQ (UD L (st:=SortSt.mk' kd (vs.toArray.zip vs.toArray) #[] 7 none) (Q:=λ_ st=>(arrOf st).Perm (pairsOf vs)/\failedOf st=none) #[Array.Perm.refl _,rfl,rfl,rfl] λst J I=>#[J,I]) ?_ λ_ _ e=>e;rintro⟨⟨⟩,st⟩ B ⟨rfl,c,H⟩;dsimp only;have j:(arrOf st).size=vs.length:=c.size_eq.trans<|pairsOf_size _;refine nW (seqEpoch_at p rfl<|nW<|listUpdate_at p rfl ?_ (hsz2:=by rw[Array.size_map,j];lia));rw[H];simp only[Ei,tT,rX];refine ou ?_;have G:(arrOf st).toList.Perm (vs.zip vs):=by rw[<-pairsOf_toList];show QY.mp c
  have D:(arrOf st).map (·.2)=((arrOf st).toList.map (·.2)).toArray:=by rw[<-Array.toList_map,Array.toArray_toList]
  change P _ {s with heap:=y.update a (Obj.mapSeq λ_=>(arrOf st).map (·.2))};rw[D];show fin _ ((G.map _).trans (by rw[List.map_snd_zip (oq _)]))
def wF(h:mO)(v:mH):Prop:=∃(a:mG)(u:Obj)(x:mH)(r:mD mH)(n:Nat),v=.ref a/\h.get? a=some u/\u.cls=.type "tuple"/\u.data=.seq (x ::r).toArray n/\∀y∈x ::r,∃p t,y=Value.str p t
theorem QZ{b fin:Bool}{Q:Bool->mI->Prop}(q:∀b,Q b s):∀(l:mD (mH×mH)) (i:Nat),(∀p∈l,(∃x t,p.1=Value.str x t)/\∃x t,p.2=Value.str x t)->PySem.W.KatLex prog w A b fin Q l i s
 | [],_,_=>PySem.W.kat_nil (q _)
 | (u,v) ::l,i,h=>by
  obtain⟨⟨x,t,rfl⟩,y,u,rfl⟩:=h _ pK;refine Fx<|Dj<|GR (λ_=>IV<|QZ q l (i+1) λp y=>h p<|pV _ y) λ_=>Jr ?_;cases b && i ==0 with
  | true=>show oneLt_str (q _)
  | false=>show Vd<|q _
def UK{vs:mD mH}(h:∀v∈vs,wF s.heap v):zG prog w A s (tuples' true) (pairsOf vs):=λx r y l Q N q=>by
 have mem:∀x∈pairsOf vs,wF s.heap x.1:=λx r=>by
  rw[<-AM,pairsOf_toList]at r;show h _ (ul r).1
 obtain⟨a,p,u,M,n,j,i,L,g,e⟩:=mem x r;obtain⟨b,u,v,vs,m,d,c,p,Y,U⟩:=mem y l;rw[j,d];refine PySem.W.kat_lt i g c Y<|QZ q _ 0 λp o=>?_;show#[e _ (by simpa using(ul o).1),U _<|by simpa using(ul o).2]
def UA{vs:mD mH}{Q:SortKind->mI->Prop}(h:∀v∈vs,wF s.heap v)(j:2<=vs.length)(q:Q (tuples' true) s):wpAny (model prog w) A (keyKind' vs.toArray) Q E s:=by
 have all:∀l:mD mH,(∀v∈l,wF s.heap v)->∃fs,PySem.W.KatTups s.heap l fs/\fs.length=l.length/\∀f∈fs,∃p t,f=Value.str p t:=by
  intro l
  induction l with
  | nil=>show λ_=>#[[],Ol,rfl,λ_ z=>nomatch z]
  | cons v l i =>
   intro h;obtain⟨fs,y,j,x⟩:=i λv r=>h v<|pV _ r
   obtain⟨a,Y,u,U,n,rfl,g,e,d,c⟩:=h v pK;refine#[u ::fs,Sh g e d rfl y,by rw[qr,qr,j],λf o=>?_];rcases oM.mp o with rfl|o
   ·show c _ pK
   ·show x f o
 obtain⟨fs,y,e,x⟩:=all vs h;refine PySem.W.kat_kind (T:=.type "str") y (by lia) (λv r=>?_) (by lk) q;obtain⟨p,t,rfl⟩:=x v r;show .now
end
section
def GV{y x:Type}{R:y->x->Prop}{as s:mD y}(p:s.Perm as):∀{bs:mD x},Paired R as bs->∃o,o.Perm bs/\Paired R s o:=by
 induction p with
 | nil=>show λh=>#[_,qW _,h]
 | cons w _ u =>
  rintro _ (_|⟨r,t⟩);obtain⟨o,p,q⟩:=u t;show#[_,p.cons _,.cons r q]
 | swap w u l =>
  rintro _ (_|⟨r,_|⟨q,t⟩⟩);show#[_,.swap _ _ _,.cons q<|.cons r t]
 | trans _ _ u q =>
  intro bs h;obtain⟨e,n,l⟩:=q h;obtain⟨j,i,g⟩:=u l;show#[j,i.trans n,g]
end
section
variable {prog:mS} {w:mP} {A:mT} {E:mH->mI->Prop} {s:mI}
def vg{y:Type}[DecidableEq y](lt:y->y->Bool):mD y->mD y->Bool
 | [],[]=>false
 | [],_ ::_=>true
 | _ ::_,[]=>false
 | a ::x,b ::u=>if a=b then vg lt x u else lt a b
def yh(a b:mF):Bool:=decide<|a.cps.toList<b.cps.toList
def QH{y:mD mF}{vs:mD mH}(g:ItemsAre (PySem.strKind prog w) y vs):StrsAre vs y:=by
 induction g with
 | nil=>show .nil
 | cons h t x =>
  obtain⟨u,rfl⟩:=Value.isStrOf_shape h;show .cons _ _ x
def UW{x y:mD mF}{a b:mG}{P:Fin->mI->Prop}(B:IsTupleKey (PySem.strKind prog w) s.heap x a)(C:IsTupleKey (PySem.strKind prog w) s.heap y b)(h:P (.done<|.ret<|.bool<|vg yh x y) s) :
  wpAny (model prog w) A (Builtin.«tuple.__lt__» #[[.ref a,.ref b],[]]) P E s:=by
 have M:=C.typeIs;obtain⟨u,c,d,L,_,J,l⟩:=B;obtain⟨u,Y,d,C3,_,P4,j⟩:=C;change wpAny _ _ (isInstance (.ref b) (.type "tuple")>>=_) _ _ s;refine nW<|wpAny_isInstance M isSubtype_tuple_tuple ?_;simp only[IQ,tT,rX];refine nW<|wpAny_tupleItemsOf L J<|nW<|wpAny_tupleItemsOf C3 P4<|nW ?_;have l:=QH l;have j:=QH j;refine wpAny_forIn_list _ (λZs r g=>r.1=none/\g=s/\∃U Q p o,Zs=List.zip p o/\StrsAre p U/\StrsAre o Q/\vg yh U Q=vg yh x y/\decide (p.length<o.length)=decide (c.size<Y.size)) _ ?_ ?_ _ _ #[rfl,rfl,x,y,c.toList,Y.toList,rfl,l,j,rfl,by simp]
 ·rintro⟨u,v⟩ Zs r g ⟨I,rfl,U,Q,p,o,e,i,n,q,H⟩;cases i with
  | nil=>simp at e
  | cons G t1 u =>
   cases n with
   | nil=>simp at e
   | cons D t2 d =>
    simp only[List.zip_cons_cons,Av,Ad]at e;obtain⟨⟨rfl,rfl⟩,rfl⟩:=e;refine nW<|Dj ?_
    by_cases N:G=D
    ·rw[oO N];simp only[IQ,tT,rX];refine ou #[rfl,rfl,_,_,_,_,rfl,u,d,?_,by simpa using H];rw[<-q];show(og N).symm
    ·rw[pj N];simp only[Bool.not_false,tY];have hf:yh G D=vg yh x y:=by rw[<-q];show(nY N).symm
     refine nW<|vm<|nW<|wpAny_richCompare_same (op:=.Lt) (xL g G t1) (xL g D t2) slot_str_lt<|call_str_lt #[(λz=>nomatch z),?_];rw[<-hf]at h;show nW<|ou<|ou<|ou h
 ·rintro⟨d,N⟩ g ⟨I,rfl,U,Q,p,o,e,i,n,q,H⟩;simp only at I;subst I;refine ou ?_;have u:decide (c.size<Y.size)=vg yh x y:=by
   rw[<-q,<-H];cases i with
   | nil =>
    cases n with
    | nil=>simp[vg]
    | cons _ _ _=>simp[vg]
   | cons _ _ _ =>
    cases n with
    | nil=>simp[vg]
    | cons _ _ _=>simp at e
  change P (.done<|.ret<|.bool<|decide<|c.size<Y.size) g;rw[u];show h
def Zyz{x y:mD mF}{a b:mG}{Q:Bool->mI->Prop}(q:A.units<cLine)(u:IsTupleKey (PySem.strKind prog w) s.heap x a)(r:IsTupleKey (PySem.strKind prog w) s.heap y b)(h:Q (vg yh x y) s):wpAny (model prog w) A (oneLt' false (.ref a)<|.ref b) Q E s:=by
 rw[oneLt'_eq];simp only[tT,rX];show nW<|wpAny_richCompare_same_room (op:=.Lt) u.typeIs r.typeIs JL (ER JL u.typeIs PySem.F.entry_tuple_lt (UW u r #[_,rfl,(λe=>nomatch e),vj h])<|PySem.F.args_tuple_lt_2 _ _) q
end
section
def KQ(K:mK):R2:=λx y H Q=>∃a b w u,x=.ref a/\y=.ref b/\SqT K H a w/\SqT K H b u/\w≠[]/\u≠[]/\w.length+u.length<=sizeLine/\qv H (.tup<|w++u) Q
end
section
def OC{X:Cx}:oS X (binaryOp .Add) (KQ X.K):=YE.imp λx y H Q h=>by
 obtain⟨a,b,w,u,s,r,q,o,n,l,j,i⟩:=h;show#[a,b,w,u,s,r,q,o,n,j,λz=>absurd z l,λ_ p g=>i.at p g]
end
section
variable {prog:mS} {w:mP} {A:mT} {E:mH->mI->Prop} {s:mI}
def wB(prog:mS)(w:mP)(h:mO)(v:mH):Prop:=∃(a:mG)(x:Obj)(p:mF)(t:Tok)(u:mD mH)(n:Nat),v=.ref a/\h.get? a=some x/\x.cls=.type "tuple"/\x.data=.seq (.str p t ::u).toArray n/\∀y∈u,∃b r,y=Value.ref b/\IsTupleKey (PySem.strKind prog w) h r b
def wB.mono{h h':mO}{v:mH}(k:∀b u,u.cls=.type "tuple"->h.get? b=some u->h'.get? b=some u)(x:wB prog w h v):wB prog w h' v:=by
 obtain⟨a,u,p,t,l,n,e,f,c,d,r⟩:=x;refine#[a,u,p,t,l,n,e,k a u c f,c,d,λy j=>?_];obtain⟨b,i,g,o,Y,m,U,q,Q⟩:=r y j;show#[b,i,g,o,Y,m,k b o q U,q,Q]
theorem NS{fin:Bool}{Q:Bool->mI->Prop}(x:A.units<cLine)(q:∀b,Q b s):∀(l:mD (mH×mH)) (i:Nat),(∀p∈l,(∃b y,p.1=Value.ref b/\IsTupleKey (PySem.strKind prog w) s.heap y b)/\∃b y,p.2=Value.ref b/\IsTupleKey (PySem.strKind prog w) s.heap y b)->PySem.W.KatLex prog w A true fin Q l (i+1) s
 | [],_,_=>PySem.W.kat_nil (q _)
 | (u,v) ::l,i,h=>by
  obtain⟨⟨b,y,r,n⟩,c,g,o,j⟩:=h _ pK;have r:u=.ref b:=r;have o:v=.ref c:=o;subst r o;show Fx (wpAny_eqBool_tuple x n j (GR (λ_=>IV<|NS x q l (i+1) λp g=>h p<|pV _ g) λ_=>Jr (show wpAny _ _ (oneLt' false (.ref b)<|.ref c) _ _ _ from Zyz x n j<|q _)))
def YG{y:mD mF}{vs:mD mH}(h:StrsAre vs y):ItemsAre (PySem.strKind prog w) y vs:=by
 induction h with
 | nil=>show .nil
 | cons x t _ h=>show .cons (by simp[PySem.strKind,Value.isStrOf]) h
def Yct{vs:mD mH}(o:A.units<cLine)(h:∀v∈vs,wB prog w s.heap v):zG prog w A s (tuples' true) (pairsOf vs):=λx u y l J j q=>by
 have mem:∀x∈pairsOf vs,wB prog w s.heap x.1:=λx u=>by
  rw[<-AM,pairsOf_toList]at u;show h _ (ul u).1
 obtain⟨a,r,p,t,i,n,g,e,I,d,c⟩:=mem x u;obtain⟨b,r,Y,U,vs,m,Q,N,n,M,L⟩:=mem y l;rw[g,Q];refine PySem.W.kat_lt e d N M ?_;change PySem.W.KatLex prog w A true _ j ((.str p t,.str Y U) ::i.zip vs) 0 s;show Fx<|Dj<|GR (λ_=>IV<|NS o q _ 0 λz r=>#[c _ (ul r).1,L _ (ul r).2]) λ_=>Jr<|oneLt_str<|q _
def Zz9{vs:mD mH}{Q:SortKind->mI->Prop}(h:∀v∈vs,wB prog w s.heap v)(o:2<=vs.length)(q:Q (tuples' true) s):wpAny (model prog w) A (keyKind' vs.toArray) Q E s:=by
 have all:∀l:mD mH,(∀v∈l,wB prog w s.heap v)->∃fs,PySem.W.KatTups s.heap l fs/\fs.length=l.length/\∀f∈fs,∃p t,f=Value.str p t:=by
  intro l
  induction l with
  | nil=>show λ_=>#[[],Ol,rfl,λ_ z=>nomatch z]
  | cons v l j =>
   intro h;obtain⟨fs,y,o,x⟩:=j λv u=>h v<|pV _ u
   obtain⟨a,d,p,t,c,n,rfl,i,g,e,Y⟩:=h v pK;refine#[.str p t ::fs,Sh i g e rfl y,by rw[qr,qr,o],λf r=>?_];rcases oM.mp r with rfl|r
   ·show#[p,t,rfl]
   ·show x f r
 obtain⟨fs,y,e,x⟩:=all vs h;refine PySem.W.kat_kind (T:=.type "str") y (by lia) (λv u=>?_) (by lk) q;obtain⟨p,t,rfl⟩:=x v u;show .now
end
section
def ML{X:Cx}(hu:X.A.units+64<cLine){g:mD (mG×Obj)}{s:mI}{y:St}{H:Hp}{Q:VK}{p:mG}{ts:mD mG}(I:nM X g y H s)(pl:PlainL s.heap p (ts.map Value.ref).toArray)(w:(ts.map Value.ref).length<=sizeLine){Pv:mO->mH->Prop}(M:∀v∈ts.map Value.ref,Pv s.heap v)
  (B:∀{h h':mO}{v:mH},(∀b u,u.cls=.type "tuple"->h.get? b=some u->h'.get? b=some u)->Pv h v->Pv h' v)
  (pk:∀{A:mT}{E:mH->mI->Prop}{s:mI}{vs:mD mH}{Q:SortKind->mI->Prop},(∀v∈vs,Pv s.heap v)->2<=vs.length->Q (tuples' true) s->wpAny (model X.prog X.w) A (keyKind' vs.toArray) Q E s)
  (pa:∀{A:mT}{s:mI}{vs:mD mH},A.units<cLine->(∀v∈vs,Pv s.heap v)->zG X.prog X.w A s (tuples' true) (pairsOf vs))
  (q:∀L:mD mG,L.Perm ts->qv H (.lst<|L.map V.ref) Q):∅ (call (.builtin "sorted") [.ref p]) (EP X g y Q) X.xe s:=by
 refine Hk kind_sorted plain_sorted entry_sorted (args_sorted1 _) ?_;unfold Builtin.«sorted»;refine nW (m:=checkCount "sorted" 1 1 _)<|ou<|nW<|collect_list pl.isList (hsz:=w)<|nW<|wpAny_newList (hsz:=w) ?_;generalize hV:ts.map Value.ref=vs at M w pl ⊢;have d:((s.heap.push<|seqObj "list" #[] 0).update #v[s] (Obj.mapSeq (· ++vs.toArray))).objs.size=#v[s]+1:=by rw[Heap.size_update,size_push']
 have Y:(((s.heap.push<|seqObj "list" #[] 0).update #v[s] (Obj.mapSeq (· ++vs.toArray))).push (seqObj "list" vs.toArray 0)).get? (#v[s]+1)=some (seqObj "list" vs.toArray 0):=by
  rw[<-d];show pp _ rfl
 have J:∀b o,s.heap.get? b=some o->(((s.heap.push<|seqObj "list" #[] 0).update #v[s] (Obj.mapSeq (· ++vs.toArray))).push (seqObj "list" vs.toArray 0)).get? b=some o:=λb o j=>by
  have lt:=oJ j;rw[Heap.get?_push_ne _ _ _ (by rw[d];show oQ<|AL lt),uM _ _<|wV lt];show oH _ j
 change wpAny _ _ _ _ _ {s with heap:=((s.heap.push<|seqObj "list" #[] 0).update #v[s] (Obj.mapSeq (· ++vs.toArray))).push (seqObj "list" vs.toArray 0)};rw[d];have fin:∀out:mD mH,out.Perm vs->∃x G,nM X g y G {s with heap:=sortedAll s.heap vs out.toArray}/\Yc x (.ref<|#v[s]+1)/\Q x G:=λout r=>by
  subst hV;have D:out=(out.map zu).map Value.ref:=OU λv U=>r.mem_iff.mp U
  have N:(out.map zu).Perm ts:=by
   have:=r.map zu;rw[qj,show(zu ∘ Value.ref)=id from rfl,List.map_id]at this;show this
  generalize C:out.map zu=n at D N;subst D;obtain⟨e,he⟩:=sortedAll_at s.heap (ts.map Value.ref) (n.map Value.ref).toArray;have hl:=N.length_eq;rw[nQ]at w;show#[.ref<|#v[s]+1,_,I.laid (a:=#v[s]+1) (o:=.lst<|n.map V.ref) (t':=s.toks) (λb o h=>sortedAll_old h) (sF _) (show Z9 X.prog X.w _ _ _ (.lst _)from#[by rw[nQ];lia,n.map Value.ref,e,Pq _,he]),rfl,(q n N).at _ (I.hok.fresh<|sF _)]
 unfold sortedAll at fin;generalize hG:((s.heap.push<|seqObj "list" #[] 0).update #v[s] (Obj.mapSeq (· ++vs.toArray))).push (seqObj "list" vs.toArray 0)=i at Y J fin ⊢;have so:∀(A:mT)(E:mH->mI->Prop)(P:Fin->mI->Prop),A.units<cLine->(∀out:mD mH,out.Perm vs->P (.done<|.ret .none) {s with heap:=sortedHeap i (#v[s]+1) vs out.toArray})->wpAny (model X.prog X.w) A (Builtin.«list.sort» #[[.ref (#v[s]+1)],[]]) P E {s with heap:=i}:=λA E P C h =>
  have mono:∀l:mO,(∀b u,b≠#v[s]+1->i.get? b=some u->l.get? b=some u)->∀v∈vs,Pv l v:=λl k v U=>B (λb u c j=>k b u (λz=>by
   have:=oJ j;rw[z]at this;show absurd this<|Nat.not_lt.mpr<|sF _)<|J b u j) (M v U)
  Ya6 (s:={s with heap:=i}) (kd:=tuples' true) Y w (λc l k=>#[λQ q=>pk (s:={s with heap:=l}) (mono l k) c q,pa (s:={s with heap:=l}) C<|mono l k]) h
 show nW<|rJ<|ER slot_list_sort #[_,Y,rfl] entry_list_sort (so _ _ _ (by simp only[Wj];lia) λout r=>#[_,rfl,ou #[_,rfl,fin out r]])<|args_list_sort _
end
section
def Rb(K:mK):mD V->Hp->VK->Prop:=λs H Q=>∃(p:mG)(y:mD mG),s=[.ref p]/\SqL K H p (y.map V.ref)/\(∀t∈y,∃(sig:mF)(x:mD mG),H t=some (.tup<|.str sig ::x.map V.ref)/\∀u∈x,∃l:mD mF,H u=some (.tup<|l.map V.str))/\∀w:mD mG,w.Perm y->qv H (.lst<|w.map V.ref) Q
end
section
def US{X:Cx}(g:X.A.units+64<cLine):Y7 X (.builtin "sorted") (Rb X.K):=by
 intro a9 s y H xs n Q I r h;obtain⟨p,j,rfl,e,d,q⟩:=h;obtain⟨u,rfl,c⟩:=Wp r;cases c;obtain⟨a,Y,U,i⟩:=I.list e;have w:=xv Y;subst w;have o:(j.map Value.ref).length<=sizeLine:=by rw[nQ]at i ⊢;show i
 have N:∀v∈j.map Value.ref,wB X.prog X.w s.heap v:=λv M=>by
  obtain⟨t,L,rfl⟩:=oh.mp M;obtain⟨sig,n,J,G⟩:=d t L;obtain⟨_,a,E,D,C,B,m,A⟩:=(show Z9 X.prog X.w H s.heap t (.tup<|.str sig ::n.map V.ref)from I.hok _ _ J)
  cases E with
  | cons z zs =>
   obtain⟨tk,rfl⟩:=z;have w:=xv zs;subst w;refine#[t,D,sig,tk,_,m,rfl,C,B,A,λx hy=>?_];obtain⟨u,p,rfl⟩:=oh.mp hy;obtain⟨l,hl⟩:=G u p;obtain⟨_,ws,B7,o3,g1,g2,m3,g3⟩:=(show Z9 X.prog X.w H s.heap u (.tup<|l.map V.str)from I.hok _ _ hl)
   show#[u,l,rfl,o3,ws.toArray,m3,g1,g2,g3,by simpa using YG (yV B7)]
 show ML g I U o N wB.mono Zz9 Yct q
end
section
def wF.up{h h':mO}{v:mH}(k:∀b w,w.cls=.type "tuple"->h.get? b=some w->h'.get? b=some w)(x:wF h v):wF h' v:=by obtain⟨b,w,y,u,m,e,f,c,d,r⟩:=x;show#[b,w,y,u,m,e,k b w c f,c,d,r]
end
section
def TX{u:mD mF}{vs:mD mH}(h:StrsAre vs u):∀y∈vs,∃p t,y=Value.str p t:=by
 induction h with
 | nil=>intro y w;cases w
 | cons x t _ s =>
  intro y w;rcases oM.mp w with rfl|w
  ·show#[_,_,rfl]
  ·show s y w
end
section
def Ib(K:mK):mD V->Hp->VK->Prop:=λu H Q=>∃(p:mG)(y:mD mG),u=[.ref p]/\SqL K H p (y.map V.ref)/\(∀t∈y,∃(x:mF)(l:mD mF),H t=some (.tup<|(x ::l).map V.str))/\∀w:mD mG,w.Perm y->qv H (.lst<|w.map V.ref) Q
end
section
def QO{X:Cx}(i:X.A.units+64<cLine):Y7 X (.builtin "sorted") (Ib X.K):=by
 intro A s y H xs us Q I r h;obtain⟨p,n,rfl,g,e,q⟩:=h;obtain⟨u,rfl,d⟩:=Wp r;cases d;obtain⟨c,a,Y,j⟩:=I.list g;have U:=xv a;subst U;have o:(n.map Value.ref).length<=sizeLine:=by rw[nQ]at j ⊢;show j
 have N:∀v∈n.map Value.ref,wF s.heap v:=λv M=>by
  obtain⟨t,L,rfl⟩:=oh.mp M;obtain⟨x,l,J⟩:=e t L;obtain⟨_,c,G,E,D,C,m,B⟩:=(show Z9 X.prog X.w H s.heap t (.tup<|(x ::l).map V.str)from I.hok _ _ J)
  cases G with
  | cons z p =>
   obtain⟨tk,rfl⟩:=z;refine#[t,E,_,_,m,rfl,D,C,B,λw u=>?_];rcases oM.mp u with rfl|u
   ·show#[_,_,rfl]
   ·show TX (yV p) w u
 show ML i I Y o N wF.up UA (λ_=>UK) q
end
section
def GB(d:mG)(o:Obj)(kvs:mD (om×V)):It :=
 #[λi H=>H d=some (.frz o<|.dK kvs)/\i<kvs.length,λi H x y=>y=H/\∃kv,kvs[i]? =some kv/\x=kv.2,λi H=>H d=some (.frz o<|.dK kvs)/\kvs.length<=i]
end
section
def Zxj{P:mS}{w:mP}{K:mK}{tg:mQ}{d:mG}{o:Obj}{kvs:mD (om×V)}{vs:mD (om×mH)}{ep:Nat}(it:mG)(J:KV kvs vs)
  (G:∀h:mO,h.get? d=some o->h.DictAt (Zz P w) d vs ep):vI P w K tg (GB d o kvs) [it] it (λi h=>h.IsValIter it d i vs.length ep) where
 mem:=by simp
 obj:=λi h st b x=>by
  have e:b=it:=by simpa using x
  subst e;obtain⟨D,e,c,p⟩:=st;show#[D,e,λv z=>by rw[p]at z;cases z]
 keep:=λi h r st k=>st.at λo e=>k it (by simp) o e
 item:=by
  intro X n l j C i B s y H E I q st g;subst n l j;obtain⟨a,A⟩:=g;obtain⟨Y,U,f2,Q,N,M⟩:=q it (by simp);have L:s.heap.get? d=some o:=(I.hok d _ a).1;obtain⟨u,hu,ru⟩:=J.get (i:=i) (kv:=kvs[i]) (by simp[A]);refine wpAny_pyNext_values_item (knd:=Zz X.prog X.w) st (G _ L) hu λr C7 sb=>?_
  have I1:nM X B y H {s with heap:=r}:=I.turned (t':=s.toks) (λb o x e=>(sb.2 b x).trans e) Y U Q N M;obtain⟨D,e,c,p⟩:=id C7;show#[u,rfl,xS (s:={s with heap:=r}) e c p (by lk) #[kvs[i].2,H,I1,ru,#[rfl,kvs[i],by simp[A],rfl],C7,λb x=>(q b x).1]]
 done:=by
  intro X n l j C i B s y H E I q st g;subst n l j;obtain⟨a,C0⟩:=g;obtain⟨Y,U,f2,Q,N,M⟩:=q it (by simp);have L:s.heap.get? d=some o:=(I.hok d _ a).1;have hl:=KV.length J;show wpAny_pyNext_values_end (knd:=Zz X.prog X.w) (I.ok.hd C) st (G _ L) (vP<|by lia) λr eb=>#[rfl,I.turned (t':=s.toks) (λb o x e=>eb b o x e) Y U Q N M]
 self:=λ_ _ _ _ _ st h=>wpAny_pyIter_valiter st h
end
section
def YC(X:Cx)(s:TE):TI:=λy H R=>s y H λx u=>∃d w,x=.ref d/\u d=some (.dK w)/\∀o,NF X d (.dK w)->R (GB d o w) (nO u d<|.frz o<|.dK w)
end
section
def WP{X:Cx}{Y:mQ}{j i:Pos}{o:mQ}{to:TE}(U:PE X o to)(Q:attributeBase o "values" X.env (eval o X.env)=eval o X.env:=by rfl)(N:(j.endLine ==i.line)=true:=by rfl) :
  PI X Y (.Call (.Attribute o "values" j) [] [] i) (YC X to):=by
 intro g s y H R I h;refine CU Q N<|oK (U g s y H _ I h) λv s1 ⟨x,M,r,L,J⟩=>?_;obtain⟨d,p,rfl,hd,q⟩:=J;cases L;obtain⟨x,G,E,kv,w⟩:=vT r.hok hd;obtain⟨n,_,_,u,D,_⟩:=id w;obtain⟨x,c⟩:=EK w u;refine#["dict","dict.values",ww,EQ,LX,w.typeIs,λa e=>?_,wb rfl<|CF ?_]
 ·cases e;show#[n,u,D.2.1]
 refine vp EQ w.typeIs Sl (MX _) (meets_dict_values (Zz X.prog X.w) d G) #[#[E,w],?_];have C:=r.freeze hd rfl u;have l:nM X g y (nO M d<|.frz n<|.dK p) {s1 with heap:=s1.heap.push {cls:=.type "dict_values",data:=.fields (List.toArray [.ref d])}}:=C.kept (t':=s1.toks) λb o e=>oH _ e
 refine wpAny_pyIter_values (knd:=Zz X.prog X.w) (d:=d) #[_,pp _ rfl,rfl,rfl] (c _<|oH _ u) ?_;refine#[_,[_],_,_,_,rfl,l.kept (t':=s1.toks) λb o e=>oH _ e,Zxj _ kv c,#[_,pp _ rfl,rfl,rfl],λb B=>?_,q n #[r.notFrz hd (λ_ _ z=>nomatch z),λ_ z=>nomatch z]];have e:=qG.mp B;subst e;show l.fpOk (oq _)<|l.hok.fresh<|oq _
end
section
def Yb4{d:mG}{o:Obj}{kvs:mD (om×V)}{g:TG}{u:TS}{D:qD}{y:St}{H:Hp}(Pv:Nat->St->Hp->Prop)(n:Pv 0 y H)(r:∀i y H,i<=kvs.length->Pv i y H->H d=some (.frz o<|.dK kvs))
  (l:∀i kv y H,kvs[i]? =some kv->Pv i y H->g kv.2 y H λw j=>u {D with nx:=Pv<|i+1,ct:=Pv<|i+1,bk:=D.nx} w j) (hd:∀y H,Pv kvs.length y H->D.nx y H) :
  yd (GB d o kvs) g u D y H:=Xx Pv n (λs H p=>#[r _ s H (oq _) p,oq _]) (λi s H q p=>#[#[r i s H (qm q) p,q],λx a ⟨e,kv,h,c⟩=>by subst e c;show l i kv s _ h p]) hd
end
section
variable {prog:mS} {w:mP} {A:mT} {E:mH->mI->Prop} {s:mI}
def YZ(w:mP):Bool:=w.params.followText "set-order"
abbrev vM(w:mP):Obj:={cls:=.type "set",dict:=none,data:=.set #[] 0 (.fresh 0 0 (!YZ w))}
def wY(w:mP)(h:mO)(a:mG)(y:mD mF):Prop:=Heap.SetOf (PySem.strKind prog w) h a (λk=>decide<|k∈y) y.length
def wY.mono(h:wY (prog:=prog) w y a x)(k:∀o,y.get? a=some o->u.get? a=some o):wY (prog:=prog) w u a x:=by
 obtain⟨o,q,p,t,n,r⟩:=h;show#[o,q,p,t,k _ n,r]
def Zux{I:mG}{M p:mD mG}{G:Array GenState->Array GenState->Prop}{P:Nat->mH->Prop}{St:Nat->mI->Prop}{R:Result->mI->Prop}{xs:mD mF}(H:xs.Nodup)(W:WalksS prog w A.in1 I M p G xs.length P St)(n:a∉M)(D:∀i v,P i v->∃x t,xs[i]? =some x/\v=.str x t)(q:xs.length+1<scanBound) :
  ∀(k i:Nat)(s:mI),xs.length-i=k->i<=xs.length->St i s->wY (prog:=prog) w s.heap a (xs.take i)->
   (∀s',Moved (a ::p) G s s'->wY (prog:=prog) w s'.heap a xs->R (.ok<|.ret .none) s')->codeAny (model prog w) A (.builtin "set.update.loop" #[[.ref a,.ref I],[]]) R s:=by
 have l:a∉p:=λh=>n<|W.sub _ h
 have y:∀b∈p,b∈a ::p:=λb q=>pV _ q
 intro k
 induction k with
 | zero =>
  intro i s C B U Y Q;obtain rfl:i=xs.length:=by lia
  refine zF Mt ?_;rw[Cu Je _];change wpAny _ A.in1 (pyNext (.ref I)>>=_) _ _ s;refine nW<|W.done s _ _ U λs' u=>?_;rw[pQ]at Y;show ou (Q s' (u.mono y)<|Y.mono λo e=>u.heap a o l e)
 | succ k ih =>
  intro i s C B U Y Q;have L:i<xs.length:=by lia
  refine zF Mt ?_;rw[Cu Je _];change wpAny _ A.in1 (pyNext (.ref I)>>=_) _ _ s;refine nW<|W.item i s _ _ L U λv s' hP j u=>?_;obtain⟨x,t,N,rfl⟩:=D i v hP;change wpAny _ A.in1 (holding [Value.str x t] (setAdd a<|.str x t)>>=_) _ _ s';refine nW<|rJ ?_;unfold setAdd;refine rJ<|nW<|(PySem.strKind prog w).pyHash (k:=x) (strKind_is _ _ _ _) ?_;have hn:x∉xs.take i:=by
   have J:(xs.take<|i+1).Nodup:=H.sublist<|Eg ..;rw[oW,N,rO]at J;show λu=>J.2.2 x u x (by simp) rfl
  refine wpAny_setAddHashed_of (s:={s' with toks:=s'.toks+1}) (knd:=PySem.strKind prog w) (strKind_is _ _ _ _) rfl (Y.mono λo e=>u.heap a o l e) (by rw[oZ];lia) λh' g r=>?_
  have r:wY (prog:=prog) w h' a (xs.take<|i+1):=by
   refine SetOf_congr r (λk=>?_) ?_
   ·rw[oW,N,<-Bool.decide_or];show Ea.mpr (by simp)
   ·rw[nY (by simpa using hn),oW,N,oP];rfl
  refine ou #[plainId_quiet Je _,ih (i+1) _ (by lia) L (W.frame _ s' _ _ j (sF _) λb q o e=>?_) r λO1 d c=>?_]
  ·rw[g.2 b (λh:b=a=>n (by rw[<-h];show q))];show e
  ·refine Q O1 (Moved.trans W.gtrans ((u.mono y).then_heap (sF _) λb o q e=>?_) d) c;rw[g.2 b (λh:b=a=>q (by rw[h];show pK))];show e
def Zzz(v:mH){Q₁:mH->mI->Prop}(h:Q₁ (.ref #v[s]) {s with heap:=s.heap.push (vM w)}) :
  codeAny (model prog w) A (.call (.builtin "set.__new__") #[[.type "set",v],[]]) (wants Q₁ E) s:=by
 refine Gm ?_;change wpAny _ A.in1 (do checkBuiltinCall "set.__new__" #[[.type "set",v],[]];again (.builtin "set.__new__" #[[.type "set",v],[]])) _ _ s;refine nW<|wpAny_of_eq (PySem.F.newCall_set_1 v)<|ou #[plainId_quiet Ob _,zF PySem.F.entry_set_new ?_];rw[Cu Ob _];unfold Builtin.«set.__new__» Builtin.Frozenset.newClass;have y:=PySem.sub_set_self;obtain⟨x,g,d,tk,os⟩:=s;dsimp only
 wp_walk
 refine wpAny_askSetting<|ou ?_;dsimp only;simp only[newObj];refine nW<|wpAny_alloc<|ou ?_;show ou h
def Yd5{vs:mD mH}{xs:mD mF}{i:Nat}{v:mH}(h:StrsAre vs xs):vs[i]? =some v->∃x t,xs[i]? =some x/\v=.str x t:=by
 induction h generalizing i with
 | nil=>intro e;cases e
 | cons x t _ y =>
  intro e;cases i with
  | zero=>cases e;show#[x,t,rfl,rfl]
  | succ i=>show y e
def UQ{l:mG}{p:Array mH}{xs:mD mF}{Q:mH->mI->Prop}(hh:A.handled=none)(hl:s.heap.IsList l p)(B:StrsAre p.toList xs)(nd:xs.Nodup)(U:xs.length+1<scanBound)
  (h:∀(h':mO)(tk:Nat),wY (prog:=prog) w h' #v[s] xs->(∀b o,b<#v[s]->s.heap.get? b=some o->h'.get? b=some o)->Q (.ref #v[s]) {s with heap:=h',toks:=tk}) :
  wpAny (model prog w) A (call (.type "set") [.ref l]) Q E s:=by
 obtain⟨c,x,y⟩:=xb.mro;have M:=xb.made;have hsub:=xb.sub;refine uU<|Gm ?_;change wpAny _ _ (callAny (.type "set") _) _ _ _;refine ou #[yW _ (by left),zF F.entry_type_call ?_];rw[Around.under_plain (weight_type_call_type "set" [.ref l] []) rfl];have h1:=xb.notType;have h2:=xb.canCreate;have hct:=PySem.F.typeCall_set_1 (.ref l)
 repeat (any_goals (first|assumption|wp_step))
 refine uS (Zzz (.ref l) (E:=E) (Q₁:=λobj mW=>obj=.ref #v[s]/\mW={s with heap:=s.heap.push (vM w)}) #[rfl,rfl]) λr mW L=>?_
 cases r with
 | error e=>show L
 | ok fl =>
  cases fl with
  | ret obj =>
   obtain⟨rfl,rfl⟩:=L;have hS:(s.heap.push<|vM w).get? #v[s]=some (vM w):=pp _ rfl;have hT:Shared.TypeIs {s with heap:=s.heap.push (vM w)} (.ref #v[s]) "set":=#[_,hS,rfl]
   have hli:=xb.init.lookup;have hbi:=xb.init.bind (.ref #v[s])
   repeat (any_goals (first|assumption|wp_step))
   refine uS (AC (R:=wants (λr mY=>r=.none/\∃h' tk,mY={s with heap:=h',toks:=tk}/\wY (prog:=prog) w h' #v[s] xs/\(∀b o,b<#v[s]->s.heap.get? b=some o->h'.get? b=some o)) E) xb.init.plain PySem.F.entry_set_init<|check_set_init_1 hT ?_) λn mY y=>?_
   ·obtain⟨ol,j,z8,nl,g⟩:=hl;obtain⟨D,u,i,x⟩:=ol;simp only at z8 g;subst z8;subst g;have d:(s.heap.push<|vM w).get? l=some {cls:=.type "list",dict:=u,data:=.seq p nl,slots:=x}:=oH _ j;have hsls:=PySem.F.sub_list_set;have hslf:=PySem.F.sub_list_frozenset;have u6:(Value.type "list"==Value.type "dict")=false:=by lk
    have c:(s.heap.push<|vM w).IsList l p:=#[_,d,rfl,nl,rfl]
    unfold Builtin.«set.__init__» noKeywords Builtin.Frozenset.updateFrom;generalize J:pyIter=PI
    wp_walk
    subst J;refine yH c ?_;refine nW<|wpAny_runValue ?_;have a:l<#v[s]:=oJ j;have I:A.in1.in1.in1.handled=none:=by simp[hh]
    have Y:l≠(s.heap.push<|vM w).objs.size:=by
     rw[uv];show oQ<|AL a
    have H:#v[s]∉[(s.heap.push<|vM w).objs.size,l]:=by
     rw[uv];simp only[oM,qG,tV,rC,Af];show#[oQ<|AN _,wV a]
    have G:p.size=xs.length:=by rw[<-ut];show StrsAre.length B
    have hW:=(Bp (prog:=prog) (w:=w) I _ l Y p).toS;rw[G]at hW;refine Zux nd hW H (λi v hv=>?_) U (xs.length-0) 0 _ rfl (sY _) #[#[_,pp _ rfl,rfl,rfl],(c.push _)] ?hS0 λs' N q=>?hR
    case hS0=>show#[_,#[],0,_,oH _ hS,#[rfl,rfl,rfl],rfl,(λe i=>by simp at i),(λk=>by simp),by lk,by rfl,rfl]
    case hR =>
     obtain⟨h',g',d',A7,i⟩:=s';have eg:g'=s.gens:=N.gens;have ed:d'=s.drawn:=N.drawn;have eo:i=s.os:=N.os;subst eg;subst ed;subst eo;change wpAny _ _ _ _ _ _;refine ou ?_;change wpAny _ _ (ret Value.none) _ _ _;refine ou #[rfl,h',A7,rfl,q,λb o U e=>?_];have D:b≠#v[s]:=oQ U;have C:b≠(s.heap.push<|vM w).objs.size:=by
      rw[uv];show oQ<|AL U
     show N.heap b o (by simp only[oM,qG,tV,rC,Af];show#[D,C])<|oH _<|oH _ e
    show Yd5 B (by rw[wu];show hv)
   ·cases n with
    | error e=>show y
    | ok x =>
     cases x with
     | ret r =>
      obtain⟨rfl,h',tk,rfl,q,u⟩:=y
      repeat (any_goals (first|assumption|wp_step))
      show h _ _ q u
     | _=>show y.elim
  | _=>show L.elim
end
def Yde(K:mK)(s:TE):TE:=λy H Q=>s y H λx u=>∃(p:mG)(w:mD mF),x=.ref p/\SqL K u p (w.map V.str)/\w.length<64/\w.Nodup/\Q (.int w.length) u
def Zy9(a:X.calm=true)(r:Gl X "len")(n:X.mg "len"=none)(Y:Gl X "set")(j:X.mg "set"=none)(U:PA X [e] t)
  (N:starEach [e] X.env=(false,eval e X.env) ::starEach [] X.env:=by rfl):PE X (.Call (.Name "len" p) [.Call (.Name "set" p') [e] [] M] [] pos) (Yde X.K λy H Q=>t y H λxs w=>∃x,xs=[x]/\Q x w):=by
 intro d s y H Q I h;refine uQ<|vf I r n DW ?_;refine JP ?_ rfl rfl;refine wD ?_;refine uQ<|vf I Y j PyProof.Rows.boot_set ?_;refine yj (oK (U M d s y H _ I h) λu s1 ⟨l,w,i,L,J⟩=>?_) N rfl;obtain⟨x,rfl,l,G,rfl,E,u,D,q⟩:=J;obtain⟨u,rfl,C⟩:=Wp L;cases C;obtain⟨u,B,A,l⟩:=i.list E;refine UQ (i.ok.hd a) A.isList (yV B) D (by unfold scanBound;lia) λh1 R8 hS g=>?_
 have I2:nM X d y w {s1 with heap:=h1,toks:=R8}:=i.kept λb o e=>g b o (oJ e) e
 refine yC ?_;obtain⟨o,u,l,tb,e1,e2,e3,_,_,_,e4,c⟩:=hS;refine call_len_set e1 e2 e3 e4 (by rw[c];lia) #[.int G.length,w,I2.tok _,#[_,by rw[c]],q]
def Yab:V->mD V->Hp->VK->Prop:=λx w H Q=>∃l y,x=.ref l/\w=[]/\H l=some (.lst y)/\Q .non (nO H l<|.lst y.reverse)
def Zvb:yc X "list.reverse" Yab:=by
 intro i s y H x g v d Q I p o h;obtain⟨l,c,rfl,rfl,w,q⟩:=h;cases p;have j:=o.zero;subst j;obtain⟨z,u,n,r,c,e⟩:=I.lstM w;refine xr Mi #[_,e,rfl] F.entry_list_reverse (F.args_list_reverse_1 _) (AutoListH.list_reverse_list_0 l u.toArray n<|by rw[ph];lia) #[e,?_];show#[.non,_,I.lset (its':=u.reverse) w e (by simp) r.reverse (by rw[wS];show z),rfl,q]
def Zzh:V->mD V->Hp->VK->Prop:=λx u H Q=>∃l w y,x=.ref l/\u=[.int 0,y]/\H l=some (.lst w)/\w.length<sizeLine/\Q .non (nO H l<|.lst<|y ::w)
def Zur:yc X "list.insert" Zzh:=by
 intro c s y H x a v Y Q I j i h;obtain⟨l,U,w,rfl,rfl,p,N,q⟩:=h;cases j;obtain⟨w,u,rfl,⟨g,rfl⟩,d⟩:=i.two;obtain⟨z,o,n,r,w,e⟩:=I.lstM p;refine xr Lf #[_,e,rfl] F.entry_list_insert (F.args_list_insert_3 _ _ _) (AutoListH.list_insert_list_int_val_1 l o.toArray n 0 g u (by lk)<|by rw[ph];lia) #[e,?_];show#[.non,_,I.lset (its':=u ::o) p e (by simp) (.cons d r) (by rw[qr];lia),rfl,q]
def Yd6:V->mD V->Hp->VK->Prop:=λx w H Q=>∃l y,x=.ref l/\w=[]/\H l=some (.dK y)/\Q .non (nO H l<|.dK [])
def QP:yc X "dict.clear" Yd6:=by
 intro Y s y H x w v U Q I o n h;obtain⟨l,j,rfl,rfl,u,q⟩:=h;cases o;have i:=n.zero;subst i;obtain⟨z,hd,w,g,r⟩:=vT I.hok u;refine vp Iw r.typeIs PySem.F.entry_dict_clear (PySem.F.args_dict_clear_1 _) (meets_dict_clear (Zz X.prog X.w) l) #[w,r,by rw[<-g.length];show z,λe p d=>#[.non,_,?_,rfl,q]];have c:∃q,e.get? l=some q:=let⟨q,_,_,a,_⟩:=p;#[q,a];show zW (t':=s.toks) I (by rw[u];show rD) d c<|xE (sY _) hd .nil p
def Zu0{prog:mS}{w:mP}{K:Type}[DecidableEq K](knd:KeyKind prog w K){d:mG}{k:K}{key dflt:mH}(q:knd.is k key=true)(y:(keyPart key).isSome=true)(hd:(d ==sysModules)=false) :
  MeetsIn prog w (Builtin.«dict.pop» #[[.ref d,key,dflt],[]]) (λ_ R s=>∃kvs,s.heap.DictOf knd d kvs/\kvs.length<=sizeLine/\(valueAt kvs k=none->R (.ok<|.ret dflt) {s with toks:=s.toks+1})/\
   ∀v h',valueAt kvs k=some v->h'.DictOf knd d (without kvs k)->Heap.SameBut d s.heap h'->R (.ok<|.ret v) {s with heap:=h',toks:=s.toks+1}) :=
 .of_wp λA R s ⟨kvs,r,x,p,h⟩=>by
  unfold Builtin.«dict.pop»;refine nW ?_;unfold Builtin.Dict.keyAndDefault;refine nW<|Gc r.typeIs ?_;change wpAny _ _ (pure (d,key,some dflt)) _ _ s;refine ou ?_;simp only[y,tY];refine nW<|ou ?_;simp only[tT,rX];refine nW<|wpAny_takeOut_pairs (hsz:=x) q r (λo=>?_) λe _ n h' u l=>?_
  ·simp only[FH,tY];refine nW<|wpAny_missedRemoval_other hd ?_;show nW<|vm<|ou #[dflt,rfl,p o]
  ·simp only[Option.isNone_some,tT,rX];show nW<|wpAny_letGo<|ou #[e.val,rfl,h e.val h' n u l]
def Yg3(q p:TE):TE:=λy H Q=>q y H λx s=>∃a,x=.ref a/\AV s a/\p y s λw r=>∃u k,r a=some (.dK u)/\w=kV k/\∀v,Q v<|nO r a<|.dK<|uR u k
def Uh(C:PE X o B)(j:PE X e A)(m:M2 X o "pop" m6 e (.Constant .none fj fp) g8):PE X (.Call (.Attribute o "pop" m6) [e,.Constant .none fj fp] [] g8) (Yg3 B A):=by
 intro M s y H Q I h;refine DM m.nI m.few m.line ww En QC<|oK (C M s y H _ I h) λu s1 h9=>?_;obtain⟨x,H1,L,rx,a,ex,d,q1⟩:=h9;subst ex;obtain rfl:u=Value.ref a:=rx;obtain⟨t1,t2,_⟩:=DE L d;refine#[t1,t2,?_];rw[m.trees];refine wb rfl (zU (wD (oK (j M s1 y H1 _ L q1) λu i ⟨w,J,g,Y,r,k,U,ey,q⟩ =>
  wD (Constant_none<|yC ?_))))
 subst ey;obtain⟨z,hd,vs,n,G⟩:=vT g.hok U;have hp:(keyPart u).isSome=true:=by
  cases k with
  | inl i=>obtain⟨t,q⟩:=(show ∃t,u=Value.int i t from Y);subst q;rfl
  | inr x=>obtain⟨t,q⟩:=(show ∃t,u=Value.str x t from Y);subst q;rfl
 refine vp En G.typeIs Ra (LQ _ _ _) (Zu0 (Zz X.prog X.w) (uG Y) hp hd) #[vs,G,by rw[<-n.length];show z,λN=>?_,λv h' N E hs=>?_]
 ·have p:=n.val k;rw[N]at p;have p:Y0 r k=none:=by
   cases l:Y0 r k with
   | none=>rfl
   | some D=>rw[l]at p;show nomatch p
  have i:nO J a (.dK<|uR r k)=J:=by
   have:uR r k=r:=MY.mpr λkv D7=>oO λc=>?_
   ·rw[this];funext b;by_cases w:b=a
    ·rw[w,Zc,U]
    ·show Zd w
   ·have w:=BY k r;rw[p]at w;show absurd (List.any_eq_true.mpr #[kv,D7,oO c]) (by rw[w];decide)
  show#[.non,_,by rw[i];show g.kept λ_ _ e=>e,rfl,q _]
 ·have p:=n.val k;rw[N]at p;obtain⟨w,i⟩:∃w,Yc w v:=by
   cases l:Y0 r k with
   | none=>rw[l]at p;show nomatch p
   | some D=>rw[l]at p;show#[D,p]
  have j:∃q,h'.get? a=some q:=let⟨q,_,_,c,_⟩:=E;#[q,c];show#[w,_,zW g (by rw[U];show rD) hs j<|xE (oU (IR r k) z) hd (n.drop k) E,i,q _]
end L2
section
namespace L2
open PySem PySem.Spec PyProof.Rows
def W2{X:Cx}{K:mK}{a b:mQ}{y x:TE}{pos:Pos}(w:X.K=K)(u:PE X a y)(s:PE X b x)(r:FL b:=by show λ_ _=>rfl):PE X (.Subscript a b pos) (rR (zd K) y x):=by subst w;show Mf Ot u s r
def nV{n:Nat}(h:n<=1000:=by simp):n<=sizeLine:=sz h
end L2
namespace L2
def qC{y:Sort u}{p R:y->Prop}{w:y}(h:p w)(k:R w):∃x,p x/\R x:=#[w,h,k]
def wQ{y:Sort u}{s:Sort v}{p R:y->s->Prop}{q:y->s->Prop}{w:y}{z:s}(h:p w z)(g:q w z)(k:R w z):∃x r,p x r/\q x r/\R x r:=#[w,z,h,g,k]
end L2
def oA:=@L2.Paired.mapP
def rc:=@L2.PW.pt
def nS:=@L2.SqL.of
def nX:=@L2.SqT.of
def rn:=@L2.Xp.k
def qu:=@L2.nH.refl
def pE:=@L2.Xr.set
def qp:=@L2.WS.of
def tz:=@L2.WE.of
def nR:=@L2.WSs.step
def nU:=@L2.WSs.last
def qk:=@L2.WSs.cut
def wp:=@L2.Im.tup
def rM:=@L2.Im.lst
def pG:=@L2.Paired.get
def qc:=@L2.Paired.append
def pP:=@L2.nH.new
def xK:=@L2.nH.thaw
namespace K65
open PySem L2 NM
def oo(i:Nat):mM:=PySem.Challenge.pw_yardkeep_k66_whole_keeper.main.body.getD i<|.Pass #[0,0,0,0]
abbrev WK:mM:=Z1 (oo 6) 0
abbrev Zkz:mM:=Z1 (oo 7) 0
abbrev Uj:mM:=Z1 (oo 8) 0
abbrev Zyh:mM:=oo 15
abbrev Zkp:mM:=Z1 (oo 16) 0
abbrev TZ:mM:=Z1 (oo 16) 1
abbrev Zs7:mM:=Z1 (oo 16) 2
abbrev Zru:mM:=Z1 (oo 16) 3
abbrev Wc:mM:=Z1 (oo 16) 4
def Fi:Zw ["self","end","lie","one","two"] ["self","end","lie"] (Zj Wc):={}
abbrev Zq3:mM:=Z1 (oo 16) 5
abbrev Ue:mM:=Z1 (oo 18) 0
abbrev Zqk:mM:=Z1 (oo 18) 1
abbrev Zn9:mM:=Z1 (oo 20) 0
abbrev XN:mM:=Z1 (oo 20) 1
abbrev Zlt:mM:=Z1 (oo 20) 2
abbrev Tz:mM:=Z1 (oo 20) 3
abbrev Zrq:mM:=Z1 (oo 21) 0
abbrev Ux:mM:=Z1 (oo 21) 1
abbrev Zop:mM:=Z1 (oo 21) 2
abbrev Zxp:mM:=oo 25
abbrev Zvq:mM:=oo 26
abbrev MM:mM:=oo 27
def Lo:uZ ["name","known"] MM:={}
abbrev QG:mM:=oo 28
def HF:Zw ["parts","part_of","part"] ["parts"] (Zj QG):={}
abbrev JE:mM:=oo 29
def X4:Zw ["part_of","part_at","name","part","end"] ["part_of"] (Zj JE):={}
abbrev Lh:mM:=oo 30
def Rr:Zw ["join","part_at","joined","end"] ["join","part_at","joined"] (Zj Lh):={}
abbrev KW:mM:=oo 31
def Fc:Zw ["joins","part_at","joined","join"] ["joins","part_at"] (Zj KW):={}
abbrev Zob:mM:=oo 32
abbrev OK:mM:=oo 33
def AU:Zw ["signals","part_at","post_of","signal","name","end"] ["signals","part_at"] (Zj OK):={}
abbrev Y3:mM:=Z1 (oo 34) 0
def Ge:Zw ["self","parts","joins","signals","asked_signals","part_at"] ["self","parts","joins","signals"] (Zj Y3):={}
abbrev Vu:mM:=Z1 (oo 34) 1
abbrev Zmu:mM:=Z1 (oo 34) 2
abbrev WB:mM:=Z1 (oo 34) 3
abbrev Zg1:mM:=Z1 (oo 34) 4
abbrev WI:mM:=Z1 (oo 34) 5
abbrev Zki:mM:=Z1 (oo 34) 6
abbrev VZ:mM:=oo 35
abbrev VU:mM:=oo 36
abbrev Zkk:mM:=oo 37
abbrev Zn8:mM:=oo 40
abbrev Zkw:mM:=oo 41
abbrev VJ:mM:=oo 42
abbrev Zrt:mM:=oo 43
abbrev Zhn:mM:=Z1 (oo 45) 0
abbrev Kp:mM:=oo 48
def W8:Zw ["tracks","end","name","entry","part","steps"] ["tracks","end"] (Zj Kp):={}
abbrev Ud:mM:=oo 49
abbrev Tv:mM:=oo 50
abbrev Zu4:mM:=oo 51
abbrev Zu7:mM:=oo 53
abbrev Lw:mM:=oo 54
def FM:Zw ["paths","part","train","path"] ["paths","part"] (Zj Lw):={}
abbrev MT:mM:=oo 55
def FQ:Zw ["paths","steps","ahead","part"] ["paths","steps"] (Zj MT):={}
abbrev NC:mM:=oo 56
def NU:Zw ["paths","train","steps","told"] ["paths","train","steps"] (Zj NC):={}
abbrev NO:mM:=oo 57
def Rw:Zw ["path","length","seen","taken"] ["path","length","seen"] (Zj NO):={}
abbrev Pf:mM:=oo 58
def EL:Zw ["paths","lengths","seen","told","train","path"] ["paths","lengths","seen"] (Zj Pf):={}
abbrev Zod:mM:=oo 59
abbrev Oj:mM:=oo 62
def Da:Zw ["tracks","begun","post","last","passed"] ["tracks","begun"] (Zj Oj):={}
abbrev MF:mM:=oo 63
def Wu:Zw ["tracks","signal","found","begun","ahead","step"] ["tracks","signal"] (Zj MF):={}
abbrev Sv:mM:=oo 64
def PH:Zw ["tracks","thing","place"] ["tracks","thing"] (Zj Sv):={}
abbrev VI:mM:=oo 65
abbrev Xu:mM:=oo 67
def ZE:uZ ["part"] Xu:={}
abbrev Xh:mM:=oo 68
def Zoc:uZ ["part"] Xh:={}
abbrev Yx:mM:=oo 69
def Tn:uZ ["part"] Yx:={}
abbrev Xv:mM:=oo 70
def Rm:Zw ["part","lie","stiff"] ["part","lie"] (Zj Xv):={}
abbrev JQ:mM:=oo 71
def HM:Zw ["route","rules","step"] ["route"] (Zj JQ):={}
abbrev LV:mM:=oo 72
def Ht:Zw ["rules","ground","rule","told"] ["rules","ground"] (Zj LV):={}
abbrev SY:mM:=oo 73
abbrev RC:mM:=oo 74
def JT:Zw ["lies","route","told"] ["lies","route"] (Zj RC):={}
abbrev Si:mM:=oo 76
def Zhz:uZ ["told"] Si:={}
abbrev KD:mM:=oo 77
def CB:Zw ["ahead","behind","parts","train","path"] ["ahead","behind"] (Zj KD):={}
abbrev Ug:mM:=Z1 (oo 78) 0
abbrev W9:mM:=Z1 (oo 78) 1
def Zcs:uZ ["self","train"] W9:={}
abbrev Zku:mM:=Z1 (oo 78) 2
abbrev Lz:mM:=Z1 (oo 78) 3
def Zlo:uZ ["self","train","length","gate","seen"] Lz:={}
abbrev Ln:mM:=Z1 (oo 78) 4
def LB:Zw ["self","train","route","seen","path"] ["self","train","route","seen"] (Zj Ln):={}
abbrev Ox:mM:=Z1 (oo 78) 5
def Vv:uZ ["self","points","lie","seen"] Ox:={}
abbrev ZY:mM:=Z1 (oo 78) 6
abbrev Zkr:mM:=Z1 (oo 78) 7
abbrev JS:mM:=Z1 (oo 78) 8
def Jw:Zw ["self","seen","ahead"] ["self","seen"] (Zj JS):={}
abbrev Ql:mM:=Z1 (oo 78) 9
def MS:Zw ["self","train","path"] ["self","train"] (Zj Ql):={}
abbrev On:mM:=Z1 (oo 78) 10
def Zkv:uZ ["self","train"] On:={}
abbrev Lm:mM:=Z1 (oo 78) 11
def Gb:Zw ["self","signal","end","path"] ["self","signal"] (Zj Lm):={}
abbrev RX:mM:=Z1 (oo 78) 12
def Zlw:uZ ["self","train"] RX:={}
abbrev YJ:mM:=Z1 (oo 78) 13
abbrev Uq:mM:=Z1 (oo 78) 14
abbrev Zl3:mM:=Z1 (oo 78) 15
abbrev LU:mM:=Z1 (oo 78) 16
def SK:uZ ["self","train"] LU:={}
abbrev YA:mM:=Z1 (oo 78) 17
abbrev Sc:mM:=oo 80
def NB:Zw ["_law_cell","_law_k","_law_left"] ["_law_cell","_law_k"] (Zj Sc):={}
abbrev Zl8:mM:=oo 81
abbrev Ut:mM:=oo 82
abbrev Tg:mM:=oo 83
abbrev RT:mM:=oo 84
def Gp:Zw ["_law_kind","_law_cell","_law_k","_law_letters","_law_signs"] ["_law_kind","_law_cell","_law_k"] (Zj RT):={}
abbrev Pu:mM:=oo 85
def Z3:Zw ["_law_cell","_law_names","_law_one","_law_two","_law_three","_law_four","_law_way","_law_ends_here","_law_far","_law_joins","_law_parts","_law_turn","_law_aside","_law_rest"] ["_law_cell","_law_names"] (Zj Pu):={}
abbrev Oo:mM:=oo 86
def Yy:Zw ["_law_cells_here","_law_parts","_law_joins","_law_end","_law_k","_law_cell","_law_names","_law_j","_law_block_here"] ["_law_cells_here"] (Zj Oo):={}
abbrev Oy:mM:=oo 87
def DH:Zw ["_law_parts","_law_joins","_law_rest","_law_cell","_law_j","_law_end","_law_name"] ["_law_parts","_law_joins","_law_rest","_law_cell"] (Zj Oy):={}
abbrev Sk:mM:=oo 88
def Yk:Zw ["_law_cells_here","_law_parts","_law_joins","_law_rest","_law_k","_law_cell","_law_kind","_law_ends_here","_law_name","_law_fresh","_law_near","_law_other"] ["_law_cells_here"] (Zj Sk):={}
abbrev ON:mM:=oo 89
def Ya:Zw ["_law_parts","_law_cell","_law_letters","_law_ends_here","_law_kind","_law_name","_law_end","_law_found","_law_k","_law_draw","_law_signs"] ["_law_parts","_law_cell"] (Zj ON):={}
abbrev JM:mM:=oo 90
def Xg:Zw ["_law_cells_here","_law_cell","_law_found","_law_parts","_law_joins","_law_at"] ["_law_cells_here","_law_cell"] (Zj JM):={}
abbrev VW:mM:=oo 91
abbrev Zos:mM:=oo 92
abbrev Ri:mM:=oo 93
def Xj:Zw ["_law_doing","e","_law_kinds","_law_words","_law_word"] ["_law_doing"] (Zj Ri):={}
abbrev Jz:mM:=oo 94
def OD:Zw ["_law_keeper","_law_told"] ["_law_keeper"] (Zj Jz):={}
abbrev Ml:mM:=oo 96
def zy:Zw ["_law_keeper","_law_tracks_here","_law_name","_law_cell","_law_seen","_law_step","_law_signal","_law_ways","_law_way"] ["_law_keeper","_law_tracks_here","_law_name","_law_cell","_law_seen"] (Zj Ml):={}
abbrev Kl:mM:=oo 97
def We:Zw ["_law_keeper","_law_tracks_here","_law_yard","_law_cell","_law_seen","_law_gates","_law_way","_law_gate","_law_lie","_law_name","_law_points"] ["_law_keeper","_law_tracks_here","_law_yard","_law_cell","_law_seen"] (Zj Kl):={}
abbrev Jy:mM:=oo 98
def Y4:Zw ["_law_keeper","_law_tracks_here","_law_path","_law_lies","_law_k","_law_step","_law_ahead","_law_last"] ["_law_keeper","_law_tracks_here","_law_path"] (Zj Jy):={}
abbrev Pm:mM:=oo 99
def Yt:Zw ["_law_keeper","_law_tracks_here","_law_told","_law_name","_law_every","_law_ends_here","_law_path","_law_shown"] ["_law_keeper","_law_tracks_here"] (Zj Pm):={}
abbrev wf:mM:=oo 100
def sQ:Zw ["_law_script","_law_yard","_law_tracks_here","_law_keepers","_law_held","_law_k","_law_cell","_law_at","_law_keeper","_law_beside","_law_seen","_law_j","_law_one","_law_stiff","_law_lies"] ["_law_script"] (Zj wf):={}
set_option genInjectivity false in
set_option genSizeOf false in
structure Tx(K:Frag)(mg:Str->Option Value) where
 aQ:Dn K "__init__" "Held.__init__" WK ["self","part"]
 bw:Dn K "__init__" "Seen.__init__" Zkz ["self","part"]
 bn:Dn K "__init__" "Stiff.__init__" Uj ["self","part"]
 gh:DG K mg "is_name" Zyh ["thing"]
 ao:Dn K "__init__" "Part.__init__" Zkp ["self","name"]
 bZ:Dn K "ends" "Part.ends" TZ ["self"]
 aI:Dn K "lies" "Part.lies" Zs7 ["self"]
 bP:Dn K "pairs" "Part.pairs" Zru ["self","lie"]
 aG:zK K "leads" "Part.leads" Wc ["self","end","lie"] (.str "")
 aL:Dn K "bears" "Part.bears" Zq3 ["self"]
 ci:Dn K "ends" "Stop.ends" Ue ["self"]
 bQ:Dn K "pairs" "Stop.pairs" Zqk ["self","lie"]
 cy:Dn K "ends" "Points.ends" Zn9 ["self"]
 bT:Dn K "lies" "Points.lies" XN ["self"]
 cj:Dn K "pairs" "Points.pairs" Zlt ["self","lie"]
 ck:Dn K "bears" "Points.bears" Tz ["self"]
 cL:Dn K "ends" "Cross.ends" Zrq ["self"]
 cz:Dn K "pairs" "Cross.pairs" Ux ["self","lie"]
 cA:Dn K "bears" "Cross.bears" Zop ["self"]
 gi:DG K mg "is_pair" Zxp ["thing"]
 ff:DG K mg "is_known" Zvq ["end","ends"]
 aS:DG K mg "refuse_name" MM ["name","known"]
 cY:DG K mg "parts_by_name" QG ["parts"]
 cZ:DG K mg "ends_to_parts" JE ["part_of"]
 dE:DG K mg "refuse_join" Lh ["join","part_at","joined"]
 dF:DG K mg "joined_ends" KW ["joins","part_at"]
 dG:DG K mg "refuse_post" Zob ["end","part_at","ends_with_signals"]
 fg:DG K mg "posts_of" OK ["signals","part_at"]
 bF:zK K "__init__" "Tracks.__init__" Y3 ["self","parts","joins","signals"] .non
 bI:Dn K "names" "Tracks.names" Vu ["self"]
 aO:Dn K "named" "Tracks.named" Zmu ["self","name"]
 aR:Dn K "beyond" "Tracks.beyond" WB ["self","end"]
 aF:Dn K "signal_at" "Tracks.signal_at" Zg1 ["self","end"]
 bo:Dn K "signals" "Tracks.signals" WI ["self"]
 aZ:Dn K "end_of" "Tracks.end_of" Zki ["self","signal"]
 fh:DG K mg "gates_of" VZ ["tracks"]
 eL:DG K mg "points_of" VU ["tracks"]
 de:DG K mg "lies_at_first" Zkk ["tracks"]
 dH:DG K mg "refuse_gate" Zn8 ["tracks","gate"]
 df:DG K mg "refuse_length" Zkw ["long"]
 dh:DG K mg "refuse_points" VJ ["tracks","points"]
 dU:DG K mg "refuse_lie" Zrt ["tracks","points","lie"]
 bG:Dn K "__init__" "Ground.__init__" Zhn ["self","lie_of","stiff_ones","path_of","told"]
 dW:DG K mg "steps_into" Kp ["tracks","end"]
 dX:DG K mg "end_behind" Ud ["step"]
 dY:DG K mg "ends_there" Tv ["tracks","step"]
 fi:DG K mg "backward" Zu4 ["step"]
 fk:DG K mg "parts_of" Zu7 ["steps"]
 gS:DG K mg "holder" Lw ["paths","part"]
 bU:DG K mg "refuse_held" MT ["paths","steps"]
 cH:DG K mg "longer" NC ["paths","train","steps"]
 dZ:DG K mg "given_back" NO ["path","length","seen"]
 eM:DG K mg "shortened" Pf ["paths","lengths","seen"]
 dI:DG K mg "turned_path" Zod ["path"]
 fm:DG K mg "steps_on" Oj ["tracks","begun"]
 dJ:DG K mg "routes_from" MF ["tracks","signal"]
 ft:DG K mg "is_route" Sv ["tracks","thing"]
 gj:DG K mg "lies_of" VI ["route"]
 dq:DG K mg "rule_held" Xu ["part"]
 cV:DG K mg "rule_taken" Xh ["part"]
 cW:DG K mg "rule_stiff" Yx ["part"]
 du:DG K mg "rule_lies" Xv ["part","lie"]
 fw:DG K mg "rules_of" JQ ["route"]
 gk:DG K mg "against" LV ["rules","ground"]
 cS:DG K mg "against_points" SY ["points","ground"]
 iE:DG K mg "laid" RC ["lies","route"]
 aq:DG K mg "refuse_against" Si ["told"]
 gm:DG K mg "dropped" KD ["ahead","behind"]
 bd:Dn K "__init__" "Keeper.__init__" Ug ["self","tracks"]
 ax:Dn K "refuse_no_train" "Keeper.refuse_no_train" W9 ["self","train"]
 ba:Dn K "ground" "Keeper.ground" Zku ["self","seen"]
 cD:Dn K "come" "Keeper.come" Lz ["self","train","length","gate","seen"]
 bR:Dn K "set_way" "Keeper.set_way" Ln ["self","train","route","seen"]
 cE:Dn K "turn" "Keeper.turn" Ox ["self","points","lie","seen"]
 bS:Dn K "stiffen" "Keeper.stiffen" ZY ["self","points"]
 bW:Dn K "loosen" "Keeper.loosen" Zkr ["self","points"]
 cF:Dn K "look" "Keeper.look" JS ["self","seen"]
 cm:Dn K "about" "Keeper.about" Ql ["self","train"]
 cp:Dn K "leave" "Keeper.leave" On ["self","train"]
 cq:Dn K "shows" "Keeper.shows" Lm ["self","signal"]
 aM:Dn K "path" "Keeper.path" RX ["self","train"]
 aW:Dn K "paths" "Keeper.paths" YJ ["self"]
 aT:Dn K "lies" "Keeper.lies" Uq ["self"]
 bq:Dn K "stiff" "Keeper.stiff" Zl3 ["self"]
 bx:Dn K "length" "Keeper.length" LU ["self","train"]
 aw:Dn K "trains" "Keeper.trains" YA ["self"]
 am:DG K mg "_law_mixed" Sc ["_law_cell","_law_k"]
 aH:DG K mg "_law_cell_at" Zl8 ["_law_script","_law_k"]
 ee:DG K mg "_law_cells" Ut ["_law_script","_law_at","_law_end"]
 eN:DG K mg "_law_ends" Tg ["_law_kind"]
 dv:DG K mg "_law_name_by" RT ["_law_kind","_law_cell","_law_k"]
 ef:DG K mg "_law_block" Pu ["_law_cell","_law_names"]
 eO:DG K mg "_law_line" Oo ["_law_cells_here"]
 dL:DG K mg "_law_closed" Oy ["_law_parts","_law_joins","_law_rest","_law_cell"]
 ei:DG K mg "_law_drawn" Sk ["_law_cells_here"]
 cR:DG K mg "_law_signals_by" ON ["_law_parts","_law_cell"]
 dw:DG K mg "_law_yard_by" JM ["_law_cells_here","_law_cell"]
 eP:DG K mg "_law_part" VW ["_law_kind","_law_name"]
 dM:DG K mg "_law_tracks" Zos ["_law_yard"]
 ak:DG K mg "_law_caught" Ri ["_law_doing"]
 ej:DG K mg "_law_state" Jz ["_law_keeper"]
 dR:DG K mg "_law_led" Ml ["_law_keeper","_law_tracks_here","_law_name","_law_cell","_law_seen"]
 dz:DG K mg "_law_deed" Kl ["_law_keeper","_law_tracks_here","_law_yard","_law_cell","_law_seen"]
 cM:DG K mg "_law_path_stands" Jy ["_law_keeper","_law_tracks_here","_law_path"]
 dN:DG K mg "_law_stands" Pm ["_law_keeper","_law_tracks_here"]
 {cN:Addr}
 kn:mg "Part"=some (.ref cN)
 gw:qF K cN
 ib:nZ K cN "name"
 kf:Mk K cN ao.f
 gT:Y1 K cN "ends" bZ.f
 gU:Y1 K cN "lies" aI.f
 gx:Y1 K cN "pairs" bP.f
 gy:Y1 K cN "bears" aL.f
 gz:Y1 K cN "leads" aG.f
 {bJ:Addr}
 jq:mg "Plain"=some (.ref bJ)
 ek:qF K bJ
 eQ:nZ K bJ "name"
 iU:Mk K bJ ao.f
 gA:Y1 K bJ "ends" bZ.f
 gB:Y1 K bJ "lies" aI.f
 fT:Y1 K bJ "pairs" bP.f
 fU:Y1 K bJ "bears" aL.f
 fV:Y1 K bJ "leads" aG.f
 {bz:Addr}
 jf:mg "Stop"=some (.ref bz)
 fz:qF K bz
 fA:nZ K bz "name"
 jt:Mk K bz ao.f
 gV:Y1 K bz "ends" ci.f
 gW:Y1 K bz "lies" aI.f
 gC:Y1 K bz "pairs" bQ.f
 gD:Y1 K bz "bears" aL.f
 gE:Y1 K bz "leads" aG.f
 {bA:Addr}
 jg:mg "Gate"=some (.ref bA)
 fE:qF K bA
 fF:nZ K bA "name"
 ju:Mk K bA ao.f
 gX:Y1 K bA "ends" ci.f
 gY:Y1 K bA "lies" aI.f
 gF:Y1 K bA "pairs" bQ.f
 gG:Y1 K bA "bears" aL.f
 gH:Y1 K bA "leads" aG.f
 {aA:Addr}
 ir:mg "Points"=some (.ref aA)
 cT:qF K aA
 em:nZ K aA "name"
 iF:Mk K aA ao.f
 fW:Y1 K aA "ends" cy.f
 dO:Y1 K aA "lies" bT.f
 fG:Y1 K aA "pairs" cj.f
 fH:Y1 K aA "bears" ck.f
 fJ:Y1 K aA "leads" aG.f
 {bK:Addr}
 jv:mg "Cross"=some (.ref bK)
 er:qF K bK
 eR:nZ K bK "name"
 iV:Mk K bK ao.f
 gI:Y1 K bK "ends" cL.f
 gJ:Y1 K bK "lies" aI.f
 fX:Y1 K bK "pairs" cz.f
 fY:Y1 K bK "bears" cA.f
 fZ:Y1 K bK "leads" aG.f
 {aN:Addr}
 iW:mg "Tracks"=some (.ref aN)
 af:qF K aN
 bC:nZ K aN "part_of"
 cw:nZ K aN "joined"
 bD:nZ K aN "post_of"
 bH:nZ K aN "signal_on"
 iG:Mk K aN bF.f
 dA:Y1 K aN "names" bI.f
 bL:Y1 K aN "named" aO.f
 bX:Y1 K aN "beyond" aR.f
 bu:Y1 K aN "signal_at" aF.f
 cU:Y1 K aN "signals" bo.f
 cJ:Y1 K aN "end_of" aZ.f
 {cG:Addr}
 iX:mg "Ground"=some (.ref cG)
 dB:qF K cG
 dC:nZ K cG "lie_of"
 cO:nZ K cG "stiff_ones"
 di:nZ K cG "path_of"
 eu:nZ K cG "told"
 iH:Mk K cG bG.f
 {ay:Addr}
 iu:mg "Keeper"=some (.ref ay)
 ae:qF K ay
 az:nZ K ay "tracks"
 br:nZ K ay "lie_of"
 aX:nZ K ay "stiff_ones"
 bf:nZ K ay "length_of"
 ag:nZ K ay "path_of"
 gZ:Mk K ay bd.f
 bh:Y1 K ay "refuse_no_train" ax.f
 cK:Y1 K ay "ground" ba.f
 gc:Y1 K ay "come" cD.f
 eI:Y1 K ay "set_way" bR.f
 ge:Y1 K ay "turn" cE.f
 eJ:Y1 K ay "stiffen" bS.f
 eW:Y1 K ay "loosen" bW.f
 gf:Y1 K ay "look" cF.f
 fK:Y1 K ay "about" cm.f
 fL:Y1 K ay "leave" cp.f
 fM:Y1 K ay "shows" cq.f
 bE:Y1 K ay "path" aM.f
 cx:Y1 K ay "paths" aW.f
 bV:Y1 K ay "lies" aT.f
 cP:Y1 K ay "stiff" bq.f
 dm:Y1 K ay "length" bx.f
 aJ:Y1 K ay "trains" aw.f
 {ap:Addr}
 ic:mg "YardError"=some (.ref ap)
 {au:Addr}
 iI:mg "BadName"=some (.ref au)
 {aB:Addr}
 iY:mg "BadEnd"=some (.ref aB)
 {bt:Addr}
 iJ:mg "TooMany"=some (.ref bt)
 {ar:Addr}
 iK:mg "NoTrain"=some (.ref ar)
 {aD:Addr}
 iZ:mg "BadWay"=some (.ref aD)
 {aE:Addr}
 ja:mg "NoTurn"=some (.ref aE)
 {aU:Addr}
 iw:mg "Held"=some (.ref aU)
 {bi:Addr}
 jh:mg "Seen"=some (.ref bi)
 {aK:Addr}
 iL:mg "Stiff"=some (.ref aK)
 aY:mg "len"=none
 eZ:mg "range"=none
 aj:mg "isinstance"=none
 gK:mg "list"=none
 eK:mg "dict"=none
 ix:mg "tuple"=none
 eU:mg "str"=none
 bM:mg "enumerate"=none
 ji:mg "max"=none
 jj:mg "min"=none
 jM:mg "sum"=none
 cQ:mg "sorted"=none
 jN:mg "all"=none
 jw:mg "bool"=none
 iM:mg "int"=none
 fN:mg "repr"=none
 gL:mg "ValueError"=none
 ig:mg "reversed"=none
 jO:mg "set"=none
 kq:kitOne K (.type "tuple") (.type "tuple")=some true
 kg:kitOne K (.type "str") (.type "str")=some true
 mq:kitOne K (.type "NoneType") (.type "str")=some false
 kr:kitOne K (.type "int") (.type "int")=some true
 kt:kitOne K (.type "int") (.type "bool")=some false
 mt:kitOne K (.type "bool") (.type "int")=some true
 mw:kitOne K (.type "bool") (.type "bool")=some true
 my:kitOne K (.type "NoneType") (.type "int")=some false
 mz:kitOne K (.type "str") (.type "int")=some false
 mB:kitOne K (.type "int") (.type "str")=some false
 jP:kB K cN bz false
 jx:kB K bJ bz false
 jQ:kB K bz bz true
 jR:kB K bA bz true
 jb:kB K aA bz false
 jy:kB K bK bz false
 jS:kB K cN bA false
 jz:kB K bJ bA false
 jT:kB K bz bA false
 jU:kB K bA bA true
 jc:kB K aA bA false
 jC:kB K bK bA false
 jV:kB K cN aA false
 jD:kB K bJ aA false
 jW:kB K bz aA false
 jX:kB K bA aA false
 jd:kB K aA aA true
 jE:kB K bK aA false
 ku:kB K au au true
 ky:kB K au aB false
 kz:kB K au bt false
 kE:kB K au ar false
 kF:kB K au aD false
 kG:kB K au aE false
 kH:kB K au aU false
 kI:kB K au bi false
 kJ:kB K au aK false
 jk:kB K aB au false
 jF:kB K aB aB true
 jp:kB K aB bt false
 iT:kB K aB ar false
 iD:kB K aB aD false
 jY:kB K aB aE false
 kh:kB K aB aU false
 jZ:kB K aB bi false
 ke:kB K aB aK false
 jG:kB K ar au false
 kK:kB K ar aB false
 kL:kB K ar bt false
 kM:kB K ar ar true
 kN:kB K ar aD false
 kO:kB K ar aE false
 kP:kB K ar aU false
 kQ:kB K ar bi false
 kR:kB K ar aK false
 kS:kB K aD au false
 kT:kB K aD aB false
 kU:kB K aD bt false
 kW:kB K aD ar false
 kX:kB K aD aD true
 kY:kB K aD aE false
 kZ:kB K aD aU false
 lu:kB K aD bi false
 ly:kB K aD aK false
 lz:kB K aE au false
 lB:kB K aE aB false
 lC:kB K aE bt false
 lD:kB K aE ar false
 lE:kB K aE aD false
 lF:kB K aE aE true
 lG:kB K aE aU false
 lH:kB K aE bi false
 lI:kB K aE aK false
 lJ:kB K aU au false
 lK:kB K aU aB false
 lL:kB K aU bt false
 lM:kB K aU ar false
 lN:kB K aU aD false
 lO:kB K aU aE false
 lP:kB K aU aU true
 lQ:kB K aU bi false
 lR:kB K aU aK false
 lS:kB K bi au false
 lT:kB K bi aB false
 lU:kB K bi bt false
 lV:kB K bi ar false
 lW:kB K bi aD false
 lX:kB K bi aE false
 lY:kB K bi aU false
 lZ:kB K bi bi true
 ma:kB K bi aK false
 md:kB K aK au false
 me:kB K aK aB false
 mf:kB K aK bt false
 mh:kB K aK ar false
 mi:kB K aK aD false
 ki:kB K aK aE false
 mj:kB K aK aU false
 mn:kB K aK bi false
 jJ:kB K aK aK true
 c0:PySem.W.kitCls K (.ref au) (.ref ap)=some true
 c1:PySem.W.kitCls K (.ref aB) (.ref ap)=some true
 c2:PySem.W.kitCls K (.ref ar) (.ref ap)=some true
 c3:PySem.W.kitCls K (.ref aD) (.ref ap)=some true
 c4:PySem.W.kitCls K (.ref aE) (.ref ap)=some true
 c5:PySem.W.kitCls K (.ref aU) (.ref ap)=some true
 c6:PySem.W.kitCls K (.ref bi) (.ref ap)=some true
 c7:PySem.W.kitCls K (.ref aK) (.ref ap)=some true
 v0:kitOne K (.ref au) (.type "ValueError")=some true
 v1:kitOne K (.ref aB) (.type "ValueError")=some true
 v2:kitOne K (.ref ar) (.type "ValueError")=some true
 v3:kitOne K (.ref aD) (.type "ValueError")=some true
 v4:kitOne K (.ref aE) (.type "ValueError")=some true
 v5:kitOne K (.ref aU) (.type "ValueError")=some true
 v6:kitOne K (.ref bi) (.type "ValueError")=some true
 v7:kitOne K (.ref aK) (.type "ValueError")=some true
 mo:kitOne K (.ref ap) (.type "BaseException")=some true
 cI:OE K mg "YardError" ap
 gp:OE K mg "BadName" au
 iN:OE K mg "BadEnd" aB
 jK:OE K mg "TooMany" bt
 iy:OE K mg "NoTrain" ar
 hU:OE K mg "BadWay" aD
 iO:OE K mg "NoTurn" aE
 dS:XI K aU ap aQ.f "part"
 jH:XG K aU
 fO:XI K bi ap bw.f "part"
 jI:XG K bi
 ez:XI K aK ap bn.f "part"
 je:XG K aK
 gq:∃tk,mg "LETTERS"=some (.str "abcdefghijklmnopqrstuvwxyz" tk)
 iz:∃tk,mg "FIGURES"=some (.str "0123456789" tk)
 iA:XG K au
 iP:XG K aB
 jL:XG K bt
 iC:XG K ar
 iQ:XG K aD
 iR:XG K aE
 fP:∃tk,mg "LONGEST_NAME"=some (.int 6 tk)
 gM:∃tk,mg "MOST_PARTS"=some (.int 40 tk)
 fQ:∃tk,mg "MOST_SIGNALS"=some (.int 40 tk)
 eY:∃tk,mg "LONGEST_TRAIN"=some (.int 4 tk)
 gN:∃tk,mg "MOST_STEPS"=some (.int 12 tk)
 {dD:Addr}
 hZ:mg "NO_END"=some (.ref dD)
 iS:∀H:Hp,SqT K H dD ([.str "",.str ""]:List V)
 tG:PySem.W.specialIn K (.builtin "object.__class__") "__get__"=some (some<|.builtin "getset_descriptor.__get__")
 tK:PySem.W.takesIn K (.builtin "object.__class__")=some true
 ii:cB K cN
 ij:PySem.W.mroIn K cN (.type "object")=some true
 gO:cB K bJ
 gP:PySem.W.mroIn K bJ (.type "object")=some true
 ik:cB K bz
 il:PySem.W.mroIn K bz (.type "object")=some true
 io:cB K bA
 iq:PySem.W.mroIn K bA (.type "object")=some true
 fR:cB K aA
 fS:PySem.W.mroIn K aA (.type "object")=some true
 gQ:cB K bK
 gR:PySem.W.mroIn K bK (.type "object")=some true
 mC:(Value.ref aU ==Value.ref ap)=false
 {bN:Addr}
 eE:wC K dq.fd bN
 {bv:Addr}
 dP:wC K cV.fd bv
 {bg:Addr}
 dQ:wC K cW.fd bg
 {bO:Addr}
 eF:wC K du.fd bO
 {bY:Addr}
 eV:wC K dR.fd bY
 {aV:Addr}
 eG:wC K dz.fd aV
section
variable {P:mS} {w:mP} {K:mK} {mg:mF->mJ mH} {nI:mO} (T:Tx K mg)
seal PySem.wpAny
structure sv(T:Tx K mg)(H:Hp):Prop where
 rule_held:H T.bN=some (.tbl<|tU (um<|pR Xu)<|~~~"rule_held")
 rule_taken:H T.bv=some (.tbl<|tU (um<|pR Xh)<|~~~"rule_taken")
 rule_stiff:H T.bg=some (.tbl<|tU (um<|pR Yx)<|~~~"rule_stiff")
 rule_lies:H T.bO=some (.tbl<|tU (um<|pR Xv)<|~~~"rule_lies")
 _law_led:H T.bY=some (.tbl<|Wb [(599,34,~~~"_law_led")])
 _law_deed:H T.aV=some (.tbl<|Wb [(611,20,~~~"_law_deed"),(613,20,~~~"_law_deed"),(615,20,~~~"_law_deed"),(618,20,~~~"_law_deed")])
def sv.mono{T:Tx K mg}{H y:Hp}(e:nH H y)(h:sv T H):sv T y:=#[e _ _ h.rule_held,e _ _ h.rule_taken,e _ _ h.rule_stiff,e _ _ h.rule_lies,e _ _ h._law_led,e _ _ h._law_deed]
abbrev Tx.tabs(T:Tx K mg):mD (mG×Array mH):=[(T.bN,(tU (um<|pR Xu)<|~~~"rule_held")),(T.bv,(tU (um<|pR Xh)<|~~~"rule_taken")),(T.bg,(tU (um<|pR Yx)<|~~~"rule_stiff")),(T.bO,(tU (um<|pR Xv)<|~~~"rule_lies")),(T.bY,(Wb [(599,34,~~~"_law_led")])),(T.aV,(Wb [(611,20,~~~"_law_deed"),(613,20,~~~"_law_deed"),(615,20,~~~"_law_deed"),(618,20,~~~"_law_deed")]))]
def sv.of{T:Tx K mg}{H:Hp}(h:∀p∈T.tabs,H p.1=some (.tbl p.2)):sv T H:=#[h (T.bN,(tU (um<|pR Xu)<|~~~"rule_held")) (by simp),h (T.bv,(tU (um<|pR Xh)<|~~~"rule_taken")) (by simp),h (T.bg,(tU (um<|pR Yx)<|~~~"rule_stiff")) (by simp),h (T.bO,(tU (um<|pR Xv)<|~~~"rule_lies")) (by simp),h (T.bY,(Wb [(599,34,~~~"_law_led")])) (by simp),h (T.aV,(Wb [(611,20,~~~"_law_deed"),(613,20,~~~"_law_deed"),(615,20,~~~"_law_deed"),(618,20,~~~"_law_deed")]))<|by simp]
open YM
inductive IG:Sp
 | mk (c k):vs=[.int c,.int k]->Q (.int<|vA c k) H->IG  vs H Q E
inductive HU(K:mK):Sp
 | mk (a) (ns:mD Int) (k:Nat):vs=[.ref a,.int k]->SqL K H a (ns.map V.int)->Q (.int<|Er ns k) H->HU K vs H Q E
def Zz5:T.am.O P w mg nI 1 IG:=by
 refine T.am.F.okW NB ?_;rfl'
 ·obtain⟨c,k,rfl,q⟩:=h;intro X D;refine nR (oj 2 NB<|Zr Ym (Zr zc (Zr W0 (pv 0)<|Zr zc Ze<|pv 1) Ze) Ze) ?_;refine#[.inl #[by lk,by lk],.inl #[.inr #[by lk,by lk],(by change(0:Int)<2147483647;decide),?_]];refine nU (Zl<|Zr Ym (Zr zc (pv 2)<|Zr W0 (Zr W0 (pv 2)<|Zr zc Ze<|pv 1) Ze) Ze) ?_;refine#[.inl #[by lk,by lk],.inl<|.inl #[.inl ?_,(by change(0:Int)<2147483629;decide),q]];have y:=qT ((c+7919 * k) * 48271) (show(2147483647:Int)≠0 by lk);have x:=qZ ((c+7919 * k) * 48271) (show(0:Int)<2147483647 by lk)
  constructor<;>lia
def BW(h:1<=k:=by lk):T.am.O P w mg nI k IG:=(Zz5 T).mono h
def XV:T.aH.O P w mg nI 2 (HU K):=by
 refine T.aH.F.okA ?_;rfl'
 ·obtain⟨a,x,k,rfl,u,q⟩:=h;intro X D;refine nR (Zx (Yg yx (pv 1) (qt T.aY<|pv 0)<|Yv _) Zq Zk) ?_;refine(.inl #[.inl u,Z7 (λy=>?_) λy=>?_])
  ·have y:=pA y;rw[nQ]at y;have r:k<x.length:=by lia
   have e:x[k]? =some x[k]:=by simp[r]
   refine nU (Zl<|Wd (BW T) hr rfl T.am.m T.am.F.kp T.am.b .nil Z4<|Zb (oi (pv 0)<|pv 1)<|Zb (pv 1) Za)<|.inl #[u,Zm (by rw[oF,e];rfl),x[k],k,rfl,?_];unfold Er at q;rw[e]at q;show q
  ·have y:¬((k:Int)<((x.map V.int).length:Int)):=λz=>y<|oO z
   rw[nQ]at y;have e:x[k]? =none:=vP (by lia);unfold Er at q;rw[e]at q;show nU (Zl Ze) q
def Ro(h:2<=k:=by lk):T.aH.O P w mg nI k (HU K):=(XV T).mono h
inductive KB:Sp
 | mk (k):vs=[.str k]->(∀p H',nH H H'->H p=none->H' p=some (.lst<|(Yq k).map V.str)->Q (.ref p) H')->KB  vs H Q E
def ND:T.eN.O P w mg nI 1 KB:=by
 refine T.eN.F.okA ?_;rfl'
 ·obtain⟨k,rfl,q⟩:=h;intro X D;refine nR (Zx (pY hr (pv 0) Zg) Zq Zk)<|.inl #[rfl,Z7 (λy=>?_) λy=>?_]
  ·have y:k ="points":=by simpa using y
   subst y;show nU (Zl<|Zn<|Zb Zg<|Zb Zg<|Zb Zg Za) #[nV,λp x u r o=>q p x u r o]
  have n:¬k ="points":=by simpa using y
  refine nR (Zx (pY hr (pv 0) Zg) Zq Zk)<|.inl #[rfl,Z7 (λy=>?_) λy=>?_]
  ·have y:k ="cross":=by simpa using y
   subst y;show nU (Zl<|Zn<|Zb Zg<|Zb Zg<|Zb Zg<|Zb Zg Za) #[nV,λp x u r o=>q p x u r o]
  have l:¬k ="cross":=by simpa using y
  refine nR (Zx (pY hr (pv 0) Zg) Zq Zk)<|.inl #[rfl,Z7 (λy=>?_) λy=>?_]
  ·have y:k ="plain":=by simpa using y
   subst y;show nU (Zl<|Zn<|Zb Zg<|Zb Zg Za) #[nV,λp x u r o=>q p x u r o]
  have j:¬k ="plain":=by simpa using y
  show nU (Zl<|Zn<|Zb Zg Za) #[nV,λp x u r o=>q p x u r (by unfold Yq;rw[nY n,nY l,nY j];show o)]
def BD(x:l.length=n)(u:0<=i)(s:i<n):pz l i=some (l.getD i.toNat 0):=by
 have e:i=((i.toNat:Nat):Int):=by lia
 have y:i.toNat<l.length:=by lia
 rw[e];refine Zm ?_;rw[ub,Ay,pJ y]
 rfl
def uF(c:Int):Int:=c%2028+2028 * (c / 2028%2)
def Pk(c:Int):uF c%3=c%3:=by unfold uF;lia
def ZK(c:Int):uF c / 2028%3=c / 2028%2:=by unfold uF;lia
def XC(c:Int):uF c / 3%26=c / 3%26:=by unfold uF;lia
def VO(c:Int):uF c / 78%26=c / 78%26:=by unfold uF;lia
inductive KZ:Sp
 | mk (kind:mF) (c) (k:Nat):vs=[.str kind,.int c,.int k]->0<kind.length->kind.length<=100->0<=c->k<100->Q (.str<|Ys kind (uF c) k) H->KZ  vs H Q E
def Sm:T.dv.O P w mg nI 1 KZ:=by
 refine T.dv.F.okW Gp ?_;rfl'
 ·obtain⟨kind,c,k,rfl,r,l,d,p,q⟩:=h;intro X D;refine nR (oj 3 Gp Zg) ?_;have a:=Co k p;refine nR (Zx (pY hr (Zr Ym (pv 1) Ze) Ze) Zq Zk) #[(by change(0:Int)<3;decide),.inl #[rfl,Z7 (λy=>?_) λy=>?_]]
  ·have y:c%3=0:=by simpa using y
   unfold Ys at q;rw[og ((Pk c).trans y)]at q;refine nU (Zl<|Zr W0 (oi (pv 0) Ze)<|Xa Ev (by rfl) T.eU xu<|Zb (pv 2) Za)<|.inr<|.inr #[kind,0,kind.cps.toList.getD 0 0,rfl,rfl,sz (by lia),?_,(k:Int),rfl,Fe p,.inr<|.inl<|wQ rfl rfl #[sz ?_,q]]
   ·have:(0:Int)<kind.cps.toList.length:=by rw[ut];show Int.ofNat_lt.mpr r
    show BD (n:=kind.cps.toList.length) rfl (by lk) this
   ·change 1+(tR k).length<=1000;lia
  have y:¬c%3=0:=by simpa using y
  have j:=qT (c / 3) (show(26:Int)≠0 by lk);have i:=qZ (c / 3) (show(0:Int)<26 by lk);have g:=qT (c / 78) (show(26:Int)≠0 by lk);have e:=qZ (c / 78) (show(0:Int)<26 by lk);have Y:=qT (c / 2028) (show(2:Int)≠0 by lk);have U:=qZ (c / 2028) (show(0:Int)<2 by lk);obtain⟨x,u⟩:∃x:Nat,c / 2028%2=(x:Int):=#[(c / 2028%2).toNat,by lia]
  unfold Ys at q;rw[Pk,nY y,ZK,u,Ay,XC,VO]at q;refine nR (oj 4 Gp<|Zr W0 (oi (pv 3)<|Zr Ym (Zr Yn (pv 1) Ze) Ze)<|oi (pv 3)<|Zr Ym (Zr Yn (pv 1) Ze) Ze) #[#[by lk,by lk],(by change(0:Int)<26;decide),.inr<|.inr #[_,_,uf<|c / 3%26,rfl,rfl,sz (by rw[Cr];decide),(by rw[Dc];show BD (n:=26) rfl j i),?_]];refine#[#[by lk,by lk],(by change(0:Int)<26;decide),.inr<|.inr #[_,_,uf<|c / 78%26,rfl,rfl,sz (by rw[Cr];decide),(by rw[Dc];show BD (n:=26) rfl g e),.inr<|.inl #[_,_,rfl,rfl,sz (by change 1+1<=1000;decide),?_]]];have N:(sR "0" x).length<=2:=by
   have:x<3:=by lia
   have hd:∀m,m<3->(sR "0" m).length<=2:=by left
   show hd x this
  have o:(#[(List.toArray [uf (c / 3%26)])]++#[(List.toArray [uf (c / 78%26)])]:mF).length=2:=by rw[qI];rfl
  refine nU (Zl<|Zr W0 (Zr W0 (pv 4)<|Zr LN Zg<|Zr Ym (Zr Yn (pv 1) Ze) Ze)<|Xa Ev (by rfl) T.eU xu<|Zb (pv 2) Za) #[#[by lk,by lk],(by change(0:Int)<2;decide),"0",x,rfl,by rw[<-u],by change 1 * x<=1000;lia,by lia,.inr<|.inl<|wQ rfl rfl #[sz (by rw[o];lia),(k:Int),rfl,Fe p,.inr<|.inl<|wQ rfl rfl #[sz ?_,q]]];change _+(tR k).length<=1000;rw[qI,o];lia
def Zp(H:Hp)(t:mG)(q:Zh):Prop:=H t=some (.tup [.str q.1,.str q.2])
def Wv(H:Hp)(t:mG)(j:Zh×Zh):Prop:=∃a b,H t=some (.tup [.ref a,.ref b])/\Zp H a j.1/\Zp H b j.2
def Zy(H:Hp)(l:mG)(ps:mD Zh):Prop:=∃y:mD mG,H l=some (.lst<|y.map V.ref)/\Paired (Zp H) y ps
def Yo(H:Hp)(l:mG)(x:mD (Zh×Zh)):Prop:=∃y:mD mG,H l=some (.lst<|y.map V.ref)/\Paired (Wv H) y x
def Zp.mono(e:nH H y)(h:Zp H t q):Zp y t q:=e.at h
def Wv.mono(e:nH H y)(h:Wv H t j):Wv y t j:=let⟨a,b,x,u,s⟩:=h;#[a,b,e.at x,u.mono e,s.mono e]
def Zy.mono(e:nH H y)(h:Zy H l ps):Zy y l ps:=let⟨x,u,s⟩:=h;#[x,e.at u,oA s λ_ _ r=>r.mono e]
def Yo.mono(e:nH H y)(h:Yo H l x):Yo y l x:=let⟨u,s,q⟩:=h;#[u,e.at s,oA q λ_ _ r=>r.mono e]
inductive OQ:Sp
 | mk (c nl n1 n2 n3 n4):vs=[.int c,.ref nl]->H nl=some (.lst [.str n1,.str n2,.str n3,.str n4])->(∀(t:mG)(H':Hp)(pl jl ie oe:mG)(ps:mD Zh)(js:mD (Zh×Zh)) (e1 e2:Zh),nH H H'->H' t=some (.tup [.ref pl,.ref jl,.ref ie,.ref oe])->Zy H' pl ps->Yo H' jl js->Zp H' ie e1->Zp H' oe e2->rA n1 n2 n3 n4 ps js e1 e2->Q (.ref t) H')->OQ  vs H Q E
def CJ :∃w,pz [u,v] (n%2)=some w/\((n%2=0/\w=u)\/(n%2=1/\w=v)):=by
 have y:=qT n (show(2:Int)≠0 by lk);have x:=qZ n (show(0:Int)<2 by lk);generalize n%2=m at y x;have:m=0\/m=1:=by lia
 rcases this with rfl|rfl
 ·show#[u,rfl,.inl #[rfl,rfl]]
 ·show#[v,rfl,.inr #[rfl,rfl]]
def Ydv{l D:mG}{xs:mD mF}{x:mF}{p:Hp}{Q:VK}{y:St}(U:p l=some (.lst<|xs.map V.str))(M:xs.length<=100)(g:p D=none)(q:∀s,nH p s->s D=some (.lst<|(xs.filter λe=>decide<|e≠x).map V.str)->Q (.ref D) s){fr:St->St}(N:fr y=[none,some<|.str x]){d:TT}(h:d=yz (rR (uY K) (sJ 0)<|sJ 1)) :
  sj (vJ K l) fr (rT 0) d (sJ 0) Q y p D:=by
 refine Yp (xs:=xs.map V.str) (λi n s=>n=((xs.take i).filter λe=>decide<|e≠x).map V.str/\s D=some (.lst n)/\nH p s) #[rfl,Zc,pP g] ?_ ?_ ?_
 ·rintro i n s _ ⟨_,_,j⟩;show nS<|j.at U
 ·rintro k v n s c ⟨rfl,a,j⟩;rw[oF]at c;obtain⟨u,Y,rfl⟩:=oN.mp c;unfold ro;rw[N,h];refine#[pE rfl,.inl #[rfl,Z7 (λr=>?_) λr=>?_]]
  ·have r:u≠x:=by simpa using r
   refine#[a,?_,?_,Zc,λb o e=>?_]
   ·rw[nQ];have:=yI (λe:mF=>decide<|e≠x)<|xs.take k;rw[oZ]at this;show Zo (by lia)
   ·rw[oW,Y,vw,oy,show(some u).toList=[u]from rfl,tJ,og<|oO r]
    rfl
   ·rw[Zd (Zf e g)];show j.at e
  ·have r:¬u≠x:=by simpa using r
   refine#[?_,a,j];rw[oW,Y,vw,show(some u).toList=[u]from rfl,tJ,nY (by simpa using r),xX,qM]
 ·rintro n r ⟨rfl,u,o⟩;rw[nQ,pQ]at u;show q r o u
def Zn2:T.ef.O P w mg nI 1 OQ:=by
 refine T.ef.F.okW Z3 ?_;rfl'
 ·obtain⟨c,x,n1,n2,n3,n4,rfl,hnl,q⟩:=h;intro X D;refine nR (PL (pv 1)<|Yfi rfl<|Zu (oY 2 Z3)<|Zu (oY 3 Z3)<|Zu (oY 4 Z3)<|Zu (oY 5 Z3) Y5) #[nS hnl,rfl,rfl,?_];refine nR (oj 6 Z3<|Zr Ym (pv 0) Ze) #[(by change(0:Int)<8;decide),?_];refine nR (Zx (Yg yx (pv 6) Ze<|Yv _) Zq Zk)<|Z7 (λ_=>?_) λ_=>?_
  ·refine nR (oj 7 Z3<|oi (Zn<|Zb (Zn<|Zb Zg<|Zb Zg Za)<|Zb (Zn<|Zb Zg<|Zb Zg Za) Za)<|Zr Ym (Zr Yn (pv 0) Ze) Ze) #[nV,λla H1 G _ e1=>#[nV,λlb H2 g _ e2=>#[nV,λll H3 i _ e3=>#[#[by lk,by lk],(by change(0:Int)<2;decide),?_]]]];obtain⟨l7,a,b,B4,h7,V8⟩:∃l7 a b,pz [V.ref la,.ref lb] (c / 8%2)=some (.ref l7)/\H3 l7=some (.lst [.str a,.str b])/\(a,b)∈[(("a":mF),("b":mF)),("b","a")]:=by
    obtain⟨w,C,h|h⟩:=CJ (n:=c / 8) (u:=V.ref la) (v:=V.ref lb)
    ·show#[la,"a","b",by rw[C,h.2],i.at<|g.at e1,by simp]
    ·show#[lb,"b","a",by rw[C,h.2],i.at e2,by simp]
   refine .inl #[nS e3,B4,?_];have C5:=G.trans<|g.trans i;refine nU (Zl<|Zi<|Zb (Zn<|Zb (Zi<|Zb Zg<|Zb (pv 2) Za) Za)<|Zb (Zn Za)<|Zb (Zi<|Zb (pv 2)<|Zb (oi (pv 7) Ze) Za)<|Zb (Zi<|Zb (pv 2)<|Zb (oi (pv 7) Ze) Za) Za) #[nV,λx H4 j _ e=>#[nV,λpl H5 p _ e5=>#[nV,λjl H6 l _ e6=>(.inl #[nS<|l.at<|p.at<|j.at h7,rfl,nV,λie H7 o _ e7=>(.inl #[nS<|o.at<|l.at<|p.at<|j.at h7,rfl,nV,λoe H8 y _ e8=>#[nV,λt H9 d _ e9=>?_]])])]]];show q t H9 pl jl ie oe _ _ _ _ (C5.trans<|j.trans<|p.trans<|l.trans<|o.trans<|y.trans d) e9 #[[x],d.at<|y.at<|o.at<|l.at e5,.cons (d.at<|y.at<|o.at<|l.at<|p.at e) .nil] #[[],d.at<|y.at<|o.at e6,.nil] (d.at<|y.at e7) (d.at e8)<|.plain a b V8
  refine nR (Zx (Yg yx (pv 6) Ze<|Yv _) Zq Zk)<|Z7 (λ_=>?_) λ_=>?_
  ·refine nR (oj 8 Z3<|oi (Zn<|Zb (Zn<|Zb Zg<|Zb Zg Za)<|Zb (Zn<|Zb Zg<|Zb Zg Za) Za)<|Zr Ym (Zr Yn (pv 0) Ze) Ze) #[nV,λla H1 G _ e1=>#[nV,λlb H2 g _ e2=>#[nV,λll H3 i _ e3=>#[#[by lk,by lk],(by change(0:Int)<2;decide),?_]]]];obtain⟨l7,a,b,B4,h7,V8⟩:∃l7 a b,pz [V.ref la,.ref lb] (c / 8%2)=some (.ref l7)/\H3 l7=some (.lst [.str a,.str b])/\(a,b)∈[(("left":mF),("right":mF)),("right","left")]:=by
    obtain⟨w,C,h|h⟩:=CJ (n:=c / 8) (u:=V.ref la) (v:=V.ref lb)
    ·show#[la,"left","right",by rw[C,h.2],i.at<|g.at e1,by simp]
    ·show#[lb,"right","left",by rw[C,h.2],i.at e2,by simp]
   refine .inl #[nS e3,B4,?_];have C5:=G.trans<|g.trans i;refine nR (oj 9 Z3<|Zn<|Zb (Zi<|Zb (Zi<|Zb (pv 2)<|Zb Zg Za)<|Zb (Zi<|Zb (pv 3)<|Zb Zg Za) Za)<|Zb (Zi<|Zb (Zi<|Zb (pv 2)<|Zb Zg Za)<|Zb (Zi<|Zb (pv 4)<|Zb Zg Za) Za) Za) #[nV,λa1 H4 j _ Y=>#[nV,λa2 H5 p _ U=>#[nV,λj1 H6 l _ N=>#[nV,λa3 H7 o _ M=>#[nV,λa4 H8 y _ L=>#[nV,λj2 H9 d _ J=>#[nV,λjA T0 x _ I=>?_]]]]]]];have J1:Wv T0 j1 ((n1,"left"),(n2,"a")):=#[a1,a2,x.at<|d.at<|y.at<|o.at N,x.at<|d.at<|y.at<|o.at<|l.at<|p.at Y,x.at<|d.at<|y.at<|o.at<|l.at U]
   have J2:Wv T0 j2 ((n1,"right"),(n3,"a")):=#[a3,a4,x.at J,x.at<|d.at<|y.at M,x.at<|d.at L]
   have s0A:=C5.trans<|j.trans<|p.trans<|l.trans<|o.trans<|y.trans<|d.trans x;have h7:=(j.trans<|p.trans<|l.trans<|o.trans<|y.trans<|d.trans x).at h7;clear G g i j p l o y d x Y U N M L J e1 e2 e3 C5;refine nR (oj 9 Z3<|Zr W0 (pv 9)<|Zn<|Zb (Zi<|Zb (Zi<|Zb (pv 3)<|Zb Zg Za)<|Zb (Zi<|Zb (pv 5)<|Zb (oi (pv 8) Ze) Za) Za)<|Zb (Zi<|Zb (Zi<|Zb (pv 5)<|Zb (oi (pv 8) Ze) Za)<|Zb (Zi<|Zb (pv 4)<|Zb Zg Za) Za) Za) #[nV,λb1 T1 A5 _ Y=>(.inl #[nS<|A5.at h7,rfl,nV,λb2 U7 A8 _ U=>#[nV,λj3 H13 m9 _ N=>(.inl #[nS<|m9.at<|A8.at<|A5.at h7,rfl,nV,λb3 T2 u8 _ M=>#[nV,λb4 H15 B8 _ L=>#[nV,λj4 H16 A9 _ J=>#[nV,λjB H17 e _ f8=>.inr<|.inr #[(A5.trans<|A8.trans<|m9.trans<|u8.trans<|B8.trans<|A9.trans e).at I,f8,nV,λjl H18 F8 _ f9=>?_]]]]])]])];have sAB:=A5.trans<|A8.trans<|m9.trans<|u8.trans<|B8.trans<|A9.trans<|e.trans F8;have J3:Wv H18 j3 ((n2,"b"),(n4,a)):=#[b1,b2,(u8.trans<|B8.trans<|A9.trans<|e.trans F8).at N,(A8.trans<|m9.trans<|u8.trans<|B8.trans<|A9.trans<|e.trans F8).at Y,(m9.trans<|u8.trans<|B8.trans<|A9.trans<|e.trans F8).at U]
   have J4:Wv H18 j4 ((n4,b),(n3,"b")):=#[b3,b4,(e.trans F8).at J,(B8.trans<|A9.trans<|e.trans F8).at M,(A9.trans<|e.trans F8).at L]
   have B5:Yo H18 jl [((n1,"left"),(n2,"a")),((n1,"right"),(n3,"a")),((n2,"b"),(n4,a)),((n4,b),(n3,"b"))]:=#[[j1,j2,j3,j4],f9,.cons (J1.mono sAB)<|.cons (J2.mono sAB)<|.cons J3<|.cons J4 .nil]
   have s0B:=s0A.trans sAB;clear J1 J2 J3 J4 A5 A8 m9 u8 B8 A9 e F8 sAB s0A Y U N M L J I f8 f9 h7;refine nR (oj 10 Z3<|Zn<|Zb (Zi<|Zb Zg<|Zb (pv 2) Za)<|Zb (Zi<|Zb Zg<|Zb (pv 3) Za)<|Zb (Zi<|Zb Zg<|Zb (pv 4) Za)<|Zb (Zi<|Zb Zg<|Zb (pv 5) Za) Za) #[nV,λc1 G1 G _ Y=>#[nV,λc2 G2 g _ U=>#[nV,λc3 G3 i _ N=>#[nV,λc4 G4 j _ M=>#[nV,λpl G5 p _ L=>?_]]]]];have w5:Zy G5 pl [("points",n1),("plain",n2),("plain",n3),("points",n4)]:=#[[c1,c2,c3,c4],L,.cons (p.at<|j.at<|i.at<|g.at Y)<|.cons (p.at<|j.at<|i.at U)<|.cons (p.at<|j.at N)<|.cons (p.at M) .nil]
   have sG:=G.trans<|g.trans<|i.trans<|j.trans p;refine nU (Zl<|Zi<|Zb (pv 10)<|Zb (pv 9)<|Zb (Zi<|Zb (pv 2)<|Zb Zg Za)<|Zb (Zi<|Zb (pv 5)<|Zb Zg Za) Za) #[nV,λie G6 l _ J=>#[nV,λoe G7 o _ I=>#[nV,λt G8 y _ f8=>?_]]];have B:=l.trans<|o.trans y;show q t G8 pl jl ie oe _ _ _ _ (s0B.trans<|sG.trans B) f8 (w5.mono B) (B5.mono<|sG.trans B) ((o.trans y).at J) (y.at I)<|.loop a b V8
  refine nR (Zx (Yg yx (pv 6) Ze<|Yv _) Zq Zk)<|Z7 (λ_=>?_) λ_=>?_
  ·refine nR (oj 7 Z3<|Zn<|Zb Zg<|Zb Zg<|Zb Zg Za) #[nV,λle H1 G _ e1=>?_];refine nR (oj 11 Z3<|Zr Ym (Zr Yn (pv 0) Ze) Ze) #[#[by lk,by lk],(by change(0:Int)<3;decide),?_];obtain⟨x,r0,r1,B4,P0,hpm⟩:∃x r0 r1:mF,pz [V.str "stem",.str "left",.str "right"] (2-c / 8%3)=some (.str x)/\(([("stem":mF),"left","right"].filter λe=>decide<|e≠x)=[r0,r1])/\[x,r0,r1].Perm ["stem","left","right"]:=by
    have h0:=qT (c / 8) (show(3:Int)≠0 by lk);have h1:=qZ (c / 8) (show(0:Int)<3 by lk);generalize c / 8%3=m at h0 h1;have:m=0\/m=1\/m=2:=by lia
    rcases this with rfl|rfl|rfl
    ·show#["right","stem","left",rfl,by left,by left]
    ·show#["left","stem","right",rfl,by left,by left]
    ·show#["stem","left","right",rfl,by left,by left]
   refine nR (oj 12 Z3<|oi (pv 7)<|Zr wl Ze<|pv 11)<|.inl #[nS e1,B4,?_];refine nR (oj 9 Z3<|Zn<|Zb (Zi<|Zb (Zi<|Zb (pv 2)<|Zb (pv 12) Za)<|Zb (Zi<|Zb (pv 3)<|Zb Zg Za) Za)<|Zb (Zi<|Zb (Zi<|Zb (pv 3)<|Zb Zg Za)<|Zb (Zi<|Zb (pv 4)<|Zb Zg Za) Za) Za) #[nV,λa1 H2 g _ Y=>#[nV,λa2 H3 i _ U=>#[nV,λj1 H4 j _ N=>#[nV,λa3 H5 p _ M=>#[nV,λa4 H6 l _ L=>#[nV,λj2 H7 o _ J=>#[nV,λjl H8 y _ I=>?_]]]]]]];have B5:Yo H8 jl [((n1,x),(n2,"b")),((n2,"a"),(n3,"a"))]:=#[[j1,j2],I,.cons #[a1,a2,(p.trans<|l.trans<|o.trans y).at N,(i.trans<|j.trans<|p.trans<|l.trans<|o.trans y).at Y,(j.trans<|p.trans<|l.trans<|o.trans y).at U]<|.cons #[a3,a4,y.at J,(l.trans<|o.trans y).at M,(o.trans y).at L] .nil]
   have s28:=g.trans<|i.trans<|j.trans<|p.trans<|l.trans<|o.trans y;have M5:=G.trans s28;have e1:=s28.at e1;clear G g i j p l o y Y U N M L J I s28;refine nR (xP 13 ["_law_end","_law_aside"] Z3 (pF 1 [12] rfl) (Yd<|pv 7) (pc 0) (sO<|Yg (r:=uY K) (wm hr) (pv 0) (pv 1)<|Yv _) (pv 0)) #[nS e1,λe hlr=>?_];refine Ydv (xs:=["stem","left","right"]) (x:=x) e1 (by lk) hlr (λH9 d e9=>?qq) ?aa ?bb
   case aa=>rfl
   case bb=>rfl
   rw[P0]at e9;obtain⟨kd,P3,hkm⟩:∃kd:mF,pz [V.str "stop",.str "gate"] (c / 24%2)=some (.str kd)/\kd∈[("stop":mF),"gate"]:=by
    obtain⟨w,C,h|h⟩:=CJ (n:=c / 24) (u:=V.str "stop") (v:=V.str "gate")
    ·show#["stop",by rw[C,h.2],by simp]
    ·show#["gate",by rw[C,h.2],by simp]
   refine nR (oj 10 Z3<|Zn<|Zb (Zi<|Zb Zg<|Zb (pv 2) Za)<|Zb (Zi<|Zb Zg<|Zb (pv 3) Za)<|Zb (Zi<|Zb (oi (Zn<|Zb Zg<|Zb Zg Za)<|Zr Ym (Zr Yn (pv 0) Ze) Ze)<|Zb (pv 4) Za) Za) #[nV,λc1 G1 G _ Y=>#[nV,λc2 G2 g _ U=>#[nV,λlk G3 i _ N=>#[#[by lk,by lk],(by change(0:Int)<2;decide),.inl #[nS N,P3,nV,λc3 G4 j _ M=>#[nV,λpl G5 p _ L=>?_]]]]]];have w5:Zy G5 pl [("points",n1),("plain",n2),(kd,n3)]:=#[[c1,c2,c3],L,.cons (p.at<|j.at<|i.at<|g.at Y)<|.cons (p.at<|j.at<|i.at U)<|.cons (p.at M) .nil]
   have sG:=G.trans<|g.trans<|i.trans<|j.trans p;obtain⟨a,b,ha,hb,V8⟩:∃a b:mF,pz [V.str r0,.str r1] (c / 48%2)=some (.str a)/\pz [V.str r0,.str r1] (1-c / 48%2)=some (.str b)/\[x,a,b].Perm ["stem","left","right"]:=by
    have h0:=qT (c / 48) (show(2:Int)≠0 by lk);have h1:=qZ (c / 48) (show(0:Int)<2 by lk);generalize c / 48%2=m at h0 h1;have:m=0\/m=1:=by lia
    rcases this with rfl|rfl
    ·show#[r0,r1,rfl,rfl,hpm]
    ·show#[r1,r0,rfl,rfl,((BC r0 r1 []).cons x).trans hpm]
   refine nU (Zl<|Zi<|Zb (pv 10)<|Zb (pv 9)<|Zb (Zi<|Zb (pv 2)<|Zb (oi (pv 13)<|Zr Ym (Zr Yn (pv 0) Ze) Ze) Za)<|Zb (Zi<|Zb (pv 2)<|Zb (oi (pv 13)<|Zr wl Ze<|Zr Ym (Zr Yn (pv 0) Ze) Ze) Za) Za) #[#[by lk,by lk],(by change(0:Int)<2;decide),.inl #[nS<|sG.at e9,ha,nV,λie G6 l _ J=>?_]];refine#[#[by lk,by lk],(by change(0:Int)<2;decide),.inl #[nS<|l.at<|sG.at e9,hb,nV,λoe G7 o _ I=>#[nV,λt G8 y _ f8=>?_]]];have B:=l.trans<|o.trans y;show q t G8 pl jl ie oe _ _ _ _ (M5.trans<|d.trans<|sG.trans B) f8 (w5.mono B) (B5.mono<|d.trans<|sG.trans B) ((o.trans y).at J) (y.at I)<|.siding x a b kd V8 hkm
  refine nR (oj 9 Z3<|Zn<|Zb (Zi<|Zb (Zi<|Zb (pv 2)<|Zb Zg Za)<|Zb (Zi<|Zb (pv 3)<|Zb Zg Za) Za)<|Zb (Zi<|Zb (Zi<|Zb (pv 4)<|Zb Zg Za)<|Zb (Zi<|Zb (pv 2)<|Zb Zg Za) Za) Za) #[nV,λa1 H2 g _ Y=>#[nV,λa2 H3 i _ U=>#[nV,λj1 H4 j _ N=>#[nV,λa3 H5 p _ M=>#[nV,λa4 H6 l _ L=>#[nV,λj2 H7 o _ J=>#[nV,λjl H8 y _ I=>?_]]]]]]];have B5:Yo H8 jl [((n1,"c"),(n2,"a")),((n3,"a"),(n1,"d"))]:=#[[j1,j2],I,.cons #[a1,a2,(p.trans<|l.trans<|o.trans y).at N,(i.trans<|j.trans<|p.trans<|l.trans<|o.trans y).at Y,(j.trans<|p.trans<|l.trans<|o.trans y).at U]<|.cons #[a3,a4,y.at J,(l.trans<|o.trans y).at M,(o.trans y).at L] .nil]
  have M5:=g.trans<|i.trans<|j.trans<|p.trans<|l.trans<|o.trans y;clear g i j p l o y Y U N M L J I;obtain⟨kd,P3,hkm⟩:∃kd:mF,pz [V.str "gate",.str "stop"] (c / 8%2)=some (.str kd)/\kd∈[("gate":mF),"stop"]:=by
   obtain⟨w,C,h|h⟩:=CJ (n:=c / 8) (u:=V.str "gate") (v:=V.str "stop")
   ·show#["gate",by rw[C,h.2],by simp]
   ·show#["stop",by rw[C,h.2],by simp]
  refine nR (oj 10 Z3<|Zn<|Zb (Zi<|Zb Zg<|Zb (pv 2) Za)<|Zb (Zi<|Zb Zg<|Zb (pv 3) Za)<|Zb (Zi<|Zb (oi (Zn<|Zb Zg<|Zb Zg Za)<|Zr Ym (Zr Yn (pv 0) Ze) Ze)<|Zb (pv 4) Za) Za) #[nV,λc1 G1 G _ Y=>#[nV,λc2 G2 g _ U=>#[nV,λlk G3 i _ N=>#[#[by lk,by lk],(by change(0:Int)<2;decide),.inl #[nS N,P3,nV,λc3 G4 j _ M=>#[nV,λpl G5 p _ L=>?_]]]]]];have w5:Zy G5 pl [("cross",n1),("gate",n2),(kd,n3)]:=#[[c1,c2,c3],L,.cons (p.at<|j.at<|i.at<|g.at Y)<|.cons (p.at<|j.at<|i.at U)<|.cons (p.at M) .nil]
  have sG:=G.trans<|g.trans<|i.trans<|j.trans p;refine nU (Zl<|Zi<|Zb (pv 10)<|Zb (pv 9)<|Zb (Zi<|Zb (pv 2)<|Zb Zg Za)<|Zb (Zi<|Zb (pv 2)<|Zb Zg Za) Za) #[nV,λie G6 l _ J=>#[nV,λoe G7 o _ I=>#[nV,λt G8 y _ f8=>?_]]];have B:=l.trans<|o.trans y;show q t G8 pl jl ie oe _ _ _ _ (M5.trans<|sG.trans B) f8 (w5.mono B) (B5.mono<|sG.trans B) ((o.trans y).at J) (y.at I)<|.cross kd hkm
end
end K65
end
section
namespace K65
open PySem L2 NM YM
section
variable {P:mS} {w:mP} {K:mK} {mg:mF->mJ mH} {nI:mO} (T:Tx K mg)
seal PySem.wpAny
def yP(xs:mD V)(k:Nat):rf xs (some (k:Int)) none=xs.drop k:=by
 unfold rf;rw[HT.sIx_nat,HT.sIx_none]
 by_cases h:k<=xs.length
 ·rw[Nat.min_eq_left h,tX (by rw[xY];show oq _)]
 ·rw[Nat.min_eq_right (by lia),HN,HI,List.drop_of_length_le<|by lia]
def BV(xs:mD V)(k:Nat):rf xs none (some (k:Int))=xs.take k:=by
 unfold rf;rw[HT.sIx_nat,HT.sIx_none,Jp,Nat.sub_zero]
 by_cases h:k<=xs.length
 ·rw[Nat.min_eq_left h]
 ·rw[Nat.min_eq_right (by lia),pQ,tX<|by lia]
def Zy.app(y:Paired (Zp H) ts ps)(x:Paired (Zp H) us qs)(e:H l=some (.lst<|ts.map V.ref++us.map V.ref)):Zy H l (ps++qs):=#[ts++us,by rw[oy];show e,qc y x]
def Yo.app(y:Paired (Wv H) ts ps)(x:Paired (Wv H) us qs)(e:H l=some (.lst<|ts.map V.ref++us.map V.ref)):Yo H l (ps++qs):=#[ts++us,by rw[oy];show e,qc y x]
inductive OO(K:mK):Sp
 | mk (cl) (cs:mD Int):vs=[.ref cl]->SqL K H cl (cs.map V.int)->(∀c∈cs,0<=c)->(∀(t:mG)(H':Hp)(pl jl:mG)(ps:mD Zh)(js:mD (Zh×Zh)),nH H H'->H' t=some (.tup [.ref pl,.ref jl])->Zy H' pl ps->Yo H' jl js->H pl=none->H jl=none->Net ps js []->ps.length<=38->(∀p∈ps,p=((("gate":mF),("g":mF)):Zh)\/p=((("gate":mF),("h":mF)):Zh)\/wR p.2 36)->Q (.ref t) H')->OO K vs H Q E
inductive Kq(H H5:Hp)(cl:Addr)(i:Nat):St->Hp->Prop
 | mk (pl jl e o4 o5 o6 o7 o8 ps js P5):nH H5 H'->Zy H' pl ps->Yo H' jl js->Zp H' e P5->we i ps js P5->H pl=none->H jl=none->Kq H H5 cl i [some (.ref cl),some<|.ref pl,some<|.ref jl,some<|.ref e,o4,o5,o6,o7,o8] H'
def WQ:T.eO.O P w mg nI 2 (OO K):=by
 refine T.eO.F.okW Yy ?_;rfl'
 ·obtain⟨cl,cs,rfl,z8,O6,q⟩:=h;intro X D;refine nR (oj 1 Yy<|Zn<|Zb (Zi<|Zb Zg<|Zb Zg Za) Za) #[nV,λt1 x s1 _ e1=>#[nV,λC p s2 n2 e2=>?_]];refine nR (oj 2 Yy<|Zn Za) #[nV,λjl0 x s3 n3 e3=>?_];refine nR (oj 3 Yy<|Zi<|Zb Zg<|Zb Zg Za) #[nV,λe0 H4 s4 n4 e4=>?_];have s04:=s1.trans<|s2.trans<|s3.trans s4;have hp0:Zy H4 C [("gate","g")]:=#[[t1],s4.at<|s3.at e2,.cons (s4.at<|s3.at<|s2.at e1) .nil]
  have hj0:Yo H4 jl0 []:=#[[],s4.at e3,.nil]
  have f0:H C=none:=s1.free n2;have f1:H jl0=none:=s1.free<|s2.free n3;clear s1 s2 s3 s4 n2 n3 n4 e1 e2 e3;refine nR (Y9 qo rfl (yQ rfl T.bM<|Zb (Xk (r:=su K) sE (pv 0) Wf<|X1 Ze) Za) (tN rfl<|Zu (oY 4 Yy)<|Zu (oY 5 Yy) Y5) Zq)<|.inr<|.inl #[s04.seq z8,λx H5 s5 p e5=>#[nS e5,?_]];rw[show(some (9:Int))=some ((9:Nat):Int)from rfl,BV,<-vU]at e5;have N6:=s04.trans s5;refine Ai (xs:=(cs.take 9).map V.int) (Kq H H5 cl)
   (.mk C jl0 e0 none none none none none _ _ _ (qu _) (hp0.mono s5) (hj0.mono s5) (s5.at e4) we.start f0 f1) ?_ ?_ ?_
  ·rintro i y H' _ ⟨_,_,_,_,_,_,_,_,_,_,_,x,_⟩;show nS<|x.at e5
  ·rintro i v y H6 hi ⟨pl,jl,e,o4,o5,o6,o7,o8,ps,js,P5,s6,w5,B5,T9,u,fp,fj⟩ tp H7 U n7 e7;rw[oF]at hi;obtain⟨c,hc,rfl⟩:=oN.mp hi;have hi9:i<9:=by
    have:=(pT.mp hc).1;rw[oZ]at this;lia
   have hc0:0<=c:=O6 c<|AQ<|qf hc;refine#[nX e7,rfl,rfl,?_];have U0:=s6.trans U;have w5:=w5.mono U;have B5:=B5.mono U;have T9:=T9.mono U;obtain⟨nm,D6⟩:∃nm:Nat->mF,nm=λj=>Ys ((["p","q","r","t"]:mD mF).getD j "p") (uF<|c / 96+5 * (j:Int)) (4 * i+j):=#[_,rfl]
   refine nR (oj 6 Yy<|Zn Za) #[nV,λD x s75 hD ki=>?_];let I1:IF:=λj y H'=>(∃o7,y=[some (.ref cl),some<|.ref pl,some<|.ref jl,some<|.ref e,some<|.int (i:Int),some<|.int c,some<|.ref D,o7,o8])/\H' D=some (.lst<|((List.range j).map nm).map V.str)/\nH H7 H'
   refine nR (Y9 qo rfl (Zyk rfl T.eZ<|Zb Ze Za) (oY 7 Yy) Zq)<|qC rfl #[by lk,by lk,HG (lo:=0) (n:=4) I1 #[#[_,rfl],ki,s75] ?_ ?_]
   ·rintro j y H8 hj ⟨⟨o7,rfl⟩,p,g⟩;obtain⟨kd,P3⟩:∃kd,kd=(["p","q","r","t"]:mD mF).getD j "p":=#[_,rfl]
    have a:j=0\/j=1\/j=2\/j=3:=by lia
    obtain⟨x,B,G⟩:∃x,pz (Str.cps "pqrt").toList ((0:Int)+(j:Int))=some x/\(#[(List.toArray [x])]:mF)=kd:=by
     rw[P3];rcases a with rfl|rfl|rfl|rfl<;>show#[_,rfl,rfl]
    have hkl:kd.length=1:=by
     rw[<-G]
     rfl
    refine nU (Zt<|rS (pv 6)<|Zv (Sm T) hr<|Zb (oi Zg<|pv 7)<|Zb (Zr W0 (Zr Yn (pv 5) Ze)<|Zr zc Ze<|pv 7)<|Zb (Zr W0 (Zr zc Ze<|pv 4)<|pv 7) Za) #[.inl #[rfl,_,nS p],.inr<|.inr #[_,_,x,rfl,rfl,sz (by left),B,#[by lk,by lk],.inl #[by lk,by lk],.inl #[.inl #[by lk,by lk],.inl #[kd,c / 96+5 * (j:Int),4 * i+j,?_,by lia,by lia,?_,by lia,p,?_,#[_,rfl],?_,λb o z=>?_]]]]
    ·change[V.str #[(List.toArray [x])],V.int<|c / 96+5 * (0+(j:Int)),V.int<|4 * (i:Int)+(0+(j:Int))]=_;rw[G,show(0:Int)+(j:Int)=j by lia,show 4 * (i:Int)+(j:Int)=((4 * i+j:Nat):Int) by lia]
    ·have:=Int.ediv_nonneg hc0 (show(0:Int)<=96 by lk);lia
    ·rw[nQ,nQ,BZ];show Zo (by lia)
    ·rw[Zc,Ae,oy,oy,D6,P3]
     rfl
    ·rw[Zd (Zf z hD)];show g.at z
   ·rintro y H8 ⟨⟨o7,rfl⟩,p,g⟩;have w5:=w5.mono g;have B5:=B5.mono g;have T9:=T9.mono g;refine nR (oj 8 Yy<|Zv (Zn2 T) hr<|Zb (pv 5)<|Zb (pv 6) Za) #[c,D,nm 0,nm 1,nm 2,nm 3,rfl,p,λt H9 bp bj ie oe qs ks a b d e9 hbp hbj hie hoe B=>?_];subst D6;have M4:=u.more (by lia) (by left) (by left) (by left) (by left) B;obtain⟨ts,ht,i9⟩:=w5.mono d;obtain⟨us,hu,g9⟩:=hbp;obtain⟨N,hj1,l⟩:=B5.mono d;obtain⟨js2,hj2,o⟩:=hbj;have lp:=u.pl;have lj:=u.jl;have lb:=B.len;have c1:=oz i9;have c2:=oz g9;have c3:=oz l;have c4:=oz o;refine nR (oj 1 Yy<|Zr W0 (pv 1)<|oi (pv 8) Ze)<|.inr<|.inl #[nX e9,rfl,.inr<|.inr #[ht,hu,?_,λpl' T0 Y n10 jk=>?_]]
    ·rw[nQ,nQ];show sz (by lia)
    refine nR (oj 2 Yy<|Zr W0 (Zr W0 (pv 2)<|oi (pv 8) Ze)<|Zn<|Zb (Zi<|Zb (pv 3)<|Zb (oi (pv 8) Ze) Za) Za)<|.inr<|.inl #[nX<|Y.at e9,rfl,.inr<|.inr #[Y.at hj1,Y.at hj2,?_,λjm T1 J a jF=>(.inr<|.inl #[nX<|J.at<|Y.at e9,rfl,nV,λtj U7 M n12 jp=>#[nV,λl2 H13 L n13 iT=>.inr<|.inr #[(M.trans L).at jF,iT,?_,λjl' T2 I n14 iD=>?_]]])]]
    ·rw[nQ,nQ];show sz (by lia)
    ·rw[oP,nQ,nQ];show sz (by simp;lia)
    have G:=J.trans<|M.trans<|L.trans I;have x:=Y.trans G;refine nU (oj 3 Yy<|oi (pv 8) Ze)<|.inr<|.inl #[nX<|x.at e9,rfl,.mk pl' jl' oe _ _ _ _ _ _ _ _ (U0.trans<|g.trans<|d.trans x) ?_ ?_ (hoe.mono x) M4 ?_ ?_]
    ·show Zy.app (ts:=ts) (us:=us) (oA i9 λ_ _ r=>r.mono x) (oA g9 λ_ _ r=>r.mono x)<|G.at jk
    ·have a:Paired (Wv T2) (N++js2) (js++ks):=qc (oA l λ_ _ r=>r.mono x)<|oA o λ_ _ r=>r.mono x;refine Yo.app (ts:=N++js2) (us:=[tj]) a (.cons #[e,ie,(L.trans I).at jp,(T9.mono d).mono x,hie.mono x] .nil) ?_;rw[oy];show iD
    ·show N6.free<|U0.free<|g.free<|d.free n10
    ·show N6.free<|U0.free<|g.free<|d.free<|(Y.trans<|J.trans<|M.trans L).free n14
  ·rintro y H6 ⟨pl,jl,e,o4,o5,o6,o7,o8,ps,js,P5,s6,w5,B5,T9,u,fp,fj⟩;rw[nQ,oZ]at u;have hm:min 9 cs.length<=9:=Nat.min_le_left ..;have G:=u.done (by lia);obtain⟨ts,ht,i9⟩:=w5;obtain⟨N,hj1,l⟩:=B5;have lp:=u.pl;have lj:=u.jl;have c1:=oz i9;have c3:=oz l;refine nU (Zl<|Zi<|Zb (Zr W0 (pv 1)<|Zn<|Zb (Zi<|Zb Zg<|Zb Zg Za) Za)<|Zb (Zr W0 (pv 2)<|Zn<|Zb (Zi<|Zb (pv 3)<|Zb (Zi<|Zb Zg<|Zb Zg Za) Za) Za) Za) #[nV,λt1 H7 U _ e7=>#[nV,λp H8 g _ x=>.inr<|.inr #[g.at<|U.at ht,x,?_,λpl' H9 d B e9=>#[nV,λt2 T0 Y _ jk=>#[nV,λt3 T1 J _ jF=>#[nV,λl2 U7 M _ jp=>.inr<|.inr #[(U.trans<|g.trans<|d.trans<|Y.trans<|J.trans M).at hj1,jp,?_,λjl' H13 L n13 iT=>#[nV,λt T2 I _ iD=>?_]]]]]]]]
   ·rw[nQ];show sz (by simp;lia)
   ·rw[nQ];show sz (by simp;lia)
   have j:=U.trans<|g.trans<|d.trans<|Y.trans<|J.trans M;have o:=j.trans<|L.trans I;have a:=Y.trans<|J.trans<|M.trans<|L.trans I;refine q t T2 pl' jl' _ _ (N6.trans<|s6.trans o) iD ?_ ?_ (N6.free<|s6.free<|U.free<|g.free B) (N6.free<|s6.free<|j.free n13) G ?_ ?_
   ·show Zy.app (ts:=ts) (us:=[t1]) (oA i9 λ_ _ r=>r.mono o) (.cons ((g.trans<|d.trans a).at e7) .nil)<|a.at e9
   ·show Yo.app (ts:=N) (us:=[t3]) (oA l λ_ _ r=>r.mono o) (.cons #[e,t2,(M.trans<|L.trans I).at jF,T9.mono o,(J.trans<|M.trans<|L.trans I).at jk] .nil)<|I.at iT
   ·rw[oP];simp;lia
   ·intro p hp;rcases pC.mp hp with z|z
    ·rcases u.nm p z with x|⟨kd,c,k,h1,h2,h3⟩
     ·show .inl x
     ·show .inr<|.inr #[kd,c,k,h1,by lia,h3]
    ·simp at z;subst z;show .inr<|.inl rfl
inductive Og(K:mK):Sp
 | mk (a) (ns:mD Int) (i j:Nat):vs=[.ref a,.int i,.int j]->SqL K H a (ns.map V.int)->ns.length<=63->i<=1000->j<=1000->(∀(p:mG)(H':Hp)(cs:mD Int),nH H H'->H p=none->H' p=some (.lst<|cs.map V.int)->(∀c∈cs,0<=c/\c<2147483629)->cs.length<=63->Q (.ref p) H')->Og K vs H Q E
def Tf:T.ee.O P w mg nI 2 (Og K):=by
 refine T.ee.F.okA ?_;rfl'
 ·obtain⟨a,x,i,j,rfl,Y,o,e,L,q⟩:=h;intro X D;have y:(if((x.map V.int).length:Int)<(j:Int)then((x.map V.int).length:Int)else(j:Int))=((min j x.length:Nat):Int):=by
   rw[nQ];split<;>lia
  refine nU (Zl<|qh ["_law_k","_law_script"] (pF 1 [0] rfl) (Fy rfl T.eZ<|Zb (pv 1)<|Zb (Z5 (Oc rfl) (by rfl) T.jj Ph<|Zb (pv 2)<|Zb (qt T.aY<|pv 0) Za) Za) (pc 0) X8 (Wd (BW T) hr rfl T.am.m T.am.F.kp T.am.b .nil Z4<|Zb (W2 (K:=K) rfl (pv 1)<|pv 0)<|Zb (pv 0) Za))<|.inl #[.inl Y,_,_,rfl,_,_,rfl,?_,λD l=>?_]
  ·rw[y];lia
  rw[y];obtain⟨m,M⟩:∃m:Nat,(((min j x.length:Nat):Int)-(i:Int)).toNat=m:=#[_,rfl]
  rw[M];refine Zut (lo:=(i:Int)) (n:=m) (λk r o=>(∃u:mD Int,r=u.map V.int/\u.length=k/\∀c∈u,0<=c/\c<2147483629)/\o D=some (.lst r)/\nH H o) #[#[[],rfl,rfl,by simp],Zc,pP l] ?_ ?_
  ·rintro k r U L ⟨⟨u,rfl,N,g⟩,d,p⟩;unfold ro;have a:i+k<x.length:=by lia
   refine#[pE rfl,.inl #[p.seq Y,(show pz _ _=some (.int<|x.getD (i+k) 0)from ?_),_,_,rfl,d,?_,#[u++[vA (x.getD (i+k) 0) ((i:Int)+(k:Int))],?_,?_,?_],Zc,λb o e=>?_]]
   ·rw[show(i:Int)+(k:Int)=((i+k:Nat):Int) by lia];refine Zm ?_;rw[oF,pJ a,ub,pJ a]
    rfl
   ·rw[nQ];show Zo (by lia)
   ·rw[oy];rfl
   ·rw[oP];simp;show N
   ·intro c o;rcases pC.mp o with z|z
    ·show g c z
    ·simp at z;rw[z];show#[SR _ _,To _ _]
   ·rw[Zd (Zf e l)];show p.at e
  ·rintro r U ⟨⟨u,rfl,N,g⟩,d,p⟩;show q D U u p l d g (by lia)
def Wx(h:Paired (Zp H) ts ps)(y:H c=some (.lst xs)):Paired (Zp<|nO H c o) ts ps :=
 oA h λt q r=>by
  unfold Zp at r ⊢;rw[Zd λz=>by rw[z,y]at r;cases r];show r
def Wv.off(h:Wv H t j)(r:H c=some (.lst xs)):Wv (nO H c o) t j:=by
 obtain⟨a,b,s,y,x⟩:=h;unfold Zp at y x;have u:∀{t:mG}{q:mD V},H t=some (.tup q)->t≠c:=λh z=>by rw[z,r]at h;cases h
 show#[a,b,by rw[Zd (u s)];show s,by unfold Zp;rw[Zd (u y)];show y,by unfold Zp;rw[Zd (u x)];show x]
def xO(h:Paired (Wv H) ts y)(x:H c=some (.lst xs)):Paired (Wv<|nO H c o) ts y:=oA h λ_ _ r=>r.off x
inductive QU:Sp
 | mk (pl jl rl c) (ps:mD Zh) (js:mD (Zh×Zh)) (Zs:mD Zh):vs=[.ref pl,.ref jl,.ref rl,.int c]->Zy H pl ps->Yo H jl js->Zy H rl Zs->pl≠jl->rl≠pl->rl≠jl->ps.length<=100->js.length<=200->Zs.length<=90->(∀(H':Hp)(D8:mD Zh)(F1:mD (Zh×Zh)),(∀b o,b≠pl->b≠jl->H b=some o->H' b=some o)->Zy H' pl (ps++D8)->Yo H' jl (js++F1)->xZ Zs Zs.length D8 F1->Q .non H')->QU  vs H Q E
def SX:T.dL.O P w mg nI 2 QU:=by
 refine T.dL.F.okW DH ?_;rfl'
 ·obtain⟨p,I,rl,c,ps,js,Zs,rfl,w5,B5,⟨rs,N7,M6⟩,n1,n2,n3,x,u,r,q⟩:=h;intro X D;have lrs:=oz M6;let I2:IF:=λi y H'=>(∃o4 o5 o6,y=[some (.ref p),some<|.ref I,some<|.ref rl,some<|.int c,o4,o5,o6])/\(∀b o,b≠p->b≠I->H b=some o->H' b=some o)/\∃d U,Zy H' p (ps++d)/\Yo H' I (js++U)/\xZ Zs i d U
  refine nU (Y9 qo rfl (yQ rfl T.bM<|Zb (pv 2) Za) (tN rfl<|Zu (oY 4 DH)<|Zu (oY 5 DH) Y5) Zq) #[nS N7,Ai (xs:=rs.map V.ref) I2
   #[#[none,none,none,rfl],λ_ _ _ _ z=>z,[],[],by rw[qM];show w5,by rw[qM];show B5,[],rfl,by simp,rfl,rfl] ?_ ?_ ?_]
  ·rintro i y H' _ ⟨_,M,_⟩;show nS<|M _ _ n2 n3 N7
  ·rintro i v y H2 hi ⟨⟨o4,o5,o6,rfl⟩,M,d,U,⟨n,ht,i9⟩,⟨us,hu,g9⟩,G⟩ tp H3 s3 n3' e3;rw[oF]at hi;obtain⟨te,N8,rfl⟩:=oN.mp hi;obtain⟨x,hy,u⟩:=pG M6 N8;have E6:i<rs.length:=(pT.mp N8).1;obtain⟨ks,hkl,hks,hnp,hnj⟩:=id G;have c1:=oz i9;have c2:=oz g9;rw[oP,hnp,nQ,BZ]at c1;rw[oP,hnj,nQ,BZ]at c2;have C:Zp H2 te x:=by
    unfold Zp at u ⊢;refine M _ _ (λz=>?_) (λz=>?_) u
    ·obtain⟨_,N,_⟩:=w5;rw[z,N]at u;cases u
    ·obtain⟨_,N,_⟩:=B5;rw[z,N]at u;cases u
   refine#[nX e3,rfl,rfl,?_];have fl:=Co i (by lia);refine nR (oj 6 DH<|Zr W0 Zg<|Xa Ev (by rfl) T.eU xu<|Zb (pv 4) Za) #[(i:Int),rfl,Fe (by lia),.inr<|.inl<|wQ rfl rfl #[sz (by change 1+(tR i).length<=1000;lia),?_]];obtain⟨L,P3,hkm⟩:∃L:mF,pz [V.str "gate",.str "stop",.str "gate"] (vA c (i:Int)%3)=some (.str L)/\(L ="gate"\/L ="stop"):=by
    have h0:=qT (vA c (i:Int)) (show(3:Int)≠0 by lk);have N:=qZ (vA c (i:Int)) (show(0:Int)<3 by lk);generalize vA c (i:Int)%3=m at h0 N;have:m=0\/m=1\/m=2:=by lia
    rcases this with rfl|rfl|rfl
    ·show#["gate",rfl,.inl rfl]
    ·show#["stop",rfl,.inr rfl]
    ·show#["gate",rfl,.inl rfl]
   refine nR (Zt<|rS (pv 0)<|Zi<|Zb (oi (Zn<|Zb Zg<|Zb Zg<|Zb Zg Za)<|Zr Ym (Wd (BW T) hr rfl T.am.m T.am.F.kp T.am.b .nil Z4<|Zb (pv 3)<|Zb (pv 4) Za) Ze)<|Zb (pv 6) Za) #[.inl #[rfl,_,nS<|s3.at ht],nV,λlk H4 s4 n4 e4=>#[c,(i:Int),rfl,(by change(0:Int)<3;decide),.inl #[nS e4,P3,nV,λg a s5 n5 e5=>#[s5.at<|s4.at<|s3.at ht,?_,?_]]]]
   ·rw[nQ];show Zo (by lia)
   have J:=s3.trans<|s4.trans s5;have l:=J.at ht;have B:Paired (Zp a) n (ps++d):=oA i9 λ_ _ r=>r.mono J
   have hus5:Paired (Wv a) us (js++U):=oA g9 λ_ _ r=>r.mono J
   have p6:Paired (Zp<|nO a p<|.lst<|n.map V.ref++[.ref g]) (n++[g]) ((ps++d)++[(L,W4 i)]):=Wx (qc B<|.cons e5 .nil) l;have j6:=xO (o:=.lst<|n.map V.ref++[.ref g]) hus5 l;have j:nO a p (.lst<|n.map V.ref++[.ref g]) I=some (.lst<|us.map V.ref):=(Zd<|pH n1).trans (J.at hu);have k6:∀b o,b≠p->b≠I->H b=some o->nO a p (.lst<|n.map V.ref++[.ref g]) b=some o:=λb o b1 b2 z=>(Zd b1).trans (J.at<|M b o b1 b2 z)
   have y6:Zp (nO a p<|.lst<|n.map V.ref++[.ref g]) te x:=by
    have z:=C.mono J;unfold Zp at z ⊢;show(Zd λw=>by rw[w,l]at z;cases z).trans z
   have e6:nO a p (.lst<|n.map V.ref++[.ref g]) p=some (.lst<|(n++[g]).map V.ref):=by rw[Zc,oy];rfl
   generalize(nO a p<|.lst<|n.map V.ref++[.ref g])=H6 at p6 j6 j k6 y6 e6;refine nU (Zt<|rS (pv 1)<|Zi<|Zb (pv 5)<|Zb (Zi<|Zb (pv 6)<|Zb Zg Za) Za) #[.inl #[rfl,_,nS j],nV,λt7 H7 Y n7 e7=>#[nV,λt8 H8 e n8 e8=>#[e.at<|Y.at j,?_,#[_,_,_,rfl],λb o b1 b2 z=>?_,d++[(L,W4 i)],U++[(x,(W4 i,("a":mF)))],#[n++[g],?_,?_],#[us++[t8],?_,?_],G.more hkm hy]]]
   ·rw[nQ];show Zo (by lia)
   ·show(Zd b2).trans (e.at<|Y.at<|k6 b o b1 b2 z)
   ·show(Zd n1).trans (e.at<|Y.at e6)
   ·rw[<-qg];show Wx (oA p6 λ_ _ r=>r.mono<|Y.trans e)<|e.at<|Y.at j
   ·rw[Zc,oy];rfl
   ·rw[<-qg];show xO (qc (oA j6 λ_ _ r=>r.mono<|Y.trans e)<|.cons #[te,t7,e8,y6.mono<|Y.trans e,e.at e7] .nil)<|e.at<|Y.at j
  ·rintro y H2 ⟨⟨o4,o5,o6,rfl⟩,M,d,U,N,x,G⟩;rw[nQ,lrs]at G;show q H2 d U M N x G
def pW(q:Zh):Tr:=.tup [.str q.1,.str q.2]
def EW{H:Hp}{ts:mD mG}{ps:mD Zh}(h:Paired (Zp H) ts ps):Paired (Im K H 1) (ps.map pW) (ts.map V.ref):=by
 induction h with
 | nil=>show .nil
 | cons r _ y=>show .cons (wp (nX r)<|.cons (.str _)<|.cons (.str _) .nil) y
def Zy.im{H:Hp}{l:mG}{ps:mD Zh}(h:Zy H l ps):Im K H 2 (.lst<|ps.map pW) (.ref l):=let⟨_,y,x⟩:=h;rM (nS y) (EW x)
def Qx{l D:mG}{xs:mD mF}{x:mF}{n:Hp}{Q:VK}{y:St}(N:n l=some (.lst<|xs.map V.str))(H:xs.length<=100)(c:n D=none)(q:∀s,nH n s->Zy s D (xs.map λe=>(x,e))->Q (.ref D) s){fr:St->St}(M:fr y=[none,some<|.str x]){a:TE}(L:a=KJ (uV (sJ 1)<|uV (sJ 0) xI)) :
  sj (vJ K l) fr (rT 0) BE a Q y n D:=by
 refine Yp (xs:=xs.map V.str) (λi j s=>(∃p:mD mG,j=p.map V.ref/\Paired (Zp s) p ((xs.take i).map λe=>(x,e)))/\s D=some (.lst j)/\nH n s) #[#[[],rfl,.nil],Zc,pP c] ?_ ?_ ?_
 ·rintro i j s _ ⟨_,_,d⟩;show nS<|d.at N
 ·rintro k v j s Y ⟨⟨p,rfl,h⟩,U,d⟩;rw[oF]at Y;obtain⟨u,J,rfl⟩:=oN.mp Y;unfold ro;rw[M,L];have G:p.length<=100:=by
   have:=oz h;rw[nQ,oZ]at this;lia
  refine#[pE rfl,nV,λt u g r I=>#[g.at U,by rw[nQ];show Zo (by lia),#[p++[t],by rw[oy];rfl,?_],Zc,λb o e=>?_]]
  ·rw[oW,J,oy];show Wx (qc (oA h λ_ _ r=>r.mono g)<|.cons I .nil)<|g.at U
  ·rw[Zd (Zf e c)];show g.at<|d.at e
 ·rintro j u ⟨⟨p,rfl,h⟩,r,o⟩;rw[nQ,pQ]at h;show q u o #[p,r,h]
def Zp.offL{H:Hp}{c t:mG}{o:HO}{xs:mD V}{q:Zh}(h:Zp H t q)(y:H c=some (.lst xs)):Zp (nO H c o) t q:=by
 unfold Zp at h ⊢;show(Zd λz=>by rw[z,y]at h;cases h).trans h
def Zy.offL{H:Hp}{c l:mG}{o:HO}{xs:mD V}{ps:mD Zh}(h:Zy H l ps)(y:H c=some (.lst xs))(x:l≠c):Zy (nO H c o) l ps:=let⟨u,s,r⟩:=h;#[u,(Zd x).trans s,Wx r y]
def Zy.erased{H:Hp}{l:mG}{ts:mD mG}{ps:mD Zh}(y:H l=some (.lst<|ts.map V.ref))(x:Paired (Zp H) ts ps)(k:Nat):Zy (nO H l<|.lst<|(ts.map V.ref).eraseIdx k) l (ps.eraseIdx k):=#[ts.eraseIdx k,by rw[Zc,Nz],Wx (Zri x k) y]
def QM{k n:Nat}(h:k<n):seqIndex? (k:Int) n=some k:=by
 unfold seqIndex?;have y:¬(k:Int)<0:=by lia
 simp only[y,rX];rw[og (by simp;lia)];simp
def yN{a:Int}{n:Nat}(h:0<n):∃k:Nat,a%(n:Int)=(k:Int)/\k<n:=by
 have y:=qT a (show(n:Int)≠0 by lia);have x:=qZ a (show(0:Int)<n by lia);show#[(a%(n:Int)).toNat,by lia,by lia]
def Zs6{y x:Type}{R:y->x->Prop}{l₁:mD y}{l₂:mD x}(h:Paired R l₁ l₂)(n:Nat):Paired R (l₁.drop n) (l₂.drop n):=by
 induction n generalizing l₁ l₂ with
 | zero=>show h
 | succ n u =>
  cases h with
  | nil=>show .nil
  | cons _ t=>show u t
def Nf{l D:mG}{ts:mD mG}{qs:mD Zh}{keep:Zh->Bool}{w:mJ V}{s:Hp}{Q:VK}{y:St}(J:s l=some (.lst<|ts.map V.ref))(a:Paired (Zp s) ts qs)(G:qs.length<=100)(Y:s D=none)(q:∀u,nH s u->Zy u D (qs.filter keep)->Q (.ref D) u){fr:St->St}(I:fr y=[none,w]){U:TT}(g:∀(t:mG)(x:Zh)(u:Hp)(R:Bool->Hp->Prop),nH s u->Zp u t x->x∈qs->R (keep x) u->U [some (.ref t),w] u R) :
  sj (vJ K l) fr (rT 0) U (sJ 0) Q y s D:=by
 have d:=oz a;refine Yp (xs:=ts.map V.ref) (λi h u=>(∃p:mD mG,h=p.map V.ref/\Paired (Zp s) p ((qs.take i).filter keep))/\u D=some (.lst h)/\nH s u) #[#[[],rfl,.nil],Zc,pP Y] ?_ ?_ ?_
 ·rintro i h u _ ⟨_,_,n⟩;show nS<|n.at J
 ·rintro k v h u N ⟨⟨p,rfl,j⟩,M,n⟩;rw[oF]at N;obtain⟨t,H,rfl⟩:=oN.mp N;obtain⟨x,r,L⟩:=pG a H;unfold ro;rw[I];have E:p.length<=100:=by
   rw[oz j];have:=yI keep<|qs.take k;rw[oZ]at this;lia
  refine#[pE rfl,g t x u _ n (L.mono n) (qf r)<|Z7 (λc=>?_) λc=>?_]
  ·refine#[M,by rw[nQ];show Zo (by lia),#[p++[t],by rw[oy];rfl,?_],Zc,λb o e=>?_]
   ·rw[oW,r,vw];refine qc j ?_;rw[show(some x).toList=[x]from rfl,tJ,og c];show .cons L .nil
   ·rw[Zd (Zf e Y)];show n.at e
  ·refine#[#[p,rfl,?_],M,n];rw[oW,r,vw,show(some x).toList=[x]from rfl,tJ,nY c,xX,qM];show j
 ·rintro h e ⟨⟨p,rfl,j⟩,c,o⟩;rw[nQ,d,pQ]at j;show q e o #[p,c,oA j λ_ _ r=>r.mono o]
inductive RG(K:mK):Sp
 | mk (cl) (cs:mD Int):vs=[.ref cl]->SqL K H cl (cs.map V.int)->(∀c∈cs,0<=c)->cs.length<=63->(∀(t:mG)(H':Hp)(pl jl:mG)(ps:mD Zh)(js:mD (Zh×Zh)) (n:Nat),nH H H'->H' t=some (.tup [.ref pl,.ref jl])->Zy H' pl ps->Yo H' jl js->H pl=none->H jl=none->Net ps js []->ps.length<=39->(∀p∈ps,IP p.2 63\/∃j,j<90/\p.2=W4 j)->Q (.ref t) H')->RG K vs H Q E
inductive Mx(H:Hp)(cl pl jl:Addr)(i:Nat):St->Hp->Prop
 | mk (rl o4 o5 o6 o7 o8 o9 S5 N9 ps js Zs):nH H H'->Zy H' pl ps->Yo H' jl js->Zy H' rl Zs->Xo i (2 * i) ps js Zs->H rl=none->rl≠pl->rl≠jl->Mx H cl pl jl i [some (.ref cl),some<|.ref pl,some<|.ref jl,some<|.ref rl,o4,o5,o6,o7,o8,o9,S5,N9] H'
inductive PM(H:Hp)(pl jl rl lf:Addr)(i:Nat)(pn:List Zh)(H':Hp):Prop
 | mk (rest' fresh' js'):nH H H'->Zy H' pl pn->Yo H' jl js'->Zy H' rl rest'->Zy H' lf fresh'->Xo (i+1) (2 * i+1) pn js' (rest'++fresh')->PM H pl jl rl lf i pn H'
def UR:T.ei.O P w mg nI 3 (RG K):=by
 refine T.ei.F.okW Yk ?_;rfl'
 ·obtain⟨cl,cs,rfl,z8,O6,x,q⟩:=h;intro X D;refine nR (oj 1 Yk<|Zn Za) #[nV,λe x s1 n1 e1=>?_];refine nR (oj 2 Yk<|Zn Za) #[nV,λg x s2 n2 e2=>?_];refine nR (oj 3 Yk<|Zn Za) #[nV,λrl0 H3 s3 n3 e3=>?_];have C5:=s1.trans<|s2.trans s3;have fp:H e=none:=n1;have fj:H g=none:=s1.free n2;have fr0:H rl0=none:=s1.free<|s2.free n3;have npj:e≠g:=Zf e1 n2;have nrp:rl0≠e:=pH<|Zf (s2.at e1) n3;have nrj:rl0≠g:=pH<|Zf e2 n3;have hp0:Zy H3 e []:=#[[],s3.at<|s2.at e1,.nil]
  have hj0:Yo H3 g []:=#[[],s3.at e2,.nil]
  have hr0:Zy H3 rl0 []:=#[[],e3,.nil]
  clear s1 s2 s3 n1 n2 n3 e1 e2 e3;refine nR (Y9 qo rfl (yQ rfl T.bM<|Zb (pv 0) Za) (tN rfl<|Zu (oY 4 Yk)<|Zu (oY 5 Yk) Y5) Zq) #[C5.seq z8,Ai (xs:=cs.map V.int) (Mx H cl e g)
   (.mk rl0 none none none none none none none none _ _ _ C5 hp0 hj0 hr0 Xo.start fr0 nrp nrj) ?_ ?_ ?_]
  ·rintro i y H' _ ⟨_,_,_,_,_,_,_,_,_,_,_,_,sm,_⟩;show sm.seq z8
  ·rintro i v y H4 hi ⟨rl,o4,o5,o6,o7,o8,o9,S5,N9,ps,js,Zs,s4,w5,B5,N7,l,frl,d,Y⟩ tp H5 s5 n5 e5;rw[oF]at hi;obtain⟨c,hc,rfl⟩:=oN.mp hi;have hi63:i<63:=by
    have:=(pT.mp hc).1;lia
   have hc0:0<=c:=O6 c<|qf hc;refine#[nX e5,rfl,rfl,?_];obtain⟨N,P3,hkm⟩:∃N:mF,pz [V.str "plain",.str "plain",.str "plain",.str "points",.str "points",.str "cross",.str "gate",.str "stop"] (c%8)=some (.str N)/\N∈rh:=by
    have h0:=qT c (show(8:Int)≠0 by lk);have h1:=qZ c (show(0:Int)<8 by lk);generalize c%8=m at h0 h1;have:m=0\/m=1\/m=2\/m=3\/m=4\/m=5\/m=6\/m=7:=by lia
    rcases this with rfl|rfl|rfl|rfl|rfl|rfl|rfl|rfl<;>show#[_,rfl,by simp[rh]]
   obtain⟨u,p,g3,I,G,C⟩:=CW N hkm;refine nR (oj 6 Yk<|oi (Zn<|Zb Zg<|Zb Zg<|Zb Zg<|Zb Zg<|Zb Zg<|Zb Zg<|Zb Zg<|Zb Zg Za)<|Zr Ym (pv 5) Ze) #[nV,λlk H6 s6 n6 e6=>#[(by change(0:Int)<8;decide),.inl #[nS e6,P3,?_]]];refine nR (oj 7 Yk<|Zv (ND T) hr<|Zb (pv 6) Za) #[N,rfl,λle u s7 n7 e7=>?_];have s47:=s5.trans<|s6.trans s7;have U0:=s4.trans s47;have nl1:e≠le:=let⟨_,z,_⟩:=w5;Zf ((s5.trans s6).at z) n7;have nl2:g≠le:=let⟨_,z,_⟩:=B5;Zf ((s5.trans s6).at z) n7;have w5:=w5.mono s47;have B5:=B5.mono s47;have N7:=N7.mono s47;obtain⟨ts,ht,i9⟩:=w5;obtain⟨rs,T4,M6⟩:=N7;have c1:=oz i9;have c2:=oz M6;refine nR (Zx (Yg xo (Zr W0 (Zr W0 (qt T.aY<|pv 1)<|qt T.aY<|pv 3)<|qt T.aY<|pv 7) Ze<|Yv _) Zq Zk)<|.inl #[.inl<|nS ht,.inl #[.inl<|nS T4,.inl<|.inl #[.inl<|nS e7,.inl<|Z7 (λU8=>?_) λU8=>?_]]]
   ·show nU Vw<|.mk rl _ _ _ _ _ _ _ _ ps js Zs U0 #[ts,ht,i9] B5 #[rs,T4,M6] (l.mono (by lia)<|by lia) frl d Y
   have U8:ps.length+Zs.length+(Yq N).length<=38:=by
    have z:¬(((ts.map V.ref).length:Int)+((rs.map V.ref).length:Int)+(((Yq N).map V.str).length:Int)>38):=λz=>U8<|oO z
    rw[nQ,nQ,nQ]at z;lia
   obtain⟨n,hn⟩:∃n,n=Ys N (uF<|c / 8) i:=#[_,rfl]
   refine nR (oj 8 Yk<|Zv (Sm T) hr<|Zb (pv 6)<|Zb (Zr Yn (pv 5) Ze)<|Zb (pv 4) Za) #[#[by lk,by lk],N,c / 8,i,rfl,g3,by lia,Int.ediv_nonneg hc0 (by lk),by lia,?_];rw[<-hn];refine nR (Zt<|rS (pv 1)<|Zi<|Zb (pv 6)<|Zb (pv 8) Za) #[.inl #[rfl,_,nS ht],nV,λt8 H8 s8 n8 e8=>#[s8.at ht,?_,?_]]
   ·rw[nQ];show Zo (by lia)
   have ok8:=l.add (c:=uF<|c / 8) (by lia) hkm U8;rw[<-hn]at ok8;obtain⟨us,hu,g9⟩:=B5.mono s8;have p9:Zy (nO H8 e<|.lst<|ts.map V.ref++[.ref t8]) e (ps++[(N,n)]):=#[ts++[t8],by rw[Zc,oy];rfl,Wx (qc (oA i9 λ_ _ r=>r.mono s8)<|.cons e8 .nil)<|s8.at ht]
   have j9:Yo (nO H8 e<|.lst<|ts.map V.ref++[.ref t8]) g js:=#[us,(Zd<|pH npj).trans hu,xO g9<|s8.at ht]
   have r9:Zy (nO H8 e<|.lst<|ts.map V.ref++[.ref t8]) rl Zs:=#[rs,(Zd d).trans (s8.at T4),Wx (oA M6 λ_ _ r=>r.mono s8)<|s8.at ht]
   have e9:nO H8 e (.lst<|ts.map V.ref++[.ref t8]) le=_:=(Zd<|pH nl1).trans (s8.at e7);have P6:nH H (nO H8 e<|.lst<|ts.map V.ref++[.ref t8]):=λb o z=>(Zd<|Zf z fp).trans (s8.at<|U0.at z)
   generalize(nO H8 e<|.lst<|ts.map V.ref++[.ref t8])=H9 at p9 j9 r9 e9 P6;have M4:=l;clear i9 M6 ht T4 hu g9 s8 s47 U0 B5 l n8 e8;refine nR (xP 9 ["_law_end","_law_name"] Yk (pF 1 [8] rfl) (Yd<|pv 7) (pc 0) X8 (Zi<|Zb (pv 1)<|Zb (pv 0) Za)) #[nS e9,λlf U9=>?_];refine Qx (xs:=Yq N) (x:=n) e9 (by lia) U9 (λu y7 f10=>?qq) ?aa ?bb
   case aa=>rfl
   case bb=>rfl
   have p10:=p9.mono y7;have j10:=j9.mono y7;have r10:=r9.mono y7;have s010:=P6.trans y7;have flf:H lf=none:=P6.free U9;have nfp:lf≠e:=let⟨_,z,_⟩:=p9;pH (Zf z U9);have nfj:lf≠g:=let⟨_,z,_⟩:=j9;pH (Zf z U9);have nfr:lf≠rl:=let⟨_,z,_⟩:=r9;pH (Zf z U9);clear p9 j9 r9 P6 e9 y7;let I3:IC:=λy H'=>y=[some (.ref cl),some<|.ref e,some<|.ref g,some<|.ref rl,some<|.int i,some<|.int c,some<|.str N,some<|.ref le,some<|.str n,some<|.ref lf,S5,N9]/\PM H e g rl lf i (ps++[(N,n)]) H'
   refine qk I3 ?_ ?_
   ·refine qp (Zx (rV hr (pv 3)<|Zn Za) Zq Zk) #[nV,λl0 T1 A5 u p=>.inr<|.inl #[2,.lst<|Zs.map pW,.lst [],by lk,.inr #[_,_,rfl,rfl],Zy.im<|r10.mono A5,rM (nS p) .nil,Z7 (λu6=>?_) λu6=>?_]]
    ·have u6:0<Zs.length:=by
      cases Zs with
      | nil=>simp at u6
      | cons=>simp
     obtain⟨U1,p,hrs1⟩:=r10.mono A5;obtain⟨u,hf1,I⟩:=f10.mono A5;obtain⟨us1,hu1,hus1⟩:=j10.mono A5;have cr:=oz hrs1;have cf:=oz I;have cu:=oz hus1;rw[nQ]at cf;have hjl1:=M4.jl;obtain⟨G,hk1,C⟩:=yN (a:=c / 24) (n:=(U1.map V.ref).length) (by rw[nQ];lia);obtain⟨k2,U5,B⟩:=yN (a:=c / 100) (n:=(u.map V.ref).length) (by rw[nQ];lia);obtain⟨ta,hta⟩:∃ta,U1[G]? =some ta:=#[_,pJ (by rw[nQ]at C;show C)]
     obtain⟨tb,htb⟩:∃tb,u[k2]? =some tb:=#[_,pJ (by rw[nQ]at B;show B)]
     obtain⟨qa,hqa,hqat⟩:=pG hrs1 hta;obtain⟨qb,hqb,hqbt⟩:=pG I htb;refine nU (Zt<|rS (pv 2)<|Zi<|Zb (yb vX BL Ie OL (pv 3)<|Zb (Zr Ym (Zr Yn (pv 5) Ze)<|qt T.aY<|pv 3) Za)<|Zb (yb vX BL Ie OL (pv 9)<|Zb (Zr Ym (Zr Yn (pv 5) Ze)<|qt T.aY<|pv 9) Za) Za) #[.inl #[rfl,_,nS hu1],.inl #[rfl,_,nS p],#[by lk,by lk],.inl #[.inl<|nS p,by lia,rl,_,_,G,.ref ta,rfl,rfl,p,by lia,by rw[nQ]at C;lia,by rw[hk1];show QM C,by rw[oF,hta];rfl,?_]];have r12:=Zy.erased p hrs1 G;have f12:=Zy.offL (o:=.lst<|(U1.map V.ref).eraseIdx G) #[u,hf1,I] p nfr;have p12:=(p10.mono A5).offL (o:=.lst<|(U1.map V.ref).eraseIdx G) p (pH d);have hu12:nO T1 rl (.lst<|(U1.map V.ref).eraseIdx G) g=_:=(Zd<|pH Y).trans hu1;have hus12:=xO (o:=.lst<|(U1.map V.ref).eraseIdx G) hus1 p;have C9:nO T1 rl (.lst<|(U1.map V.ref).eraseIdx G) lf=_:=(Zd nfr).trans hf1;have hfs12:=Wx (o:=.lst<|(U1.map V.ref).eraseIdx G) I p;have a12:=hqat.offL (o:=.lst<|(U1.map V.ref).eraseIdx G) p;have b12:=hqbt.offL (o:=.lst<|(U1.map V.ref).eraseIdx G) p;have A8:nH H (nO T1 rl<|.lst<|(U1.map V.ref).eraseIdx G):=λb o z=>(Zd<|Zf z frl).trans (A5.at<|s010.at z)
     generalize(nO T1 rl<|.lst<|(U1.map V.ref).eraseIdx G)=U7 at r12 f12 p12 hu12 hus12 C9 hfs12 a12 b12 A8;refine#[.inl #[rfl,_,nS C9],#[by lk,by lk],.inl #[.inl<|nS C9,by lia,lf,_,_,k2,.ref tb,rfl,rfl,C9,by lia,by rw[nQ]at B;lia,by rw[U5];show QM B,by rw[oF,htb];rfl,?_]];have f13:=Zy.erased C9 hfs12 k2;have r13:=r12.offL (o:=.lst<|(u.map V.ref).eraseIdx k2) C9<|pH nfr;have p13:=p12.offL (o:=.lst<|(u.map V.ref).eraseIdx k2) C9<|pH nfp;have hu13:nO U7 lf (.lst<|(u.map V.ref).eraseIdx k2) g=_:=(Zd<|pH nfj).trans hu12;have hus13:=xO (o:=.lst<|(u.map V.ref).eraseIdx k2) hus12 C9;have a13:=a12.offL (o:=.lst<|(u.map V.ref).eraseIdx k2) C9;have b13:=b12.offL (o:=.lst<|(u.map V.ref).eraseIdx k2) C9;have m9:nH H (nO U7 lf<|.lst<|(u.map V.ref).eraseIdx k2):=λb o z=>(Zd<|Zf z flf).trans (A8.at z)
     generalize(nO U7 lf<|.lst<|(u.map V.ref).eraseIdx k2)=H13 at f13 r13 p13 hu13 hus13 a13 b13 m9;refine#[nV,λtj T2 U n14 iD=>#[U.at hu13,?_,?_]]
     ·rw[nQ];show Zo (by lia)
     have hu14:=U.at hu13;have hqn:qb.1=n:=by
      rw[oF]at hqb;obtain⟨x,_,rfl⟩:=oN.mp hqb
      rfl
     have hqo:qa.1≠qb.1:=by
      rw[hqn,hn];have h1:=BN<|M4.net.perm.subset<|rN _<|qf hqa;show λz=>M4.new (by lia) hkm<|z ▸ h1
     refine#[rfl,.mk (Zs.eraseIdx G) _ (js++[(qa,qb)]) (λb o z=>(Zd<|Zf z fj).trans (U.at<|m9.at z)) ((p13.mono U).offL hu14 npj) #[us1++[tj],?_,?_] ((r13.mono U).offL hu14 Y) ((f13.mono U).offL hu14 nfj)<|ok8.join (Yal hqa hqb) hqo]
     ·rw[Zc,oy];rfl
     ·show xO (qc (oA hus13 λ_ _ r=>r.mono U)<|.cons #[ta,tb,iD,a13.mono U,b13.mono U] .nil) hu14
    ·show#[rfl,.mk Zs _ js (s010.trans A5) (p10.mono A5) (j10.mono A5) (r10.mono A5) (f10.mono A5)<|ok8.mono (oq _)<|by lia]
   rintro y U7 ⟨rfl,⟨rest2,fresh2,js2,s012,p12,j12,⟨u,hr12,hrs2⟩,⟨u,C9,hfs2⟩,P7⟩⟩;have sm12:=P7.sum;have cr:=oz hrs2;have cf:=oz hfs2;rw[oP,oP]at sm12;refine nR (oj 3 Yk<|Zr W0 (pv 3)<|pv 9)<|.inr<|.inr #[hr12,C9,?_,λrm H13 m9 n13 iT=>?_]
   ·rw[nQ,nQ];show sz (by lia)
   have r13:Zy H13 rm (rest2++fresh2):=Zy.app (oA hrs2 λ_ _ r=>r.mono m9) (oA hfs2 λ_ _ r=>r.mono m9) iT;have p13:=p12.mono m9;have j13:=j12.mono m9;have s013:=s012.trans m9;have frm:H rm=none:=s012.free n13;have nmp:rm≠e:=let⟨_,z,_⟩:=p12;pH (Zf z n13);have nmj:rm≠g:=let⟨_,z,_⟩:=j12;pH (Zf z n13);clear hr12 C9 hrs2 hfs2 p12 j12 s012 m9 p10 j10 r10 f10 s010 iT;obtain⟨op,hop⟩:∃op,op=rest2++fresh2:=#[_,rfl]
   rw[<-hop]at r13 P7;have hopl:op.length<=39:=by rw[hop,oP];lia
   clear hop sm12 cr cf;obtain⟨rs,hrm,M6⟩:=r13;have crs:=oz M6;refine nR (xP 10 ["_law_end","_law_rest"] Yk (pF 1 [3] rfl) (Yd<|Xk (r:=su K) sE (pv 3) (X1 Ze) Wf) (pc 0) (sO<|Yg (r:=uY K) (wm hr) (W2 (K:=K) rfl (pv 0) Ze) (W2 (K:=K) rfl (W2 (K:=K) rfl (pv 1) Ze) Ze)<|Yv _) (pv 0))<|.inr<|.inl #[nS hrm,λu T2 U n14 iD=>#[nS iD,λD hD=>?_]];rw[show(some (1:Int))=some ((1:Nat):Int)from rfl,yP,<-Cd]at iD;have Q9:Paired (Zp T2) rs op:=oA M6 λ_ _ r=>r.mono U
   have M:=U.at hrm;obtain⟨q0,hq0⟩:∃q0,q0=op.getD 0 ("",""):=#[_,rfl]
   refine Nf (keep:=λx=>decide<|x.1≠q0.1) (w:=some<|.ref rm) iD (Zs6 Q9 1) (by rw[xY];lia) hD (λH15 B8 f15=>?q2) ?a2 ?b2
   case a2=>rfl
   case b2 =>
    intro t x H' R sm hx hm hR;cases Q9 with
    | nil=>simp at hm
    | cons r0 _ =>
     subst hq0;refine(.inr<|.inl #[nX hx,rfl,.inl #[nS<|sm.at M,(show pz _ ((0:Nat):Int)=_ from Zm rfl),.inr<|.inl #[nX<|sm.at r0,rfl,.inl #[rfl,?_]]]]);change R _ H';simpa using hR
   obtain⟨S6,hnear⟩:∃S6,S6=(op.drop 1).filter λx=>decide (x.1≠q0.1):=#[_,rfl]
   rw[<-hnear]at f15;have p15:=(p13.mono U).mono B8;have j15:=(j13.mono U).mono B8;have L:=B8.at M;have J:Paired (Zp H15) rs op:=oA Q9 λ_ _ r=>r.mono B8
   have s015:=s013.trans<|U.trans B8;clear p13 j13 s013 U B8 M Q9 hrm M6 iD;refine nU (Zx (rc<|wk (rV hr (pv 10)<|Zn Za)<|vQ<|pY hr (Zr Ym (Zr Yn (pv 5) Ze) Ze) Ze) Zq Zk) #[nV,λl0 H16 j u p=>.inr<|.inl #[2,.lst<|S6.map pW,.lst [],by lk,.inr #[_,_,rfl,rfl],Zy.im<|f15.mono j,rM (nS p) .nil,Z7 (λu6=>?_) λu6=>?_]]
   ·refine#[#[by lk,by lk],(by change(0:Int)<3;decide),.inl #[rfl,Z7 (λ_=>?_) λ_=>?_]]
    ·obtain⟨ns,hnl,hns⟩:=f15.mono j;have cn:=oz hns;have hnl0:0<S6.length:=by
      cases S6 with
      | nil=>simp at u6
      | cons=>simp
     obtain⟨k3,hk3,hk3l⟩:=yN (a:=c / 1500) (n:=(ns.map V.ref).length) (by rw[nQ];lia);obtain⟨to,hto⟩:∃to,ns[k3]? =some to:=#[_,pJ (by rw[nQ]at hk3l;show hk3l)]
     obtain⟨q3,hq3,hq3t⟩:=pG hns hto;have hq3m:q3∈S6:=qf hq3;refine nR (oj 11 Yk<|oi (pv 10)<|Zr Ym (Zr Yn (pv 5) Ze)<|qt T.aY<|pv 10) #[#[by lk,by lk],.inl #[.inl<|nS hnl,by lia,.inl #[nS hnl,(show pz _ _=some (.ref to)from by rw[hk3];show Zm<|by rw[oF,hto];rfl),?_]]];obtain⟨us,hu,g9⟩:=j15.mono j;have cu:=oz g9;have hju:=P7.jl;have I:=j.at L;have hrs16:Paired (Zp H16) rs op:=oA J λ_ _ r=>r.mono j
     rw[hnear]at hq3m;obtain⟨hqd,hqk⟩:=uN.mp hq3m;have hqk:q3.1≠q0.1:=pA hqk;obtain⟨t0,S7,tl,rfl,rfl,r0,hrt⟩:∃t0 S7 tl,rs=t0 ::S7/\op=q0 ::tl/\Zp H16 t0 q0/\Paired (Zp H16) S7 tl:=by
      cases hrs16 with
      | nil=>simp at hqd
      | cons r0 rt=>show#[_,_,_,rfl,by rw[hq0];rfl,by rw[hq0];show r0,rt]
     have hqd:q3∈tl:=hqd;refine nR (Zt<|rS (pv 2)<|Zi<|Zb (pv 11)<|Zb (oi (pv 3) Ze) Za) #[.inl #[rfl,_,nS hu],.inl #[nS I,(show pz _ ((0:Nat):Int)=_ from Zm rfl),nV,λtj H17 B n17 jZ=>#[B.at hu,?_,?_]]]
     ·rw[nQ];show Zo (by lia)
     have p:=B.at hu;have j18:Yo (nO H17 g<|.lst<|us.map V.ref++[.ref tj]) g (js2++[(q3,q0)]):=#[us++[tj],by rw[Zc,oy];rfl,xO (qc (oA g9 λ_ _ r=>r.mono B)<|.cons #[to,t0,jZ,hq3t.mono B,r0.mono B] .nil) p]
     have p18:=((p15.mono j).mono B).offL (o:=.lst<|us.map V.ref++[.ref tj]) p npj;have G:nO H17 g (.lst<|us.map V.ref++[.ref tj]) rm=_:=(Zd nmj).trans (B.at I);have C:=Wx (o:=.lst<|us.map V.ref++[.ref tj]) (oA hrt λ_ _ r=>r.mono B) p;have q18:=(hq3t.mono B).offL (o:=.lst<|us.map V.ref++[.ref tj]) p;have F8:nH H (nO H17 g<|.lst<|us.map V.ref++[.ref tj]):=λb o z=>(Zd<|Zf z fj).trans (B.at<|j.at<|s015.at z)
     generalize(nO H17 g<|.lst<|us.map V.ref++[.ref tj])=H18 at j18 p18 G C q18 F8;refine nU (oj 3 Yk<|qh ["_law_end","_law_other"] (pF 1 [11] rfl) (Yd<|Xk (r:=su K) sE (pv 3) (X1 Ze) Wf) (pc 0) (sO<|Yg (r:=uY K) (wm hr) (pv 0) (pv 1)<|Yv _) (pv 0))<|.inr<|.inl #[nS G,λl2 H19 N3 n19 e19=>#[nS e19,λD2 y8=>?_]];rw[show(some (1:Int))=some ((1:Nat):Int)from rfl,yP,<-Cd]at e19;have q19:=q18.mono N3;refine Nf (ts:=S7) (qs:=tl) (keep:=λx=>decide<|x≠q3) (w:=some<|.ref to) e19 (oA C λ_ _ r=>r.mono N3) (by simp at hopl;lia) y8 (λH20 s20 f20=>?q4) ?a4 ?b4
     case a4=>rfl
     case b4 =>
      intro t x H' R sm hx hm hR;refine(.inr<|.inl #[1,pW x,pW q3,by lk,.inl #[_,_,rfl,rfl],wp (nX hx)<|.cons (.str _)<|.cons (.str _) .nil,wp (nX<|q19.mono sm)<|.cons (.str _)<|.cons (.str _) .nil,?_]);have:(!decide (pW x=pW q3))=decide (x≠q3):=by
       rw[tL];simp[pW,Prod.ext_iff]
      rw[og rfl,this];show hR
     have u:=N3.trans s20;show .mk D2 _ _ _ _ _ _ _ _ _ _ _ (F8.trans u) (p18.mono u) (j18.mono u) f20 ((P7.join (TR P7.net.ond hqd) hqk).mono (by lia) (by lia)) ((F8.trans N3).free y8) (let⟨_,z,_⟩:=p18;pH (Zf (N3.at z) y8)) (let⟨_,z,_⟩:=j18;pH (Zf (N3.at z) y8))
    ·show .mk rm _ _ _ _ _ _ _ _ _ _ _ (s015.trans j) (p15.mono j) (j15.mono j) #[rs,j.at L,oA J λ_ _ r=>r.mono j] (P7.mono (by lia)<|by lia) frm nmp nmj
   ·show .mk rm _ _ _ _ _ _ _ _ _ _ _ (s015.trans j) (p15.mono j) (j15.mono j) #[rs,j.at L,oA J λ_ _ r=>r.mono j] (P7.mono (by lia)<|by lia) frm nmp nmj
  ·rintro y H4 ⟨rl,o4,o5,o6,o7,o8,o9,S5,N9,ps,js,Zs,s4,w5,B5,N7,l,frl,d,Y⟩;rw[nQ]at l;have M:=l.sum;have L:=l.jl;refine nR (Zt<|Zv (SX T) hr<|Zb (pv 1)<|Zb (pv 2)<|Zb (pv 3)<|Zb (Z5 (Ve rfl) (by rfl) T.jM PyProof.Rows.boot_sum<|Zb (pv 0) Za) Za) #[cl,cs,rfl,s4.seq z8,e,g,rl,AE cs,ps,js,Zs,rfl,w5,B5,N7,npj,d,Y,by lia,by lia,by lia,λH5 J p I r n x=>?_];have u:=l.done (by lia) x;have hnl:J.length=Zs.length:=by obtain⟨G,hk1,U5,hk3,U⟩:=x;rw[hk3,nQ,BZ]
   refine nU (Zl<|Zi<|Zb (pv 1)<|Zb (pv 2) Za) #[nV,λt H6 s6 n6 e6=>q t H6 e g _ _ 0 (λb o z=>s6.at<|I b o (Zf z fp) (Zf z fj)<|s4.at z) e6 (r.mono s6) (n.mono s6) fp fj u ?_ ?_]
   ·rw[oP];lia
   ·intro p C;rcases pC.mp C with z|z
    ·obtain⟨N,h1,c,k,B,j⟩:=l.nm p z;show .inl #[N,h1,c,k,by lia,j]
    ·obtain⟨G,hk1,U5,hk3,U⟩:=x;rw[hk3]at z;obtain⟨j,B,rfl⟩:=oh.mp z;show .inr #[j,by have:=yS.mp B;lia,rfl]
def sw(n k:Nat):mF:=("s":mF)++Str.ofString (toString (n:Int))++(#[(List.toArray [rG.getD (k / 26) 0])]:mF)++(#[(List.toArray [rG.getD (k%26) 0])]:mF)
def Gj:∀i<26,rG.getD i 0=97+i:=by lk
def Ip(n k:Nat):(sw n k).cps.toList=(("s":mF)++Str.ofString (toString (n:Int))).cps.toList++[rG.getD (k / 26) 0]++[rG.getD (k%26) 0]:=by
 unfold sw;rw[zX,zX]
def Vf(p:k<600)(r:y<600)(h:sw n k=sw o y):k=y:=by
 have:=pO (λs:mF=>s.cps.toList) h;simp only[Ip]at this;obtain⟨q,x⟩:=List.append_inj' this rfl;obtain⟨_,u⟩:=List.append_inj' q rfl;rw[Av]at x u;rw[Gj _ (by lia),Gj _<|by lia]at x u;lia
def BI(H:Hp)(t:mG)(q:mF×mF×mF):Prop:=H t=some (.tup [.str q.1,.str q.2.1,.str q.2.2])
def vh(H:Hp)(l:mG)(x:mD (mF×mF×mF)):Prop:=∃y:mD mG,H l=some (.lst<|y.map V.ref)/\Paired (BI H) y x
def X3(ps:mD Zh):mD Zh:=ps.flatMap λp=>if p.1∈[("plain":mF),"gate","stop"]then(Yq p.1).map (λx=>(p.2,x))else[]
def Zuj(ps:mD Zh)(p:Zh):X3 (ps++[p])=X3 ps++(if p.1∈[("plain":mF),"gate","stop"]then(Yq p.1).map (λx=>(p.2,x))else[]):=by
 unfold X3;rw[wI];simp
structure sZ(es:List Zh)(i:Nat)(sg:List (Str×Str×Str)):Prop where
 at_:(sg.map λq=>((q.2.1,q.2.2):Zh)).Sublist (es.take i)
 name:∀q∈sg,q.1=q.2.1\/∃n k,n<99/\k<i/\q.1=sw n k
 nd:(sg.map fst).Nodup
 len:sg.length<=40
def sZ.skip(h:sZ es i y):sZ es (i+1) y:=by
 refine#[h.at_.trans ?_,λq x=>?_,h.nd,h.len]
 ·rw[oW];show Ou _ _
 ·rcases h.name q x with z|⟨n,k,a,b,c⟩
  ·show .inl z
  ·show .inr #[n,k,a,by lia,c]
def sZ.add(h:sZ es i x)(u:es[i]? =some e)(s:nm=e.1\/∃n,n<99/\nm=sw n i)(r:nm∉x.map fst)(l:x.length<40):sZ es (i+1) (x++[(nm,e.1,e.2)]):=by
 refine#[?_,λq p=>?_,?_,by rw[oP];simp;lia]
 ·rw[oW,u,oy];show List.Sublist.append h.at_<|List.Sublist.refl _
 ·rcases pC.mp p with z|z
  ·show h.skip.name q z
  ·rw[qG]at z;subst z;rcases s with y|⟨n,a,b⟩
   ·show .inl y
   ·show .inr #[n,i,a,by lia,b]
 ·rw[oy,rO];refine#[h.nd,by simp,λa o b y z=>?_];simp at y;show r (by rw[<-y,<-z];show o)
def sZ.fresh(h:sZ es i u)(y:i<600)(s:∀n k e,e∈es->n<99->k<600->e.1≠sw n k)(r:n<99):sw n i∉u.map fst:=λp=>by
 obtain⟨q,x,e⟩:=oh.mp p;rcases h.name q x with z|⟨o,k,a,b,c⟩
 ·have:((q.2.1,q.2.2):Zh)∈es:=AQ<|h.at_.subset<|oh.mpr #[q,x,rfl];show s n i _ this r y<|z.symm.trans e
 ·have:=Vf y (by lia)<|e.symm.trans c;lia
def vh.mono(e:nH H y)(h:vh H l x):vh y l x:=let⟨u,s,q⟩:=h;#[u,e.at s,oA q λ_ _ r=>e.at r]
inductive Ls(K:mK):Sp
 | mk (pl c) (ps:mD Zh):vs=[.ref pl,.int c]->Zy H pl ps->ps.length<=45->(∀n k e,e∈X3 ps->n<99->k<600->e.1≠sw n k)->(∀(l:mG)(H':Hp)(sg:mD (mF×mF×mF)),nH H H'->H l=none->vh H' l sg->sZ (X3 ps) (X3 ps).length sg->Q (.ref l) H')->Ls K vs H Q E
def DT(k:mF):(Yq k).length<=4:=by
 unfold Yq;split
 ·decide
 ·split
  ·decide
  ·split<;>decide
theorem CK:∀ps:mD Zh,(X3 ps).length<=4 * ps.length
 | []=>by simp[X3]
 | p ::ps=>by
  have:=CK ps;have y:=DT p.1;rw[show X3 (p ::ps)=(if p.1∈[("plain":mF),"gate","stop"]then(Yq p.1).map (λx=>((p.2,x):Zh))else[])++X3 ps from rfl,oP,qr];split
  ·rw[nQ];lia
  ·simp;lia
def Sq:∀n<99,(Str.ofString<|toString ((n:Nat):Int)).length<=2:=by left
def VT:∀n<99,(((n:Nat):Int).natAbs).log2<1920:=by left
def Zg9:T.cR.O P w mg nI 2 (Ls K):=by
 refine T.cR.F.okW Ya ?_;rfl'
 ·obtain⟨pl,c,g,rfl,⟨ts,i9,P8⟩,x,u6,q⟩:=h;intro X D;have G9:ts.length=g.length:=oz P8;refine nR (oj 2 Ya Zg) ?_;refine nR (oj 3 Ya<|Zn Za) #[nV,λl0 x s1 u e1=>?_];let I4:IF:=λi y d=>∃le,(∃o4 C B,y=[some (.ref pl),some<|.int c,some<|.str "abcdefghijklmnopqrstuvwxyz",some<|.ref le,o4,C,B,none,none,none,none])/\nH H d/\Zy d le (X3<|g.take i)
  refine nR (Y9 qo rfl (Yd<|pv 0) (tN rfl<|Zu (oY 4 Ya)<|Zu (oY 5 Ya) Y5) Zq) #[nS<|s1.at i9,W7 (xs:=ts.map V.ref) I4 #[l0,#[none,none,none,rfl],s1,[],e1,.nil] ?_ ?_ ?_]
  ·rintro i y d _ ⟨_,_,sm,_⟩;show nS<|sm.at i9
  ·rintro i v y H2 hi ⟨le,⟨o4,C,B,rfl⟩,J,a,C0,Y⟩;rw[oF]at hi;obtain⟨t,e,rfl⟩:=oN.mp hi;obtain⟨p,hp,rp⟩:=pG P8 e;have E6:i<ts.length:=(pT.mp e).1;have U:=CK<|g.take i;rw[oZ]at U;have D1:a.length=(X3<|g.take i).length:=oz Y;have u:X3 (g.take<|i+1)=X3 (g.take i)++(if p.1∈[("plain":mF),"gate","stop"]then(Yq p.1).map (λx=>((p.2,x):Zh))else[]):=by
    rw[oW,hp];show Zuj _ _
   refine#[nX<|J.at rp,rfl,rfl,?_];refine nU (Zx (sX hr (pv 4)<|Zn<|Zb Zg<|Zb Zg<|Zb Zg Za) Zq Zk) #[nV,λlk H3 I n3 e3=>.inl #[.inl<|nS e3,rfl,rfl,?_]];rw[nY pi,show ue (.str p.1) [.str "plain",.str "gate",.str "stop"]=decide (p.1∈[("plain":mF),"gate","stop"])from W3 p.1 ["plain","gate","stop"]];refine Z7 (λo=>?_) λo=>#[le,#[_,_,_,rfl],J.trans I,?_]
   ·have o:=pA o;rw[og o]at u;refine nU (oj 3 Ya<|Zr W0 (pv 3)<|qh ["_law_end","_law_name"] (pF 1 [5] rfl) (Yd<|Zv (ND T) hr<|Zb (pv 4) Za) (pc 0) X8 (Zi<|Zb (pv 1)<|Zb (pv 0) Za)) #[p.1,rfl,λx H4 G n M=>#[nS M,λD hD=>?_]];have O7:=DT p.1;refine Qx (xs:=Yq p.1) (x:=p.2) M (by lia) hD (λH5 s5 f5=>?qq) ?aa ?bb
    case aa=>rfl
    case bb=>rfl
    case qq =>
     obtain⟨vs,hv,L⟩:=f5;have J5:vs.length=(Yq p.1).length:=by rw[oz L,nQ]
     have x:=I.trans<|G.trans s5;refine .inr<|.inr #[x.at C0,hv,by rw[nQ,nQ];show sz (by lia),λln H6 n n6 e6=>#[ln,#[_,_,_,rfl],J.trans<|x.trans n,?_]];rw[u];show#[a++vs,by rw[e6,oy],qc (oA Y λ_ _ r=>(x.trans n).at r)<|oA L λ_ _ r=>n.at r]
   ·have o:¬p.1∈[("plain":mF),"gate","stop"]:=λz=>o<|oO z
    rw[u,nY o,qM];show Zy.mono I #[a,C0,Y]
  rintro y H2 ⟨le,⟨o4,C,B,rfl⟩,J,hE⟩;rw[nQ,G9,pQ]at hE;obtain⟨a,C0,Y⟩:=hE;have U:=CK g;have D1:a.length=(X3 g).length:=oz Y;obtain⟨es,B2⟩:∃es,es=X3 g:=#[_,rfl]
  rw[<-B2]at Y D1 u6 q U;refine nR (oj 7 Ya<|Zn Za) #[nV,λlf H3 I n3 e3=>?_];let I5:IF:=λi y d=>(∃C B o8 o9 S5,y=[some (.ref pl),some<|.int c,some<|.str "abcdefghijklmnopqrstuvwxyz",some<|.ref le,o4,C,B,some<|.ref lf,o8,o9,S5])/\nH H2 d/\∃j,vh d lf j/\sZ es i j
  refine nR (Y9 qo rfl (yQ rfl T.bM<|Zb (pv 3) Za) (tN rfl<|Zu (oY 8 Ya)<|Zu (oY 6 Ya) Y5) Zq) #[nS<|I.at C0,Ai (xs:=a.map V.ref) I5 #[#[_,_,none,none,none,rfl],I,[],#[[],e3,.nil],#[Dt _,(λ_ z=>nomatch z),wL,sY _]] ?_ ?_ ?_]
  ·rintro i y d _ ⟨_,sm,_⟩;show nS<|sm.at C0
  ·rintro i x' y H4 hi ⟨⟨o5',o6',o8,o9,S5,rfl⟩,G,j,N,ok⟩ p H5 s5 n5 e5;rw[oF]at hi;obtain⟨te,N8,rfl⟩:=oN.mp hi;obtain⟨e,he,re⟩:=pG Y N8;have E6:i<a.length:=(pT.mp N8).1;have M:i<600:=by lia
   refine#[nX e5,rfl,rfl,?_];have re5:Zp H5 te e:=s5.at<|G.at re;obtain⟨gs,U9,L⟩:=N.mono s5;have hgl:gs.length=j.length:=oz L;have M7:=G.trans s5;refine nR (oj 9 Ya<|Wd (BW T) hr rfl T.am.m T.am.F.kp T.am.b .nil Z4<|Zb (pv 1)<|Zb (pv 8) Za) #[c,_,rfl,?_];generalize vA c ((i:Nat):Int)=dr;have skip:∃j,vh H5 lf j/\sZ es (i+1) j:=#[j,#[gs,U9,L],ok.skip]
   refine nU (Zx (rc<|wk (Yg xo (Zr Ym (pv 9) Ze) (Zr Ym (pv 1) Ze)<|Yv _)<|vQ<|Yg yx (qt T.aY<|pv 7) Ze<|Yv _) Zq Zk) #[(by change(0:Int)<8;decide),(by change(0:Int)<7;decide),Z7 (λ_=>(.inl #[.inl<|nS U9,Z7 (λhl=>?_) λ_=>#[#[_,_,_,_,_,rfl],M7,skip]])) λ_=>#[#[_,_,_,_,_,rfl],M7,skip]];have hl:j.length<40:=by
    have:=pA hl;rw[nQ]at this;lia
   have m0:=qT (dr / 8) (show(99:Int)≠0 by lk);have m1:=qZ (dr / 8) (show(0:Int)<99 by lk);obtain⟨n,hn⟩:∃n:Nat,dr / 8%99=(n:Int):=#[(dr / 8%99).toNat,by lia]
   have u:n<99:=by lia
   have P0:=Sq n u;have d9:(("s":mF)++Str.ofString (toString (n:Int))).length<=3:=by rw[qI];change 1+_<=3;lia
   have a1:pz rG ((i:Int) / 26)=some (rG.getD (i / 26) 0):=by
    have:=BD (n:=26) (l:=rG) (i:=(i:Int) / 26) rfl (by lia) (by lia);rw[show((i:Int) / 26).toNat=i / 26 by lia]at this;show this
   have a2:pz rG ((i:Int)%26)=some (rG.getD (i%26) 0):=by
    have:=BD (n:=26) (l:=rG) (i:=(i:Int)%26) rfl (by lia) (by lia);rw[show((i:Int)%26).toNat=i%26 by lia]at this;show this
   refine nR (oj 10 Ya<|Zr W0 (oi (pv 2)<|Zr Yn (pv 8) Ze)<|oi (pv 2)<|Zr Ym (pv 8) Ze) #[#[by lk,by lk],.inr<|.inr #[_,_,rG.getD (i / 26) 0,rfl,rfl,sz (by rw[Cr];decide),by rw[Dc];show a1,(by change(0:Int)<26;decide),.inr<|.inr #[_,_,rG.getD (i%26) 0,rfl,rfl,sz (by rw[Cr];decide),by rw[Dc];show a2,.inr<|.inl<|wQ rfl rfl #[sz (by change 1+1<=1000;lia),?_]]]];refine nU (Zt<|rS (pv 7)<|Zi<|Zb (Zr W0 (Zr W0 Zg<|Xa Ev (by rfl) T.eU xu<|Zb (Zr Ym (Zr Yn (pv 9) Ze) Ze) Za)<|pv 10)<|Zb (oi (pv 6) Ze)<|Zb (oi (pv 6) Ze) Za) #[.inl #[rfl,_,nS U9],#[by lk,by lk],(by change(0:Int)<99;decide),(n:Int),?_,VT n u,.inr<|.inl<|wQ rfl rfl #[sz (by change 1+_<=1000;lia),.inr<|.inl<|wQ rfl rfl #[sz (by change _+2<=1000;lia),.inr<|.inl #[nX re5,rfl,.inr<|.inl #[nX re5,rfl,nV,λt H7 s7 x e7=>#[s7.at U9,by rw[nQ];show Zo (by lia),#[_,_,_,_,_,rfl],λb o z=>?_,j++[(sw n i,e.1,e.2)],#[gs++[t],?_,?_],ok.add he (.inr #[n,u,rfl]) (ok.fresh M u6 u) hl]]]]]]
   ·change[V.int (dr / 8%99)]=[V.int (n:Int)];rw[hn]
   ·rw[Zd (Zf z n3)];show s7.at<|M7.at z
   ·rw[Zc,oy];rfl
   ·have off:∀{b:mG}{o:mD V},H7 b=some (.tup o)->(nO H7 lf<|.lst<|gs.map V.ref++[V.ref t]) b=some (.tup o):=λ{b o} z=>by
     rw[Zd λx=>by rw[x,s7.at U9]at z;cases z];show z
    show qc (oA L λ_ _ r=>off<|s7.at r)<|.cons (off e7) .nil
  ·rintro y H4 ⟨⟨o5',o6',o8,o9,S5,rfl⟩,G,j,N,ok⟩;refine nU (Zl<|pv 7)<|q lf H4 j (J.trans G) (J.free n3) N ?_;rw[nQ,D1]at ok;show ok
def wK(s:mF):Nat:=s.cps.toList.getLastD 0
def Ov{x y:mF}(h:0<y.length):wK (x++y)=wK y:=by
 unfold wK;rw[zX];have:y.cps.toList≠[]:=λz=>by
  have:y.cps.toList.length=0:=by rw[z];rfl
  rw[ut]at this;show absurd h (by change ¬0<y.cps.size;lia)
 obtain⟨u,b,e⟩:=List.eq_nil_or_concat y.cps.toList|>.resolve_left this
 rw[e];simp
def Sy:∀k<100,wK (tR k)<58:=by left
def YL{kd:mF}{c:Int}{k:Nat}(h:k<100):wK (Ys kd c k)<58:=by
 have y:=Sy k h;have x:=DO k h;unfold Ys;split<;>rw[Ov x]<;>show y
def Zzy{j:Nat}(h:j<100):wK (W4 j)<58:=by
 unfold W4;rw[Ov (DO j h)];show Sy j h
def SQ{n k:Nat}:97<=wK (sw n k):=by
 unfold wK;rw[Ip];have:=Gj (k%26) (by lia);simp only[List.getLastD_concat];lia
def Ms{n k:Nat}:2<=(sw n k).cps.toList.length:=by
 rw[Ip,oP,oP];simp
def Ydy{s:mF}{n k:Nat}(h:s ="g"\/s ="h"\/wK s<58):s≠sw n k:=λz=>by
 rcases h with rfl|rfl|h
 ·have:=@Ms n k;rw[<-z]at this;show absurd this (by lk)
 ·have:=@Ms n k;rw[<-z]at this;show absurd this (by lk)
 ·have:=@SQ n k;rw[<-z]at this;lia
def Zzb{ps:mD Zh}{e:Zh}(h:e∈X3 ps):∃p∈ps,e.1=p.2:=by
 unfold X3 at h;obtain⟨p,u,y⟩:=uD.mp h;refine#[p,u,?_];split at y
 ·obtain⟨x,_,rfl⟩:=oh.mp y;rfl
 ·cases y
def wH(s:mF):Prop:=s ="g"\/s ="h"\/wR s 63\/∃j,j<90/\s=W4 j
def wH.sig{s:mF}{n k:Nat}(h:wH s):s≠sw n k:=by
 refine Ydy ?_;rcases h with h|h|⟨x,c,j,_,y,rfl⟩|⟨j,y,rfl⟩
 ·show .inl h
 ·show .inr<|.inl h
 ·show .inr (.inr<|YL<|by lia)
 ·show .inr (.inr<|Zzy<|by lia)
def DN(p:Zh):Prop:=p=((("gate":mF),("g":mF)):Zh)\/p=((("gate":mF),("h":mF)):Zh)\/wR p.2 63\/∃j,j<90/\p.2=W4 j
def DN.nm{p:Zh}(h:DN p):wH p.2:=by
 rcases h with rfl|rfl|h|h
 ·show .inl rfl
 ·show .inr<|.inl rfl
 ·show .inr<|.inr<|.inl h
 ·show .inr<|.inr<|.inr h
structure Bi(ps:List Zh)(js:List (Zh×Zh))(sg:List (Str×Str×Str)):Prop where
 net:Net ps js []
 len:ps.length<=39
 name:∀p∈ps,DN p
 sigs:∃L5,L5.Perm ps/\sZ (X3 L5) (X3 L5).length sg
def Net.perm'(h:Net ps r [])(y:q.Perm ps)(s:x.Perm r):Net q x []:=by
 obtain⟨a,b,c,d⟩:=h;rw[qM]at a;refine#[?_,(y.map _).nodup_iff.mpr b,λj u=>c j<|s.mem_iff.mp u,λp u=>d p<|y.mem_iff.mp u];rw[qM];show((s.flatMap_right _).trans a).trans (y.flatMap_right _).symm
def Yjg(h:wR s n)(l:n<=m):wR s m:=let⟨y,c,k,a,b,e⟩:=h;#[y,c,k,a,by lia,e]
def Tl(h:IP s n):wR s n:=by
 obtain⟨y,x,c,k,a,e⟩:=h;refine#[y,c,k,?_,a,e];have:∀y∈rh,96<y.cps.toList.getD 0 0/\y.cps.toList.getD 0 0<123:=by left
 show this y x
def Px{y x:Type}{R:y->x->Prop}{u:mD y}{s:mD x}(h:Paired R u s):Paired R u.reverse s.reverse:=by
 induction h with
 | nil=>show .nil
 | cons r _ q=>rw[za,za];show qc q<|.cons r .nil
theorem Nj{y x:Type}{R:y->x->Prop}:∀(n:Nat){u:mD y}{s:mD x},Paired R u s->Paired R (u.drop n) (s.drop n)
 | 0,_,_,h=>h
 | _+1,_,_,.nil=>.nil
 | n+1,_,_,.cons _ t=>Nj n t
theorem DQ{y x:Type}{R:y->x->Prop}:∀(n:Nat){u:mD y}{s:mD x},Paired R u s->Paired R (u.take n) (s.take n)
 | 0,_,_,_=>.nil
 | _+1,_,_,.nil=>.nil
 | n+1,_,_,.cons r t=>.cons r<|DQ n t
inductive Lk(K:mK):Sp
 | mk (cl c) (cs:mD Int):vs=[.ref cl,.int c]->SqL K H cl (cs.map V.int)->(∀c∈cs,0<=c)->cs.length<=63->(∀(t pl jl sl:mG)(H':Hp)(ps:mD Zh)(js:mD (Zh×Zh)) (sg:mD (mF×mF×mF)),nH H H'->H' t=some (.tup [.ref pl,.ref jl,.ref sl])->Zy H' pl ps->Yo H' jl js->vh H' sl sg->Bi ps js sg->Q (.ref t) H')->Lk K vs H Q E
def WC:T.dw.O P w mg nI 4 (Lk K):=by
 refine T.dw.F.okW Xg ?_;rfl'
 ·obtain⟨cl,c,cs,rfl,hS,hc0,z8,q⟩:=h;intro X D;refine nR (oj 2 Xg<|Zv (WQ T) hr<|Zb (pv 0) Za) #[cl,cs,rfl,hS,hc0,λt H1 o j x i G C M L n1 n2 net len nm=>?_];let I6:IC:=λy J=>∃t o j x i,y=[some (.ref cl),some<|.int c,some<|.ref t,none,none,none]/\nH H J/\J t=some (.tup [.ref o,.ref j])/\Zy J o x/\Yo J j i/\Net x i []/\x.length<=39/\∀p∈x,DN p
  refine qk I6 ?_ ?_
  ·refine qp (Zx (pY hr (Zr Ym (pv 1) Ze) Ze) Zq Zk) #[(by change(0:Int)<3;decide),.inl #[rfl,Z7 (λ_=>?_) λ_=>#[t,o,j,x,i,rfl,G,C,M,L,net,by lia,λp I=>?_]]]
   ·refine nU (oj 2 Xg<|Zv (UR T) hr<|Zb (pv 0) Za) #[cl,cs,rfl,G.seq hS,hc0,z8,λt H2 o j x i _ N e2 M L _ _ net len nm=>#[t,o,j,x,i,rfl,G.trans N,e2,M,L,net,len,λp I=>?_]];rcases nm p I with z|z
    ·show .inr<|.inr<|.inl<|Tl z
    ·show .inr<|.inr<|.inr z
   ·rcases nm p I with z|z|z
    ·show .inl z
    ·show .inr<|.inl z
    ·show .inr (.inr<|.inl<|Yjg z<|by lk)
  clear C M L n1 n2 net len nm G;rintro y H1 ⟨t,o,j,x,i,rfl,G,C,M,L,net,len,nm⟩;refine nR (PL (pv 2)<|tN rfl<|Zu (oY 3 Xg)<|Zu (oY 4 Xg) Y5) #[nX C,rfl,rfl,?_];obtain⟨g,hu,g9⟩:=id M;have D1:g.length=x.length:=oz g9;obtain⟨B,hmx,hm1⟩:∃B:Int,(if((g.map V.ref).length:Int)>1 then((g.map V.ref).length:Int)else 1)=B/\0<B:=by
   refine(qC rfl ?_);split<;>lia
  have a0:=qT (c / 3) (show B≠0 by lia);obtain⟨u,B4⟩:∃k:Nat,c / 3%B=(k:Int):=#[(c / 3%B).toNat,by lia]
  refine nR (oj 5 Xg<|Zr Ym (Zr Yn (pv 1) Ze)<|Z5 (JI rfl) (by rfl) T.ji PQ<|Zb Ze<|Zb (qt T.aY<|pv 3) Za) #[#[by lk,by lk],.inl #[.inl<|nS hu,_,_,rfl,?_,?_]]
  ·change(0:Int)<(if((g.map V.ref).length:Int)>1 then((g.map V.ref).length:Int)else 1);rw[hmx];show hm1
  change WSs _ _ _ [some (.ref cl),some<|.int c,some<|.ref t,some<|.ref o,some<|.ref j,some<|.int<|c / 3%(if((g.map V.ref).length:Int)>1 then((g.map V.ref).length:Int)else 1)] H1;rw[hmx,B4];let I7:IC:=λy J=>∃d a,y=[some (.ref cl),some<|.int c,some<|.ref t,some<|.ref o,some<|.ref d,some<|.int (u:Int)]/\nH H1 J/\Yo J d a/\a.Perm i
  refine qk I7 ?_ ?_
  ·obtain⟨e,hw,n⟩:=id L;refine qp (Zx (pY hr (Zr Ym (Zr Yn (pv 1) Ze) Ze) Ze) Zq Zk) #[#[by lk,by lk],(by change(0:Int)<2;decide),.inl #[rfl,Z7 (λ_=>?_) λ_=>#[j,i,rfl,qu _,L,qW _]]];refine nU (oj 4 Xg<|Yg5 (ops:=λl r=>[l,r]) (pv 4) (X1<|wo wq Ze) λ_ _=>by with_unfolding_all rfl) #[j,_,rfl,rfl,nS hw,λl H2 N n2 e2=>#[l,i.reverse,rfl,N,#[e.reverse,by rw[e2,Jg],?_],Do _]];show Px<|oA n λ_ _ r=>r.mono N
  rintro y H2 ⟨d,a,rfl,N,hJ',hjp⟩;refine nU (Zl<|Zi<|Zb (Zr W0 (Xk (r:=su K) sE (pv 3) (X1<|pv 5) Wf)<|Xk (r:=su K) sE (pv 3) Wf<|X1<|pv 5)<|Zb (pv 4)<|Zb (Zv (Zg9 T) hr<|Zb (pv 3)<|Zb (Zr Yn (pv 1) Ze) Za) Za)<|.inr<|.inl #[nS<|N.at hu,λe H3 s3 n3 n=>(.inr<|.inl #[nS<|s3.at<|N.at hu,λlb H4 s4 n4 l=>.inr<|.inr #[s4.at n,l,?_,λlc H5 s5 n5 e5=>?_]])]
  ·rw[yP,BV,xY,oZ,nQ];show sz (by lia)
  have M7:=s3.trans<|s4.trans s5;have B8:=N.trans M7;refine#[#[by lk,by lk],o,_,x,rfl,M.mono B8,by lia,λn k e he _ _=>?_,λsl l sg s6 n6 hG ok=>#[nV,λt' H7 s7 n7 e7=>?_]]
  ·obtain⟨p,I,C⟩:=Zzb he;rw[C];show wH.sig (nm p I).nm
  rw[yP,BV,<-Cd,<-vU,<-oy]at e5;have Y:=s6.trans s7;have U:(x.drop u++x.take u).Perm x:=by
   have:=wM (l₁:=x.drop u) (l₂:=x.take u);rwa[wj]at this
  refine q t' lc d sl H7 (x.drop u++x.take u) a sg (G.trans<|B8.trans Y) e7 #[g.drop u++g.take u,Y.at e5,?_] (hJ'.mono<|M7.trans Y) (hG.mono s7) #[Net.perm' net U hjp,?_,λp I=>nm p<|U.mem_iff.mp I,#[x,U.symm,ok]]
  ·have:=oA g9 λ_ _ r=>Zp.mono (B8.trans Y) r
   show qc (Nj _ this)<|DQ _ this
  ·rw[U.length_eq];show len
def sV(c:Nat):Bool:=decide (97<=c) && decide (c<=122)
def qL(c:Nat):Bool:=sV c || (decide (48<=c) && decide (c<=57))
def X7(s:mF):Prop:=1<=s.length/\s.length<=6/\sV (s.cps.toList.headD 0)=true/\s.cps.toList.all qL=true
def CS:∀k<100,(tR k).cps.toList.all qL=true:=by left
def FZ:∀i<26,sV (rG.getD i 0)=true:=by lk
def Yhi(h:sV c=true):qL c=true:=by unfold qL;rw[h];rfl
def wT{x y:mF}(u:x.cps.toList.all qL=true)(s:y.cps.toList.all qL=true):(x++y).cps.toList.all qL=true:=by
 rw[zX,List.all_append,u,s];rfl
def xw{x y:mF}(h:0<x.length):(x++y).cps.toList.headD 0=x.cps.toList.headD 0:=by
 rw[zX];cases e:x.cps.toList with
 | nil =>
  have:x.cps.size=0:=by rw[<-ut,e];rfl
  show absurd h (by change ¬0<x.cps.size;lia)
 | cons a l=>rfl
def Br(h:sV c=true):(#[(List.toArray [c])]:mF).cps.toList.all qL=true:=by
 change([c]:mD Nat).all qL=true;simp[Yhi h]
def Yc0{j:Nat}(h:j<100):X7 (W4 j):=by
 have y:=Co j h;have x:=DO j h;unfold W4;refine#[?_,?_,?_,wT (by left)<|CS j h]
 ·rw[qI];lia
 ·rw[qI,show("e":mF).length=1 by left];lia
 ·rw[xw (by left)];decide +kernel
def UN{n k:Nat}(x:n<99)(p:k<600):X7 (sw n k):=by
 have o:=Sq n x;have u:=FZ (k / 26) (by lia);have s:=FZ (k%26) (by lia);have y:("s":mF).length=1:=by left
 have r:0<(("s":mF)++Str.ofString (toString (n:Int))).length:=by rw[qI,y];lia
 have q:(Str.ofString<|toString (n:Int)).cps.toList.all qL=true:=CS n (by lia);unfold sw;refine#[?_,?_,?_,wT (wT (wT (by left) q)<|Br u)<|Br s]
 ·rw[qI,qI];lia
 ·rw[qI,qI,qI,y];change 1+_+1+1<=6;lia
 ·rw[xw (by rw[qI];lia),xw r,xw<|by rw[y];decide];decide +kernel
def Yj2:X7 "g":=#[by left,by left,by left,by left]
def Ykn:X7 "h":=#[by left,by left,by left,by left]
def Jl(y:0<=i)(x:i<26):sV (uf i)=true:=FZ i.toNat (by lia)
def SI:∀m<3,(sR "0" m).cps.toList.all qL=true:=by left
def ZP{kd:mF}{c:Int}{k:Nat}(q:96<kd.cps.toList.getD 0 0/\kd.cps.toList.getD 0 0<123)(y:k<100):X7 (Ys kd c k):=by
 have p:=zY (kind:=kd) (c:=c) y;refine#[by lia,Vi y,?_,?_]
 ·unfold Ys;split
  ·rw[xw (by change 0<1;decide)];change sV (kd.cps.toList.getD 0 0)=true;unfold sV;simp only[rB,zw];lia
  ·have x:=qT (c / 3) (show(26:Int)≠0 by lk);have u:=qZ (c / 3) (show(0:Int)<26 by lk);rw[xw (by rw[qI,qI];change 0<1+1+_;lia),xw (by rw[qI];change 0<1+1;decide),xw<|by change 0<1;decide];show Jl x u
 ·unfold Ys;split
  ·refine wT (Br ?_)<|CS k y;unfold sV;simp only[rB,zw];lia
  ·have x:=qT (c / 3) (show(26:Int)≠0 by lk);have u:=qZ (c / 3) (show(0:Int)<26 by lk);have s:=qT (c / 78) (show(26:Int)≠0 by lk);have r:=qZ (c / 78) (show(0:Int)<26 by lk);have o:=qT (c / 2028) (show(3:Int)≠0 by lk);have n:=qZ (c / 2028) (show(0:Int)<3 by lk);show wT (wT (wT (Br<|Jl x u)<|Br<|Jl s r)<|SI _<|by lia)<|CS k y
def wH.ok(h:wH s):X7 s:=by
 rcases h with rfl|rfl|⟨u,c,j,y,x,rfl⟩|⟨j,x,rfl⟩
 ·show Yj2
 ·show Ykn
 ·show ZP y (by lia)
 ·show Yc0 (by lia)
def FJ(h:e∈X3 ps):∃p∈ps,e.1=p.2/\p.1∈[("plain":mF),"gate","stop"]/\e.2∈Yq p.1:=by
 unfold X3 at h;obtain⟨p,u,y⟩:=uD.mp h
 by_cases z:p.1∈[("plain":mF),"gate","stop"]
 ·rw[og z]at y;obtain⟨x,s,rfl⟩:=oh.mp y;show#[p,u,rfl,z,s]
 ·rw[nY z]at y;cases y
def Ydj(k:mF):(Yq k).Nodup:=by
 unfold Yq;split
 ·decide
 ·split
  ·decide
  ·split<;>decide
theorem MO:∀{ps:mD Zh},(ps.map snd).Nodup->(X3 ps).Nodup
 | [],_=>wL
 | p ::ps,h=>by
  rw[oR,qU]at h;have u:=MO h.2;change((if p.1∈[("plain":mF),"gate","stop"]then(Yq p.1).map (λx=>((p.2,x):Zh))else[])++X3 ps).Nodup;refine rO.mpr #[?_,u,λa y b s e=>?_]
  ·split
   ·show List.Pairwise.map _ (λa b h z=>h (Prod.mk.inj z).2)<|Ydj p.1
   ·show wL
  ·subst e;obtain⟨r,q,o,_⟩:=FJ s;split at y
   ·obtain⟨x,_,rfl⟩:=oh.mp y;show h.1<|oh.mpr #[r,q,o.symm]
   ·cases y
structure zo(ps:List Zh)(sg:List (Str×Str×Str)):Prop where
 name:∀q∈sg,X7 q.1
 nd:(sg.map fst).Nodup
 one:(sg.map snd).Nodup
 at_:∀q∈sg,∃p∈ps,p.2=q.2.1/\p.1∈[("plain":Str),"gate","stop"]/\q.2.2∈Yq p.1
 len:sg.length<=40
def sZ.sigs(h:sZ (X3 ps) (X3 ps).length u)(s:(ps.map snd).Nodup)(nm:∀p∈ps,wH p.2)(r:ps.length<=45):zo ps u:=by
 have sub:=h.at_;rw[pQ]at sub;have o:=CK ps;have mem:∀q∈u,((q.2.1,q.2.2):Zh)∈X3 ps:=λq y=>sub.subset<|oh.mpr #[q,y,rfl]
 refine#[λq y=>?_,h.nd,List.Nodup.sublist sub<|MO s,λq y=>?_,h.len]
 ·rcases h.name q y with z|⟨n,k,a,b,c⟩
  ·obtain⟨p,x,e,_⟩:=FJ<|mem q y;rw[z,show q.2.1=p.2 from e];show wH.ok<|nm p x
  ·rw[c];show UN a (by lia)
 ·obtain⟨p,x,e,k,m⟩:=FJ<|mem q y;show#[p,x,e.symm,k,m]
def zo.perm(h:zo y x)(u:y.Perm ps):zo ps x :=
 #[h.name,h.nd,h.one,λq s=>let⟨p,a,b⟩:=h.at_ q s;#[p,u.mem_iff.mp a,b],h.len]
def Bi.sigsV(h:Bi ps s x):zo ps x:=by
 obtain⟨u,y,ok⟩:=h.sigs;show(ok.sigs ((y.map _).nodup_iff.mpr h.net.nd) (λp u=>(h.name p<|y.mem_iff.mp u).nm) (by rw[y.length_eq];have:=h.len;lia)).perm y
inductive xj(K:mK):Sp
 | mk (x C dx nm):vs=[.ref x,.str nm]->H x=some (.ins C dx [])->qF K C->nZ K C "name"->Q .non (nO H x<|.ins C dx [("name",.str nm)])->xj K vs H Q E
def X9:T.ao.O P w mg nI 1 (xj K):=by
 refine T.ao.F.okA ?_;rfl'
 ·obtain⟨x,C,r,nm,rfl,y,c,u,q⟩:=h;intro X D;show nU (Wm (pv 0) (pv 1) rfl) #[y,c,u,by simp,q]
def qX(H:Hp)(C x:mG)(nm:mF):Prop:=∃y,H x=some (.ins C y [("name",.str nm)])
def Al(C:mG):mD V->Hp->VK->Prop:=λu H Q=>∃nm:mF,u=[.str nm]/\∀x y,nH H y->H x=none->qX y C x nm->Q (.ref x) y
def Cb(c:qF K C)(n:nZ K C "name"):∀vs H Q,Al C vs H Q->∀x y,H x=none->H y=none->y≠x->xj K (.ref x ::(vs++[])) (nO (nO H y<|.own x) x<|.ins C y []) (λv s=>v=.non/\Q (.ref x) s) E0:=by
 rintro vs H Q ⟨nm,rfl,q⟩ x y u r p;refine#[x,C,y,nm,rfl,Zc,c,n,rfl,q x _ (λb o e=>?_) u #[y,Zc]];rw[Zd (Zf e u),Zd<|Zf e u,Zd<|Zf e r];show e
abbrev OW(T:Tx K mg):mD V->Hp->VK->Prop:=Al T.bJ
def Yak:∀vs H Q,OW T vs H Q->∀x y,H x=none->H y=none->y≠x->xj K (.ref x ::(vs++[])) (nO (nO H y<|.own x) x<|.ins T.bJ y []) (λv u=>v=.non/\Q (.ref x) u) E0:=Cb T.ek T.eQ
abbrev Qu(T:Tx K mg):mD V->Hp->VK->Prop:=Al T.bz
def Ydq:∀vs H Q,Qu T vs H Q->∀x y,H x=none->H y=none->y≠x->xj K (.ref x ::(vs++[])) (nO (nO H y<|.own x) x<|.ins T.bz y []) (λv u=>v=.non/\Q (.ref x) u) E0:=Cb T.fz T.fA
abbrev Ki(T:Tx K mg):mD V->Hp->VK->Prop:=Al T.bA
def Ydl:∀vs H Q,Ki T vs H Q->∀x y,H x=none->H y=none->y≠x->xj K (.ref x ::(vs++[])) (nO (nO H y<|.own x) x<|.ins T.bA y []) (λv u=>v=.non/\Q (.ref x) u) E0:=Cb T.fE T.fF
abbrev MD(T:Tx K mg):mD V->Hp->VK->Prop:=Al T.aA
def Zyb:∀vs H Q,MD T vs H Q->∀x y,H x=none->H y=none->y≠x->xj K (.ref x ::(vs++[])) (nO (nO H y<|.own x) x<|.ins T.aA y []) (λv u=>v=.non/\Q (.ref x) u) E0:=Cb T.cT T.em
abbrev Mj(T:Tx K mg):mD V->Hp->VK->Prop:=Al T.bK
def Ybe:∀vs H Q,Mj T vs H Q->∀x y,H x=none->H y=none->y≠x->xj K (.ref x ::(vs++[])) (nO (nO H y<|.own x) x<|.ins T.bK y []) (λv u=>v=.non/\Q (.ref x) u) E0:=Cb T.er T.eR
def Xz(k:mF)(C:mG):Prop:=(k ="points"/\C=T.aA)\/(k ="cross"/\C=T.bK)\/(k ="gate"/\C=T.bA)\/(k ="stop"/\C=T.bz)\/(k ="plain"/\(C=T.cN\/C=T.bJ))
inductive Kn:Sp
 | mk (k nm:mF):vs=[.str k,.str nm]->k∈rh->nm.length<=6->(∀(x C:mG)(H':Hp),nH H H'->H x=none->Xz T k C->qX H' C x nm->Q (.ref x) H')->Kn vs H Q E
def UL:T.eP.O P w mg nI 3 (Kn T):=by
 refine T.eP.F.okA ?_;rfl'
 ·obtain⟨k,nm,rfl,l,I,q⟩:=h;intro X D;let M:IC:=λy r=>y=[some (.str k),some<|.str nm]/\r=H/\k≠ "points"
  refine qk M ?_ ?_
  ·refine qp (Zx (pY hr (pv 0) Zg) Zq Zk)<|.inl #[rfl,Z7 (λu=>?_) λu=>#[rfl,rfl,λz=>u<|by rw[z];simp]];have u:k ="points":=V.str.inj<|pA u;show nU (Zl<|wJ (MD T) T.iF (X9 T) hr.m rfl T.ir T.ao.b .nil Z4 (Zyb T)<|Zb (pv 1) Za) #[nm,rfl,λx r p n o=>q x _ r p n (.inl #[u,rfl]) o]
  rintro y G ⟨rfl,j,i⟩;rw[j];let L:IC:=λy r=>y=[some (.str k),some<|.str nm]/\r=H/\k≠ "cross"
  refine qk L ?_ ?_
  ·refine qp (Zx (pY hr (pv 0) Zg) Zq Zk)<|.inl #[rfl,Z7 (λu=>?_) λu=>#[rfl,rfl,λz=>u<|by rw[z];simp]];have u:k ="cross":=V.str.inj<|pA u;show nU (Zl<|wJ (Mj T) T.iV (X9 T) hr.m rfl T.jv T.ao.b .nil Z4 (Ybe T)<|Zb (pv 1) Za) #[nm,rfl,λx r p n o=>q x _ r p n (.inr<|.inl #[u,rfl]) o]
  rintro y C ⟨rfl,g,e⟩;rw[g];let d:IC:=λy r=>y=[some (.str k),some<|.str nm]/\r=H/\k≠ "gate"
  refine qk d ?_ ?_
  ·refine qp (Zx (pY hr (pv 0) Zg) Zq Zk)<|.inl #[rfl,Z7 (λu=>?_) λu=>#[rfl,rfl,λz=>u<|by rw[z];simp]];have u:k ="gate":=V.str.inj<|pA u;show nU (Zl<|wJ (Ki T) T.ju (X9 T) hr.m rfl T.jg T.ao.b .nil Z4 (Ydl T)<|Zb (pv 1) Za) #[nm,rfl,λx r p n o=>q x _ r p n (.inr<|.inr<|.inl #[u,rfl]) o]
  rintro y B ⟨rfl,c,a⟩;rw[c];let Y:IC:=λy r=>y=[some (.str k),some<|.str nm]/\r=H/\k≠ "stop"
  refine qk Y ?_ ?_
  ·refine qp (Zx (pY hr (pv 0) Zg) Zq Zk)<|.inl #[rfl,Z7 (λu=>?_) λu=>#[rfl,rfl,λz=>u<|by rw[z];simp]];have u:k ="stop":=V.str.inj<|pA u;show nU (Zl<|wJ (Qu T) T.jt (X9 T) hr.m rfl T.jf T.ao.b .nil Z4 (Ydq T)<|Zb (pv 1) Za) #[nm,rfl,λx r p n o=>q x _ r p n (.inr<|.inr<|.inr<|.inl #[u,rfl]) o]
  rintro y H4 ⟨rfl,U,N⟩;rw[U];have J:k ="plain":=by
   unfold rh at l;simp only[oM,vO,rC]at l;rcases l with z|z|z|z|z
   ·show z
   ·show absurd z i
   ·show absurd z e
   ·show absurd z a
   ·show absurd z N
  show nU (Zl<|wJ (OW T) T.iU (X9 T) hr.m rfl T.jq T.ao.b .nil Z4 (Yak T)<|Zb (pv 1) Za) #[nm,rfl,λx r p n o=>q x _ r p n (.inr<|.inr<|.inr<|.inr #[J,.inr rfl]) o]
section
variable {α β κ:Type} [DecidableEq κ] {f:α->κ} {R R':α->β->V->Prop} {kvs:mD (κ×V)}
def DP(f:α->κ)(R:α->β->V->Prop)(kvs:mD (κ×V))(qs:mD (α×β)):Prop:=Paired (λ(kv:κ×V) (q:α×β)=>kv.1=f q.1/\R q.1 q.2 kv.2) kvs qs
def DP.none(h:DP f R kvs qs)(inj:∀a b,f a=f b->a=b){a:α}(n:a∉qs.map fst):Y0 kvs (f a)=none:=by
 unfold DP at h
 induction h with
 | nil=>rfl
 | cons r t y =>
  rw[oR,oM,Af]at n;rw[xz (λz=>n.1 (inj _ _<|r.1.symm.trans z).symm)];show y n.2
def DP.get(h:DP f R kvs qs)(inj:∀a b,f a=f b->a=b)(y:(qs.map fst).Nodup){a:α}{b:β}(m:(a,b)∈qs):∃v,Y0 kvs (f a)=some v/\R a b v:=by
 unfold DP at h
 induction h with
 | nil=>cases m
 | @cons kv q _ _ r t x =>
  rw[oR,qU]at y;rcases oM.mp m with z|z
  ·rw[<-z]at r;show#[_,zS r.1,r.2]
  ·have:a≠q.1:=λe=>y.1 (by rw[<-e];show oh.mpr #[_,z,rfl])
   rw[xz (λe=>this (inj _ _<|r.1.symm.trans e).symm)];show x y.2 z
def DP.put(h:DP f R kvs qs){a:α}{b:β}(n:Y0 kvs (f a)=Option.none)(r:R a b v):DP f R (Ww kvs (f a) v) (qs++[(a,b)]):=by
 rw[Kz v n];show Eo h #[rfl,r]
def DP.len(h:DP f R kvs qs):kvs.length=qs.length:=oz h
def DP.mapR(h:DP f R kvs qs)(m:∀a b v,R a b v->R' a b v):DP f R' kvs qs:=oA h λ_ _ z=>#[z.1,m _ _ _ z.2]
def DP.keys(h:DP f R kvs qs):kvs.map fst=qs.map λq=>f q.1:=by
 unfold DP at h
 induction h with
 | nil=>rfl
 | cons r t y=>rw[oR,oR,y,r.1]
end
def Xc(e:Zh):mD om:=[.inr e.1,.inr e.2]
def W6(a b:Zh)(h:Xc a=Xc b):a=b:=by
 obtain⟨y,x⟩:=a;obtain⟨y,x⟩:=b;unfold Xc at h;simp only[Av,Sum.inr.injEq,and_true]at h;rw[h.1,h.2]
def Xd(s:mF):om:=.inr s
def wZ(a b:mF)(h:Xd a=Xd b):a=b:=zR h
def qP(ps:mD Zh):mD (mF×mF):=ps.map λp=>(p.2,p.1)
def qA(ps:mD Zh):mD (Zh×mF):=ps.flatMap λp=>(Yq p.1).map λe=>((p.2,e),p.1)
def qJ(y:mD (Zh×Zh)):mD (Zh×Zh):=y.flatMap λj=>[(j.1,j.2),(j.2,j.1)]
def qS(y:mD (mF×mF×mF)):mD (mF×Zh):=y.map λq=>(q.1,(q.2.1,q.2.2))
def qO(y:mD (mF×mF×mF)):mD (Zh×mF):=y.map λq=>((q.2.1,q.2.2),q.1)
def DZ(ps:mD Zh):(qP ps).map fst=ps.map snd:=by unfold qP;rw[qj];rfl
def Ef(ps:mD Zh):(qA ps).map fst=Yl ps:=by
 unfold qA Yl;rw[FV];simp only[qj]
 rfl
def ur(y:mD (Zh×Zh)):(qJ y).map fst=Xm y:=by
 unfold qJ Xm;rw[FV]
 rfl
def RK(y:mD (mF×mF×mF)):(qS y).map fst=y.map fst:=by unfold qS;rw[qj];rfl
def HV(y:mD (mF×mF×mF)):(qO y).map fst=y.map snd:=by unfold qO;rw[qj];rfl
def RP(H:Hp):mF->mF->V->Prop:=λnm k v=>∃x C,v=.ref x/\Xz T k C/\qX H C x nm
def RA(H:Hp):Zh->mF->V->Prop:=λe k v=>∃x C,v=.ref x/\Xz T k C/\qX H C x e.1
def RJ(H:Hp):Zh->Zh->V->Prop:=λ_ e v=>∃t,v=.ref t/\Zp H t e
def RS(H:Hp):mF->Zh->V->Prop:=λ_ e v=>∃t,v=.ref t/\Zp H t e
def RO:Zh->mF->V->Prop:=λ_ s v=>v=.str s
def qX.mono(e:nH H y)(h:qX H C x nm):qX y C x nm:=let⟨u,z⟩:=h;#[u,e.at z]
def RP.mono(e:nH H y)(a b:mF)(v:V)(h:RP U H a b v):RP U y a b v:=let⟨x,C,u,s,r⟩:=h;#[x,C,u,s,r.mono e]
def RJ.mono(e:nH H y)(a b:Zh)(v:V)(h:RJ H a b v):RJ y a b v:=let⟨t,x,u⟩:=h;#[t,x,u.mono e]
def RS.mono(e:nH H y)(a:mF)(b:Zh)(v:V)(h:RS H a b v):RS y a b v:=let⟨t,x,u⟩:=h;#[t,x,u.mono e]
def Qd(h:Zp H t e):H t=some (.tup<|(Xc e).map kV):=h
abbrev Au:mF :="abcdefghijklmnopqrstuvwxyz"
abbrev FO:mF :="0123456789"
def YR:∀c,c<128->(!(Builtin.Str.occurrences Au #[(List.toArray [c])] 0 Au.length 1).isEmpty)=sV c:=by left
def ZT:∀c,c<128->(!(Builtin.Str.occurrences (Au++FO) #[(List.toArray [c])] 0 (Au++FO).length 1).isEmpty)=qL c:=by left
def Zx6:Au.length+FO.length<=sizeLine:=by rw[uh];decide +kernel
def QA(h:qL c=true):c<128:=by
 unfold qL sV at h;simp at h;lia
def BP(x:mF):Bool:=(decide (1<=x.length) && decide (x.length<=6)) && (sV (x.cps.toList.headD 0) && x.cps.toList.all qL)
def X7.b(h:X7 x):BP x=true:=by
 obtain⟨y,u,s,r⟩:=h;unfold BP;rw[oO y,oO u,s,r]
 rfl
def X7.low(h:X7 x):∀c∈x.cps.toList,c<128:=λc y=>QA<|xx.mp h.2.2.2 c y
def IS(K:mK)(H:Hp)(v:V)(b:Bool):Prop:=(∃x:mF,v=.str x/\(∀c∈x.cps.toList,c<128)/\x.length<=100/\BP x=b)\/(b=false/\∃t,Xw K H v t/\kitOne K t (.type "str")=some false)
def X7.asked(h:X7 x):IS K H (.str x) true:=.inl #[x,rfl,h.low,by have:=h.2.1;lia,h.b]
inductive Ko(K:mK):Sp
 | mk (v) (b:Bool):vs=[v]->IS K H v b->(∀H',nH H H'->Q (.bl b) H')->Ko K vs H Q E
def AD:T.gh.O P w mg nI 1 (Ko K):=by
 refine T.gh.F.okA ?_;rfl'
 ·obtain⟨v,b,rfl,C,q⟩:=h;intro X D;rcases C with⟨x,rfl,y,u,a⟩|⟨rfl,t,B,k⟩
  ·have hx:x.cps.toList.length=x.length:=ut;refine nR (Zx (Xs<|Yw<|xg "str" T.aj T.eU xu<|pv 0) Zq Zk) #[Xw.str x,.inl<|qC rfl T.kg,?_];refine nR (Zx (rc<|uA (pY hr (pv 0) Zg)<|uP<|Yg xo (qt T.aY<|pv 0) (Ax (by rfl) T.fP)<|Yv _) Zq Zk)<|.inl #[rfl,Z7 (λz=>?_) λz0=>(.inr<|.inl #[x,rfl,sz (by lia),Z7 (λz=>?_) λz1=>?_])]
   ·have e:x=("":mF):=V.str.inj<|pA z;have:b=false:=by rw[<-a,e];decide +kernel
    rw[this]at q;show nU (Zl rK)<|q H<|qu _
   ·have z:(6:Int)<(x.length:Int):=pA z;have:b=false:=by
     rw[<-a];unfold BP;rw[pj (show ¬x.length<=6 by lia),Bool.and_false]
     rfl
    rw[this]at q;show nU (Zl rK)<|q H<|qu _
   have h6:¬(6:Int)<(x.length:Int):=λz=>z1<|oO z
   have u6:x.cps.toList≠[]:=λz=>z0 (oO (by
    have:x=("":mF):=PyProof.Rows.ext_toList (z.trans<|by left);rw[this]))
   obtain⟨c,n,l⟩:∃c n,x.cps.toList=c ::n:=by
    cases e:x.cps.toList with
    | nil=>show absurd e u6
    | cons c n=>show#[c,n,rfl]
   have Y:1<=x.length:=by rw[<-hx,l,qr];lia
   refine nU (Zl<|zT (OV hr (oi (pv 0) Ze)<|Gf (by rfl) T.gq)<|yZ<|Z5 (r:=PP K) (Th rfl) (by rfl) T.jN PyProof.Rows.boot_all<|Zb (qh ["sign"] (pF 1 [] rfl) (TU<|pv 0) (pc 0) X8 (Bz (r:=Cz K) (Hc hr) (pv 0) (Zr W0 (Gf (by rfl) T.gq)<|Gf (by rfl) T.iz)<|by with_unfolding_all rfl)) Za)<|.inr<|.inr #[x,0,c,rfl,rfl,sz (by lia),by rw[l];show Zm (j:=0) rfl,.inr<|.inr<|.inl<|wQ rfl rfl ?_];rw[YR c (y c (by rw[l];show pK))];have u:b=(sV c && x.cps.toList.all qL):=by
    rw[<-a];unfold BP;rw[oO Y,oO (show x.length<=6 by lia),l]
    rfl
   cases L:sV c with
   | false =>
    refine ?_;rw[u,L]at q;show q H (qu _)
   | true =>
    rw[L,Bool.true_and]at u;refine#[x,rfl,?_,λD J=>?_]
    ·rw[Array.all_eq_true'];show λc d=>oO<|y c<|AM.mpr d
    refine Uw (λi g p=>g=(x.cps.toList.take i).map (λc=>V.bl<|qL c)/\p D=some (.lst g)/\nH H p) #[rfl,Zc,λI o e=>by rw[Zd (Zf e J)];show e] ?_ ?_
    ·rintro i d g p hi ⟨rfl,U,N⟩;have G:x.cps.toList[i]? =some d:=by simpa using hi
     have M:d<128:=y d<|qf G;refine#[pE rfl,.inr<|.inl #[_,_,rfl,rfl,Zx6,.inr<|.inr<|.inl #[_,_,rfl,rfl,U,?_,?_]]]
     ·rw[nQ,oZ,uh];lia
     ·rw[ZT d M];refine#[?_,Zc,λI o e=>?_]
      ·rw[oW,G];simp
      ·rw[Zd (Zf e J)];show N I o e
    ·rintro g p ⟨rfl,U,N⟩;refine#[D,(x.cps.toList.map qL),rfl,?_,?_]
     ·have e:(List.map qL x.cps.toList).map V.bl=List.map (λc=>V.bl<|qL c) (List.take x.cps.size x.cps.toList):=by
       rw[qj,tX<|by simp]
       rfl
      rw[e];show nS U
     ·have e:(List.map qL x.cps.toList).all id=b:=by rw[List.all_map,u];rfl
      rw[e];show q p N
  ·refine nR (Zx (Xs<|Yw<|xg "str" T.aj T.eU xu<|pv 0) Zq Zk) #[B,.inl<|qC rfl k,?_];show nU (Zl rK)<|q H<|qu _
inductive Mh:Sp
 | mk (s d kvs):vs=[.str s,.ref d]->X7 s->H d=some (.dK kvs)->Y0 kvs (Xd s)=none->(∀H',nH H H'->Q .non H')->Mh  vs H Q E
def Hw:T.aS.O P w mg nI 2 Mh:=by
 refine T.aS.F.okW Lo ?_;rfl'
 ·obtain⟨x,d,u,rfl,r,hd,p,q⟩:=h;intro X D;refine nR (Zx (Xs<|Yw<|Zv (AD T) hr<|Zb (pv 0) Za) Zq Zk) #[_,true,rfl,r.asked,λo y=>(?_)];refine nU (Zx (sX hr (pv 0)<|pv 1) Zq Zk)<|.inr<|.inl #[d,_,rfl,rn (k:=Xd x)<|y.at hd,Z7 (λz=>?_) λ_=>q o y];rw[p]at z;show absurd z (by lk)
def wE(k:mF):mD mF:=if k ="points" then["left","right"]else[""]
def Dx(k lie:mF):mD (mF×mF):=if k ="points" then[("stem",lie)]else if k ="cross" then[("a","b"),("c","d")]else if k ="plain" then[("a","b")]else[("","a")]
def Jo(k:mF):Bool:=decide<|k∈[("plain":mF),"gate","stop"]
def zH(e:mF):mD (mF×mF)->mF
 | [] =>""
 | (one,two) ::r=>if e=one then two else if e=two then one else zH e r
def uz(k e lie:mF):mF:=if lie∈wE k then zH e (Dx k lie)else ""
def WO(H:Hp)(p:mG)(l:mD (mF×mF)):Prop:=∃y:mD mG,H p=some (.lst<|y.map V.ref)/\Paired (λa (q:mF×mF)=>H a=some (.tup [.str q.1,.str q.2])) y l
inductive vR(xs:mD V):Sp
 | mk (v):vs=[v]->(∀p H',nH H H'->H p=none->H' p=some (.lst xs)->Q (.ref p) H')->vR xs vs H Q E
inductive Aj(f:mF->mD (mF×mF)):Sp
 | mk (v lie):vs=[v,.str lie]->(∀p H',nH H H'->WO H' p (f lie)->Q (.ref p) H')->Aj f vs H Q E
inductive Bw(b:Bool):Sp
 | mk (v):vs=[v]->Q (.bl b) H->Bw b vs H Q E
def Le:T.bZ.O P w mg nI 1 (vR<|(["a","b"]:mD mF).map V.str):=by
 refine T.bZ.F.okA ?_;rfl'
 ·obtain⟨v,rfl,k⟩:=h;intro X D;show nU (Zl<|Zn<|Zb Zg<|Zb Zg Za) #[nV,k]
def Cf:T.aI.O P w mg nI 1 (vR<|([""]:mD mF).map V.str):=by
 refine T.aI.F.okA ?_;rfl'
 ·obtain⟨v,rfl,k⟩:=h;intro X D;show nU (Zl<|Zn<|Zb Zg Za) #[nV,k]
def Qn:T.bP.O P w mg nI 1 (Aj λlie=>[("a","b")]):=by
 refine T.bP.F.okA ?_;rfl'
 ·obtain⟨v,lie,rfl,k⟩:=h;intro X D;show nU (Zl<|Zn<|Zb (Zi<|Zb Zg<|Zb Zg Za) Za) #[nV,λx n u l r=>#[nV,λq p y j o=>k q p (u.trans y) #[[x],o,.cons (y.at r) .nil]]]
def CL:T.aL.O P w mg nI 1 (Bw true):=by
 refine T.aL.F.okA ?_;rfl'
 ·obtain⟨v,rfl,k⟩:=h;intro X D;show nU (Zl rK) k
def PC:T.ci.O P w mg nI 1 (vR<|(["a"]:mD mF).map V.str):=by
 refine T.ci.F.okA ?_;rfl'
 ·obtain⟨v,rfl,k⟩:=h;intro X D;show nU (Zl<|Zn<|Zb Zg Za) #[nV,k]
def Lg:T.bQ.O P w mg nI 1 (Aj λlie=>[("","a")]):=by
 refine T.bQ.F.okA ?_;rfl'
 ·obtain⟨v,lie,rfl,k⟩:=h;intro X D;show nU (Zl<|Zn<|Zb (Zi<|Zb Zg<|Zb Zg Za) Za) #[nV,λx n u l r=>#[nV,λq p y j o=>k q p (u.trans y) #[[x],o,.cons (y.at r) .nil]]]
def Vk:T.cy.O P w mg nI 1 (vR<|(["stem","left","right"]:mD mF).map V.str):=by
 refine T.cy.F.okA ?_;rfl'
 ·obtain⟨v,rfl,k⟩:=h;intro X D;show nU (Zl<|Zn<|Zb Zg<|Zb Zg<|Zb Zg Za) #[nV,k]
def RR:T.bT.O P w mg nI 1 (vR<|(["left","right"]:mD mF).map V.str):=by
 refine T.bT.F.okA ?_;rfl'
 ·obtain⟨v,rfl,k⟩:=h;intro X D;show nU (Zl<|Zn<|Zb Zg<|Zb Zg Za) #[nV,k]
def YK:T.cj.O P w mg nI 1 (Aj λlie=>[("stem",lie)]):=by
 refine T.cj.F.okA ?_;rfl'
 ·obtain⟨v,lie,rfl,k⟩:=h;intro X D;show nU (Zl<|Zn<|Zb (Zi<|Zb Zg<|Zb (pv 1) Za) Za) #[nV,λx n u l r=>#[nV,λq p y j o=>k q p (u.trans y) #[[x],o,.cons (y.at r) .nil]]]
def Zkl:T.ck.O P w mg nI 1 (Bw false):=by
 refine T.ck.F.okA ?_;rfl'
 ·obtain⟨v,rfl,k⟩:=h;intro X D;show nU (Zl rK) k
def WY:T.cL.O P w mg nI 1 (vR<|(["a","b","c","d"]:mD mF).map V.str):=by
 refine T.cL.F.okA ?_;rfl'
 ·obtain⟨v,rfl,k⟩:=h;intro X D;show nU (Zl<|Zn<|Zb Zg<|Zb Zg<|Zb Zg<|Zb Zg Za) #[nV,k]
def Vs:T.cz.O P w mg nI 1 (Aj λlie=>[("a","b"),("c","d")]):=by
 refine T.cz.F.okA ?_;rfl'
 ·obtain⟨v,lie,rfl,k⟩:=h;intro X D;show nU (Zl<|Zn<|Zb (Zi<|Zb Zg<|Zb Zg Za)<|Zb (Zi<|Zb Zg<|Zb Zg Za) Za) #[nV,λu i r g q=>#[nV,λp e x d o=>#[nV,λn l y c j=>k n l (r.trans<|x.trans y) #[[u,p],j,.cons (y.at<|x.at q)<|.cons (y.at o) .nil]]]]
def Znj:T.cA.O P w mg nI 1 (Bw false):=by
 refine T.cA.F.okA ?_;rfl'
 ·obtain⟨v,rfl,k⟩:=h;intro X D;show nU (Zl rK) k
def Xz.ends{T:Tx K mg}{k:mF}{C:mG}(h:Xz T k C):∃f fd,Y1 K C "ends" f/\rj K fd ["self"] []/\∀(P:mS)(w:mP)(nI:mO)(j:Nat),1<=j->Wz P w K mg nI pL j f fd ["self"] (vR<|(Yq k).map V.str):=by
 rcases h with⟨rfl,rfl⟩|⟨rfl,rfl⟩|⟨rfl,rfl⟩|⟨rfl,rfl⟩|⟨rfl,rfl|rfl⟩
 ·show#[_,_,T.fW,T.cy.b,λP w nI j y=>(Vk T).mono y]
 ·show#[_,_,T.gI,T.cL.b,λP w nI j y=>(WY T).mono y]
 ·show#[_,_,T.gX,T.ci.b,λP w nI j y=>(PC T).mono y]
 ·show#[_,_,T.gV,T.ci.b,λP w nI j y=>(PC T).mono y]
 ·show#[_,_,T.gT,T.bZ.b,λP w nI j y=>(Le T).mono y]
 ·show#[_,_,T.gA,T.bZ.b,λP w nI j y=>(Le T).mono y]
def Xz.lies{T:Tx K mg}{k:mF}{C:mG}(h:Xz T k C):∃f fd,Y1 K C "lies" f/\rj K fd ["self"] []/\∀(P:mS)(w:mP)(nI:mO)(j:Nat),1<=j->Wz P w K mg nI pL j f fd ["self"] (vR<|(wE k).map V.str):=by
 rcases h with⟨rfl,rfl⟩|⟨rfl,rfl⟩|⟨rfl,rfl⟩|⟨rfl,rfl⟩|⟨rfl,rfl|rfl⟩
 ·show#[_,_,T.dO,T.bT.b,λP w nI j y=>(RR T).mono y]
 ·show#[_,_,T.gJ,T.aI.b,λP w nI j y=>(Cf T).mono y]
 ·show#[_,_,T.gY,T.aI.b,λP w nI j y=>(Cf T).mono y]
 ·show#[_,_,T.gW,T.aI.b,λP w nI j y=>(Cf T).mono y]
 ·show#[_,_,T.gU,T.aI.b,λP w nI j y=>(Cf T).mono y]
 ·show#[_,_,T.gB,T.aI.b,λP w nI j y=>(Cf T).mono y]
def Xz.pairs{T:Tx K mg}{k:mF}{C:mG}(h:Xz T k C):∃f fd,Y1 K C "pairs" f/\rj K fd ["self","lie"] []/\∀(P:mS)(w:mP)(nI:mO)(j:Nat),1<=j->Wz P w K mg nI pL j f fd ["self","lie"] (Aj<|Dx k):=by
 rcases h with⟨rfl,rfl⟩|⟨rfl,rfl⟩|⟨rfl,rfl⟩|⟨rfl,rfl⟩|⟨rfl,rfl|rfl⟩
 ·show#[_,_,T.fG,T.cj.b,λP w nI j y=>(YK T).mono y]
 ·show#[_,_,T.fX,T.cz.b,λP w nI j y=>(Vs T).mono y]
 ·show#[_,_,T.gF,T.bQ.b,λP w nI j y=>(Lg T).mono y]
 ·show#[_,_,T.gC,T.bQ.b,λP w nI j y=>(Lg T).mono y]
 ·show#[_,_,T.gx,T.bP.b,λP w nI j y=>(Qn T).mono y]
 ·show#[_,_,T.fT,T.bP.b,λP w nI j y=>(Qn T).mono y]
def Xz.bears{T:Tx K mg}{k:mF}{C:mG}(h:Xz T k C):∃f fd,Y1 K C "bears" f/\rj K fd ["self"] []/\∀(P:mS)(w:mP)(nI:mO)(j:Nat),1<=j->Wz P w K mg nI pL j f fd ["self"] (Bw<|Jo k):=by
 rcases h with⟨rfl,rfl⟩|⟨rfl,rfl⟩|⟨rfl,rfl⟩|⟨rfl,rfl⟩|⟨rfl,rfl|rfl⟩
 ·show#[_,_,T.fH,T.ck.b,λP w nI j y=>(Zkl T).mono y]
 ·show#[_,_,T.fY,T.cA.b,λP w nI j y=>(Znj T).mono y]
 ·show#[_,_,T.gG,T.aL.b,λP w nI j y=>(CL T).mono y]
 ·show#[_,_,T.gD,T.aL.b,λP w nI j y=>(CL T).mono y]
 ·show#[_,_,T.gy,T.aL.b,λP w nI j y=>(CL T).mono y]
 ·show#[_,_,T.fU,T.aL.b,λP w nI j y=>(CL T).mono y]
def Xz.cls{T:Tx K mg}{k:mF}{C:mG}(h:Xz T k C):qF K C/\nZ K C "name"/\Y1 K C "leads" T.aG.f:=by
 rcases h with⟨rfl,rfl⟩|⟨rfl,rfl⟩|⟨rfl,rfl⟩|⟨rfl,rfl⟩|⟨rfl,rfl|rfl⟩
 ·show#[T.cT,T.em,T.fJ]
 ·show#[T.er,T.eR,T.fZ]
 ·show#[T.fE,T.fF,T.gH]
 ·show#[T.fz,T.fA,T.gE]
 ·show#[T.gw,T.ib,T.gz]
 ·show#[T.ek,T.eQ,T.fV]
def Xz.stop{T:Tx K mg}{k:mF}{C x:mG}{nm:mF}{H:Hp}(h:Xz T k C)(o:qX H C x nm):∃t,Xw K H (.ref x) t/\kitOne K t (.ref T.bz)=some (decide<|k ="gate"\/k ="stop"):=by
 obtain⟨y,o⟩:=o;rcases h with⟨rfl,rfl⟩|⟨rfl,rfl⟩|⟨rfl,rfl⟩|⟨rfl,rfl⟩|⟨rfl,rfl|rfl⟩
 ·show#[_,Xw.ins o T.cT T.fR T.tG T.tK T.fS,T.jb]
 ·show#[_,Xw.ins o T.er T.gQ T.tG T.tK T.gR,T.jy]
 ·show#[_,Xw.ins o T.fE T.io T.tG T.tK T.iq,T.jR]
 ·show#[_,Xw.ins o T.fz T.ik T.tG T.tK T.il,T.jQ]
 ·show#[_,Xw.ins o T.gw T.ii T.tG T.tK T.ij,T.jP]
 ·show#[_,Xw.ins o T.ek T.gO T.tG T.tK T.gP,T.jx]
inductive Pz:Sp
 | mk (k a C nm e l):vs=[.ref a,.str e,.str l]->Xz T k C->qX H C a nm->(∀H',nH H H'->Q (.str<|uz k e l) H')->Pz vs H Q E
def Qw:T.aG.O P w mg nI 2 (Pz T):=by
 refine T.aG.F.okW Fi ?_;rfl'
 ·obtain⟨k,a,C,nm,e,l,rfl,g,⟨y,U⟩,q⟩:=h;intro X D;obtain⟨y,x,B,b1,g1⟩:=g.lies;obtain⟨y,x,m2,b2,g2⟩:=g.pairs;have N:=g.cls.1;refine nR (Zx (wA hr (pv 2) BG) Zq Zk)<|tz (Yf (pv 0) N B (g1 _ _ _ 1<|by lk) hr b1 .nil Z4) #[U,rfl,_,rfl,λp H1 n x y=>.inl #[.inl<|nS y,rfl,Wa _,?_]];rw[og rfl,W3];refine Z7 (λu=>?_) λu=>?_
  ·have u:¬l∈wE k:=by simpa using u
   refine nU (Zl Zg) ?_;have:uz k e l ="":=by unfold uz;rw[nY u]
   rw[this]at q;show q H1 n
  ·have u:l∈wE k:=by simpa using u
   refine nR (Y9 qo rfl (Yd BG) (tN rfl<|Zu (oY 3 Fi)<|Zu (oY 4 Fi) Y5) Zq)<|tz (Z6 (pv 0) N m2 (g2 _ _ _ 1<|by lk) hr b2 .nil Z4<|Zb (pv 2) Za) #[n.at U,rfl,_,l,rfl,λx H2 d e2=>?_];obtain⟨M,L,J⟩:=e2;let c:IF:=λi y j=>(∃I G,y=[some (.ref a),some<|.str e,some<|.str l,I,G])/\nH H2 j/\zH e ((Dx k l).drop i)=uz k e l
   refine#[nS L,W7 (xs:=M.map V.ref) c ?_ ?_ ?_ ?_]
   ·refine#[#[none,none,rfl],qu _,?_];unfold uz;rw[og u]
    rfl
   ·rintro i y j _ ⟨_,p,_⟩;show nS<|p.at L
   ·rintro i x y j C ⟨⟨I,G,rfl⟩,p,r⟩;rw[oF]at C;obtain⟨o,Y,rfl⟩:=oN.mp C;obtain⟨⟨one,two⟩,hq,ht⟩:=pG J Y;rw[Iu hq]at r;refine#[nX<|p.at ht,rfl,rfl,?_];refine nR (Zx (pY hr (pv 1)<|pv 3) Zq Zk)<|.inl #[rfl,Z7 (λu=>?_) λu=>?_]
    ·have u:e=one:=V.str.inj<|pA u;refine nU (Zl<|pv 4) ?_;unfold zH at r;rw[og u]at r;rw[<-r]at q;show q _<|n.trans<|d.trans p
    ·have u:¬e=one:=λz=>u (oO<|by rw[z])
     refine nU (Zx (pY hr (pv 1)<|pv 4) Zq Zk)<|.inl #[rfl,Z7 (λo=>?_) λo=>?_]
     ·have o:e=two:=V.str.inj<|pA o;refine nU (Zl<|pv 3) ?_;unfold zH at r;rw[nY u,og o]at r;rw[<-r]at q;show q _<|n.trans<|d.trans p
     ·have o:¬e=two:=λz=>o (oO<|by rw[z])
      unfold zH at r;rw[nY u,nY o]at r;show#[#[_,_,rfl],p,r]
   ·rintro y j ⟨_,p,r⟩;refine nU (Zl Zg) ?_;have x:(Dx k l).drop (M.map V.ref).length=[]:=by rw[nQ,oz J,HN]
    rw[x]at r;rw[<-r]at q;show q _<|n.trans<|d.trans p
def _root_.L2.nH.upd0(s:nH H y)(n:H d=none):nH H (nO y d o):=λb u e=>by rw[Zd (Zf e n)];show s.at e
def PO(H:Hp)(x:mG)(p:Zh):Prop:=∃C,Xz T p.1 C/\qX H C x p.2
def PO.mono(e:nH H y)(h:PO U H x p):PO U y x p:=let⟨C,u,s⟩:=h;#[C,u,s.mono e]
inductive Ow:Sp
 | mk (l) (xs:mD mG) (ps:mD Zh):vs=[.ref l]->H l=some (.lst<|xs.map V.ref)->Paired (PO T H) xs ps->(ps.map snd).Nodup->(∀p∈ps,X7 p.2)->ps.length<=100->(∀(d:mG)(kvs:mD (om×V)) (H':Hp),nH H H'->H d=none->H' d=some (.dK kvs)->DP Xd (RP T H) kvs (qP ps)->Q (.ref d) H')->Ow vs H Q E
def UX:T.cY.O P w mg nI 3 (Ow T):=by
 refine T.cY.F.okW HF ?_;rfl'
 ·obtain⟨l,xs,g,rfl,M,L,nd,nm,len,q⟩:=h;intro X D;have c:=oz L;refine nR (oj 1 HF ye) λd H1 J I e1=>?_
  let a:IF:=λi y Y=>(∃o,y=[some (.ref l),some<|.ref d,o])/\nH H Y/\∃u,Y d=some (.dK u)/\DP Xd (RP T H) u (qP<|g.take i)
  refine nR (Y9 qo rfl (Yd<|pv 0) (oY 2 HF) Zq) #[nS<|J.at M,W7 (K:=K) (xs:=xs.map V.ref) a #[#[none,rfl],J,[],e1,.nil] ?_ ?_ ?_]
  ·rintro i y Y _ ⟨_,r,_⟩;show nS<|r.at M
  ·rintro i v y G B ⟨⟨o,rfl⟩,r,u,hd,n⟩;rw[oF]at B;obtain⟨x,U,rfl⟩:=oN.mp B;obtain⟨p,e,C,j,dx,N⟩:=pG L U;have hm:p∈g:=qf e;have E6:=(pT.mp e).1;have hn:Y0 u (Xd p.2)=none:=n.none wZ (by
    rw[DZ,vU];show Dq nd<|by rw[oF,e];rfl)
   have hkl:u.length<=100:=by
    have:=n.len;unfold qP at this;rw[nQ,oZ]at this;lia
   refine nR (Zt<|Zv (Hw T) hr<|Zb (Z2 (pv 2) rfl)<|Zb (pv 1) Za) #[r.at N,j.cls.1,j.cls.2.1,rfl,p.2,d,u,rfl,nm p hm,hd,hn,λH3 s3=>?_];have m9:=r.trans s3;refine nU (uj (Xb hr) (pv 1) (Z2 (pv 2) rfl) (pv 2) rfl) #[m9.at N,j.cls.1,j.cls.2.1,rfl,rH.k (k:=Xd p.2) (s3.at hd) (Zo<|by lia),#[_,rfl],m9.upd0 I,_,Zc,?_];have:qP (g.take<|i+1)=qP (g.take i)++[(p.2,p.1)]:=by
    unfold qP;rw[oW,e,oy]
    rfl
   rw[this];show n.put hn #[x,C,rfl,j,dx,N]
  ·rintro y G ⟨⟨o,rfl⟩,r,u,hd,n⟩;rw[nQ,c,pQ]at n;show nU (Zl<|pv 1)<|q d u G r I hd n
def _root_.L2.nH.frz(s:nH H y):nH (nO H d u) (nO y d u):=λb o e=>by
 by_cases z:b=d
 ·rw[z,Zc]at e ⊢;show e
 ·rw[Zd z]at e ⊢;show s.at e
inductive La:Sp
 | mk (d kvs) (ps:mD Zh):vs=[.ref d]->H d=some (.dK kvs)->DP Xd (RP T H) kvs (qP ps)->(ps.map snd).Nodup->ps.length<=100->(∀(a:mG)(ka:mD (mD om×V)) (H':Hp),nH H H'->H a=none->H' a=some (.dT ka)->DP Xc (RA T H) ka (qA ps)->Q (.ref a) H')->La vs H Q E
def Rn(ps:mD Zh):(qA ps).length<=4 * ps.length:=by
 induction ps with
 | nil=>decide
 | cons p ps y =>
  have:=DT p.1;have e:qA (p ::ps)=(Yq p.1).map (λe=>((p.2,e),p.1))++qA ps:=rfl;rw[e,oP,nQ,qr];lia
def LC{ps:mD Zh}{i:Nat}{p:Zh}(h:ps[i]? =some p):qA (ps.take<|i+1)=qA (ps.take i)++(Yq p.1).map λe=>((p.2,e),p.1):=by
 unfold qA;rw[oW,h,wI];simp
def ZB:T.cZ.O P w mg nI 2 (La T):=by
 refine T.cZ.F.okW X4 ?_;rfl'
 ·obtain⟨d,n,L,rfl,hd,hD,nd,len,q⟩:=h;intro X D;have hkl:n.length=L.length:=by have:=hD.len;unfold qP at this;rw[nQ]at this;show this
  refine nR (oj 1 X4 NV) λa H1 s1 B e1=>?_
  have U:a≠d:=λz=>by rw[z,hd]at B;cases B
  refine nR (Ao<|Y9 qo rfl (yk<|pv 0) (tN rfl<|Zu (oY 2 X4)<|Zu (oY 3 X4) Y5) Zq) #[s1.at hd,λo nf=>EX (λi y Y=>(∃o2 o3 N,y=[some (.ref d),some<|.ref a,o2,o3,N])/\nH (nO H d<|.frz o<|.dK n) Y/\∃l,Y a=some (.dT l)/\DP Xc (RA T H) l (qA<|L.take i)) #[#[none,none,none,rfl],s1.frz,[],by rw[Zd U];show e1,.nil] ?_ ?_ ?_]
  ·rintro i y Y _ ⟨_,J,_⟩;show J.at Zc
  ·rintro i kv y H2 hi ⟨⟨o2,o3,N,rfl⟩,J,l,ha,hA⟩ tp H3 s3 n3 e3;obtain⟨⟨nm,u⟩,hq,hk,x,C,hv,hC,dx,hO⟩:=pG hD hi;have I:L[i]? =some (u,nm):=by
    unfold qP at hq;rw[oF]at hq;obtain⟨⟨p,p2⟩,I,e⟩:=oN.mp hq;rw[I];simp only[Ad]at e;rw[e.1,e.2]
   have E6:=(pT.mp I).1;have hxd:x≠d:=λz=>by rw[z,hd]at hO;cases hO
   have hOF:nO H d (.frz o<|.dK n) x=some (.ins C dx [("name",.str nm)]):=by rw[Zd hxd];show hO
   obtain⟨p,d1,m1,b1,g1⟩:=hC.ends;have hk:kv.1=Sum.inr nm:=hk;rw[hk,hv]at e3;have hFa:nO H d (.frz o<|.dK n) a=none:=by rw[Zd U];show B
   refine#[nX e3,rfl,rfl,?_];have G:=J.trans s3;refine nU (Y9 qo rfl (Yd BG) (oY 4 X4) Zq)<|tz (Yf (pv 3) hC.cls.1 m1 (g1 _ _ _ 1<|by lk) hr b1 .nil Z4) #[G.at hOF,rfl,_,rfl,λp H4 s4 n4 e4=>#[nS e4,W7 (K:=K) (xs:=(Yq u).map V.str) (λj y Y=>(∃N,y=[some (.ref d),some<|.ref a,some<|.str nm,some<|.ref x,N])/\nH (nO H d<|.frz o<|.dK n) Y/\Y p=some (.lst<|(Yq u).map V.str)/\∃l,Y a=some (.dT l)/\DP Xc (RA T H) l (qA (L.take i)++((Yq u).take j).map λe=>((nm,e),u))) #[#[_,rfl],G.trans s4,e4,l,s4.at<|s3.at ha,by rw[List.take_zero,vq,qM];show hA] ?_ ?_ ?_]]
   ·rintro j y Y _ ⟨_,_,z,_⟩;show nS z
   ·rintro j v y H5 hj ⟨⟨N,rfl⟩,s5,M,g,c,r⟩;rw[oF]at hj;obtain⟨e,he,rfl⟩:=oN.mp hj;have hlen5:g.length<=500:=by
     have p:=r.len;have h2:=Rn<|L.take i;have h3:=DT u;rw[oP,nQ,oZ]at p;rw[oZ]at h2;lia
    have C8:Y0 g (Xc (nm,e))=none:=r.none W6 (by
     have p:(Yl<|L.take<|i+1).Nodup:=xU (by rw[vU];show nd.sublist<|Eg _ _);rw[<-Ef,LC I,oy]at p;rw[oy];have ed:Yq u=(Yq u).take j++(e ::(Yq u).drop (j+1)):=by rw[<-Iu he,wj]
     rw[show((u,nm):Zh).1=u from rfl,ed,oy,oy,oR,oR,<-qg,rO]at p;intro m;show p.2.2 _ m _ pK rfl)
    refine nU (uj (Xb hr) (pv 1) (Zi<|Zb (pv 2)<|Zb (pv 4) Za) (pv 3) rfl) #[nV,λt H6 s6 n6 e6=>#[rH.t (k:=Xc (nm,e)) (s6.at c) e6 (Zo<|by lia),#[_,rfl],(s5.trans s6).upd0 hFa,?_,_,Zc,?_]]
    ·rw[Zd (Qq M c (λz=>nomatch z))];show s6.at M
    ·have:((Yq u).take (j+1)).map (λe=>((nm,e),u))=((Yq u).take j).map (λe=>((nm,e),u))++[((nm,e),u)]:=by
      rw[oW,he,oy]
      rfl
     rw[this,<-qg];show r.put C8 #[x,C,rfl,hC,dx,hO]
   ·rintro y H5 ⟨⟨N,rfl⟩,s5,M,g,c,r⟩;rw[nQ,pQ]at r;refine#[#[_,_,_,rfl],s5,g,c,?_];rw[LC I];show r
  ·rintro y H2 ⟨⟨o2,o3,N,rfl⟩,J,l,ha,hA⟩;rw[hkl,pQ]at hA;refine#[d,o,_,J.at Zc,nf,nU (Zl<|pv 1)<|q a l _ (J.thaw hd) B ?_ hA];rw[Zd U];show ha
inductive LK:Sp
 | mk (t u v):vs=[.ref t]->H t=some (.tup [u,v])->Q (.bl true) H->LK  vs H Q E
def KM:T.gi.O P w mg nI 1 LK:=by
 refine T.gi.F.okA ?_;rfl'
 ·obtain⟨t,u,v,rfl,y,q⟩:=h;intro X D;show nU (Zl<|zT (xg "tuple" T.aj T.ix Qc<|pv 0)<|yZ<|xG hr (qt T.aY<|pv 0) Ze) #[Xw.tup y,.inl<|qC rfl T.kq,(.inl #[.inr<|nX y,.inl #[rfl,q]])]
inductive NZ:Sp
 | mk (t d e kvs):vs=[.ref t,.ref d]->Zp H t e->H d=some (.dT kvs)->Q (.bl (Y0 kvs<|Xc e).isSome) H->NZ  vs H Q E
def yX:T.ff.O P w mg nI 2 NZ:=by
 refine T.ff.F.okA ?_;rfl'
 ·obtain⟨t,d,e,x,rfl,y,hd,q⟩:=h;intro X D;show nU (Zl<|zT (Zv (KM T) hr<|Zb (pv 0) Za)<|zT (xg "str" T.aj T.eU xu<|oi (pv 0) Ze)<|zT (xg "str" T.aj T.eU xu<|oi (pv 0) Ze)<|yZ<|OV hr (pv 0)<|pv 1) #[t,_,_,rfl,y,(.inr<|.inl #[nX y,Zm (j:=0) rfl,Xw.str _,.inl<|qC rfl T.kg,(.inr<|.inl #[nX y,Zm (j:=1) rfl,Xw.str _,.inl<|qC rfl T.kg,(.inr<|.inl #[d,_,rfl,Xp.t (k:=Xc e) hd y,q])])])]
inductive Nl:Sp
 | mk (t pa d a b) (e1 e2:Zh) (ka kd):vs=[.ref t,.ref pa,.ref d]->H t=some (.tup [.ref a,.ref b])->Zp H a e1->Zp H b e2->H pa=some (.dT ka)->H d=some (.dT kd)->(Y0 ka<|Xc e1).isSome=true->(Y0 ka<|Xc e2).isSome=true->Y0 kd (Xc e1)=none->Y0 kd (Xc e2)=none->e1.1≠e2.1->Q .non H->Nl  vs H Q E
def Zmz:T.dE.O P w mg nI 3 Nl:=by
 refine T.dE.F.okW Rr ?_;rfl'
 ·obtain⟨t,c,d,a,b,L,J,Y,I,rfl,u,U,N,n,hd,G,C,B,n2,ne,q⟩:=h;intro X D;refine nR (Zx (Xs<|Yw<|Zv (KM T) hr<|Zb (pv 0) Za) Zq Zk) #[t,_,_,rfl,u,?_];let l:IF:=λi y p=>(∃o,y=[some (.ref t),some<|.ref c,some<|.ref d,o])/\p=H
  refine nR (Y9 qo rfl (AG<|pv 0) (oY 3 Rr) Zq) #[nX u,RQ (K:=K) (xs:=[.ref a,.ref b]) l #[#[none,rfl],rfl] ?_ ?_ ?_]
  ·rintro i y p _ ⟨_,rfl⟩;show nX u
  ·rintro i v y p r ⟨⟨o,rfl⟩,g⟩;rw[g];obtain⟨x,e,rfl,M,h1,h2⟩:∃x e,v=V.ref x/\Zp H x e/\(Y0 Y<|Xc e).isSome=true/\Y0 I (Xc e)=none:=by
    match i,r with
    | 0,r=>cases r;show#[a,L,rfl,U,G,B]
    | 1,r=>cases r;show#[b,J,rfl,N,C,n2]
   refine nR (Zx (Xs<|Yw<|Zv (yX T) hr<|Zb (pv 3)<|Zb (pv 1) Za) Zq Zk) #[x,c,e,Y,rfl,M,n,Z7 (λz=>?_) λ_=>?_]
   ·rw[h1]at z;show absurd z (by lk)
   refine nU (Zx (sX hr (pv 3)<|pv 2) Zq Zk)<|.inr<|.inl #[d,_,rfl,Xp.t (k:=Xc e) hd M,Z7 (λz=>?_) λ_=>#[#[_,rfl],rfl]];rw[h2]at z;show absurd z (by lk)
  ·rintro y p ⟨⟨o,rfl⟩,g⟩;rw[g];refine nU (Zx (pY hr (oi (oi (pv 0) Ze) Ze)<|oi (oi (pv 0) Ze) Ze) Zq Zk)<|.inr<|.inl #[nX u,Zm (j:=0) rfl,.inr<|.inl #[nX U,Zm (j:=0) rfl,.inr<|.inl #[nX u,Zm (j:=1) rfl,.inr<|.inl #[nX N,Zm (j:=0) rfl,.inl #[rfl,Z7 (λz=>?_) λ_=>q]]]]];show absurd (V.str.inj<|pA z) ne
inductive OZ:Sp
 | mk (jl pa) (js:mD (Zh×Zh)) (ka:mD (mD om×V)):vs=[.ref jl,.ref pa]->Yo H jl js->H pa=some (.dT ka)->(∀e∈Xm js,(Y0 ka<|Xc e).isSome=true)->ka.length=(Xm js).length->(Xm js).Nodup->(∀j∈js,j.1.1≠j.2.1)->js.length<=300->(∀(d:mG)(kj:mD (mD om×V)) (H':Hp),nH H H'->H d=none->H' d=some (.dT kj)->DP Xc (RJ H) kj (qJ js)->Q (.ref d) H')->OZ  vs H Q E
def JC{y:mD (Zh×Zh)}{i:Nat}{j:Zh×Zh}(h:y[i]? =some j):qJ (y.take<|i+1)=qJ (y.take i)++[(j.1,j.2)]++[(j.2,j.1)]:=by
 unfold qJ;rw[oW,h,wI];simp
def QK(y:mD (Zh×Zh)):(qJ y).length=2 * y.length:=by
 induction y with
 | nil=>rfl
 | cons j y x =>
  have e:qJ (j ::y)=[(j.1,j.2),(j.2,j.1)]++qJ y:=rfl;rw[e,oP,x];simp only[qr,Jn];lia
def VH:T.dF.O P w mg nI 4 OZ:=by
 refine T.dF.F.okW Fc ?_;rfl'
 ·obtain⟨jl,M,p,Y,rfl,hJ,g,hk,L,nd,apart,len,q⟩:=h;intro X D;obtain⟨ts,hl,i9⟩:=hJ;have G9:=oz i9;refine nR (oj 2 Fc NV) λd H1 s1 J e1=>?_
  let I:IF:=λi y G=>(∃o,y=[some (.ref jl),some<|.ref M,some<|.ref d,o])/\nH H G/\∃x,G d=some (.dT x)/\DP Xc (RJ H) x (qJ<|p.take i)
  refine nR (Y9 qo rfl (Yd<|pv 0) (oY 3 Fc) Zq) #[nS<|s1.at hl,W7 (K:=K) (xs:=ts.map V.ref) I #[#[none,rfl],s1,[],e1,.nil] ?_ ?_ ?_]
  ·rintro i y G _ ⟨_,u,_⟩;show nS<|u.at hl
  ·rintro i v y C hi ⟨⟨o,rfl⟩,u,x,hd,n⟩;rw[oF]at hi;obtain⟨t,S8,rfl⟩:=oN.mp hi;obtain⟨j,U,a,b,e,B,hb⟩:=pG i9 S8;have hm:j∈p:=qf U;have E6:=(pT.mp U).1;have m1:j.1∈Xm p:=uD.mpr #[j,hm,by simp];have m2:j.2∈Xm p:=uD.mpr #[j,hm,by simp];have d9:x.length<=600:=by
    have l:=n.len;rw[QK,oZ]at l;lia
   have M3:(Xm (p.take i)++[j.1]++[j.2]).Nodup:=by
    have l:(Xm<|p.take<|i+1).Nodup:=nd.sublist (by
     have:Xm p=Xm (p.take<|i+1)++Xm (p.drop<|i+1):=by rw[<-AX,wj]
     rw[this];show Ou _ _)
    rw[<-ur,JC U,oy,oy,ur]at l;show l
   have nd1:j.1∉Xm (p.take i):=λz=>(rO.mp (rO.mp M3).1).2.2 _ z _ pK rfl
   have c:j.2∉Xm (p.take i)++[j.1]:=λz=>(rO.mp M3).2.2 _ z _ pK rfl
   have v1:Y0 x (Xc j.1)=none:=n.none W6 (by rw[ur];show nd1);have v2:Y0 x (Xc j.2)=none:=n.none W6 (by rw[ur];show λz=>c<|zC _ z);refine nR (Zt<|Zv (Zmz T) hr<|Zb (pv 3)<|Zb (pv 1)<|Zb (pv 2) Za) #[t,M,d,a,b,j.1,j.2,Y,x,rfl,u.at e,B.mono u,hb.mono u,u.at g,hd,hk _ m1,hk _ m2,v1,v2,apart j hm,?_];have R0:DP Xc (RJ H) (Ww x (Xc j.1)<|.ref b) (qJ (p.take i)++[(j.1,j.2)]):=n.put v1 #[b,rfl,hb];have hl1:=Ed x (Xc j.1)<|.ref b;have v3:Y0 (Ww x (Xc j.1)<|.ref b) (Xc j.2)=none:=R0.none W6 (by rw[oy,ur];show c);refine nR (uj (Xb hr) (pv 2) (oi (pv 3) Ze) (oi (pv 3) Ze) rfl)<|.inr<|.inl #[nX<|u.at e,Zm (j:=1) rfl,.inr<|.inl #[nX<|u.at e,Zm (j:=0) rfl,rH.t (k:=Xc j.1) hd (Qd<|B.mono u) (Zo<|by lia),?_]];have N:nH H (nO C d<|.dT<|Ww x (Xc j.1)<|.ref b):=u.upd0 J;refine nU (uj (Xb hr) (pv 2) (oi (pv 3) Ze) (oi (pv 3) Ze) rfl)<|.inr<|.inl #[nX<|N.at e,Zm (j:=0) rfl,.inr<|.inl #[nX<|N.at e,Zm (j:=1) rfl,rH.t (k:=Xc j.2) Zc (Qd<|hb.mono N) (Zo<|by lia),#[_,rfl],N.upd0 J,_,Zc,?_]];rw[JC U];show R0.put v3 #[a,rfl,B]
  ·rintro y C ⟨⟨o,rfl⟩,u,x,hd,n⟩;rw[nQ,G9,pQ]at n;have j:x.length=Y.length:=by
    have l:=n.len;rw[L,l,<-ur,nQ]
   refine nR (Zx (Yg yx (Z5 (r:=Fw) OR (by rfl) T.aY DW<|Zb (pv 2) Za) (Z5 (r:=Fw) OR (by rfl) T.aY DW<|Zb (pv 1) Za)<|Yv _) Zq Zk) #[d,x,rfl,hd,M,Y,rfl,u.at g,Z7 (λz=>?_) λ_=>?_]
   ·have:(x.length:Int)<(Y.length:Int):=pA z;show absurd this (by lia)
   show nU (Zl<|pv 2)<|q d x C u J hd n
inductive Ld:Sp
 | mk (t pa l x C e k nm ka) (us:mD mG) (es):vs=[.ref t,.ref pa,.ref l]->Zp H t e->H pa=some (.dT ka)->Y0 ka (Xc e)=some (.ref x)->Xz T k C->qX H C x nm->Jo k=true->H l=some (.lst<|us.map V.ref)->Paired (Zp H) us es->e∉es->Q .non H->Ld vs H Q E
def GW(h:pW a=pW b):a=b:=by
 obtain⟨y,x⟩:=a;obtain⟨y,x⟩:=b;unfold pW at h;simp only[Tr.tup.injEq,Av,Tr.str.injEq,and_true]at h;rw[h.1,h.2]
def Znb:T.dG.O P w mg nI 3 (Ld T):=by
 refine T.dG.F.okA ?_;rfl'
 ·obtain⟨t,i,l,x,C,e,k,nm,g,d,r,rfl,u,y,p,o,⟨G,c⟩,a,Y,U,N,q⟩:=h;intro X D;obtain⟨x,G,M,L,J⟩:=o.bears;refine nR (Zx (Xs<|Yw<|Zv (yX T) hr<|Zb (pv 0)<|Zb (pv 1) Za) Zq Zk) #[t,i,e,g,rfl,u,y,Z7 (λz=>?_) λ_=>?_]
  ·rw[p]at z;show absurd z (by simp)
  refine nR (Zx (Xs<|Yw BG) Zq Zk)<|tz (Yf (Xy (Xb hr) (pv 1) (pv 0) λ_ _=>rfl) o.cls.1 M (J _ _ _ 2<|by lk) hr L .nil Z4) #[by rw[<-p];show Xp.t (k:=Xc e) y u,c,rfl,_,rfl,Z7 (λz=>?_) λ_=>?_]
  ·rw[a]at z;show absurd z (by lk)
  refine nU (Zx (sX hr (pv 0)<|pv 2) Zq Zk)<|.inr<|.inr<|.inr #[l,1,pW e,r.map pW,d,rfl,nS Y,by lk,wp (n:=0) (nX u)<|.cons (.str _)<|.cons (.str _) .nil,EW U,Z7 (λz=>?_) λ_=>q];have z:pW e∈r.map pW:=pA z;obtain⟨x,j,I⟩:=oh.mp z;rw[GW I]at j;show absurd j N
def Zp.offD(h:Zp H t q)(y:H c=some (.dK xs)):Zp (nO H c o) t q:=by
 unfold Zp at h ⊢;show(Zd λz=>by rw[z,y]at h;cases h).trans h
inductive JR:Sp
 | mk (sl pa) (ts:mD mG) (sg:mD (mF×mF×mF)) (ka):vs=[.ref sl,.ref pa]->H sl=some (.lst<|ts.map V.ref)->Paired (BI H) ts sg->H pa=some (.dT ka)->(∀q∈sg,X7 q.1)->(sg.map fst).Nodup->(sg.map snd).Nodup->sg.length<=100->(∀q∈sg,∃x C k,Y0 ka (Xc (q.2.1,q.2.2))=some (.ref x)/\Xz T k C/\qX H C x q.2.1/\Jo k=true)->(∀(d:mG)(ks:mD (om×V)) (H':Hp),nH H H'->H d=none->H' d=some (.dK ks)->DP Xd (RS H') ks (qS sg)->Q (.ref d) H')->JR vs H Q E
def Tp(h:DP Xd (RS H) y qs):∃us:mD mG,y.map (λkv=>kv.2)=us.map V.ref/\Paired (Zp H) us (qs.map snd):=by
 unfold DP at h
 induction h with
 | nil=>show#[[],rfl,.nil]
 | cons r _ x =>
  obtain⟨us,u,s⟩:=x;obtain⟨_,t,q,p⟩:=r;show#[t ::us,by rw[oR,oR,u,q],.cons p s]
def VC:T.fg.O P w mg nI 4 (JR T):=by
 refine T.fg.F.okW AU ?_;rfl'
 ·obtain⟨sl,pa,ts,o,ka,rfl,hl,i9,G,D6,nd,one,len,hk,q⟩:=h;intro X D;have G9:=oz i9;refine nR (oj 2 AU ye) λd H1 s1 n1 e1=>?_
  let B:IF:=λi y L=>(∃o3 o4 o5,y=[some (.ref sl),some<|.ref pa,some<|.ref d,o3,o4,o5])/\nH H L/\∃p,L d=some (.dK p)/\DP Xd (RS L) p (qS<|o.take i)
  refine nR (Y9 qo rfl (Yd<|pv 0) (oY 3 AU) Zq) #[nS<|s1.at hl,W7 (K:=K) (xs:=ts.map V.ref) B #[#[none,none,none,rfl],s1,[],e1,.nil] ?_ ?_ ?_]
  ·rintro i y L _ ⟨_,g,_⟩;show nS<|g.at hl
  ·rintro i v y H2 hi ⟨⟨o3,o4,o5,rfl⟩,g,p,hd,a⟩;rw[oF]at hi;obtain⟨t,S8,rfl⟩:=oN.mp hi;obtain⟨⟨nm,e,Y⟩,N,J⟩:=pG i9 S8;have J:H t=some (.tup [.str nm,.str e,.str Y]):=J;have hm:((nm,e,Y):mF×mF×mF)∈o:=qf N;have E6:=(pT.mp N).1;obtain⟨x,C,k,hv,hC,hO,hb⟩:=hk _ hm;have d9:p.length<=100:=by
    have h1:=a.len;unfold qS at h1;rw[nQ,oZ]at h1;lia
   have hn:Y0 p (Xd nm)=none:=a.none wZ (by
    rw[RK,vU];show Dq nd<|by rw[oF,N];rfl)
   have he:((e,Y):Zh)∉(qS<|o.take i).map snd:=by
    have:(qS<|o.take i).map snd=(o.map snd).take i:=by
     unfold qS;rw[qj,vU]
     rfl
    rw[this];show Dq one (by rw[oF,N];rfl)
   refine nR (oj 4 AU<|oi (pv 3) Ze)<|.inr<|.inl #[nX<|g.at J,Zm (j:=0) rfl,?_];refine nR (oj 5 AU<|Xk (r:=su K) sE (pv 3) (X1 Ze) Wf)<|.inl #[nX<|g.at J,(show ¬(HT.sIx 3 0 (some 1)=0/\HT.sIx 3 3 none=3) by lk),λI H3 M r e3=>?_];have m9:=g.trans M;have N8:Zp H3 I (e,Y):=e3;refine nR (Zt<|Zv (Hw T) hr<|Zb (pv 4)<|Zb (pv 2) Za) #[nm,d,p,rfl,D6 _ hm,M.at hd,hn,λH4 U=>?_];have u8:=m9.trans U;have C6:DP Xd (RS H4) p (qS<|o.take i):=a.mapR λ_ _ _ z=>RS.mono (M.trans U) _ _ _ z
   obtain⟨us,g9,hup⟩:=Tp C6;refine nR (Zt<|Zv (Znb T) hr<|Zb (pv 5)<|Zb (pv 1)<|Zb (Ztt rfl (by rfl) T.gK<|pv 2) Za) #[d,p,rfl,.inl<|U.at<|M.at hd,λl H5 n n5 e5=>#[I,pa,l,x,C,(e,Y),k,e,ka,us,_,rfl,(N8.mono U).mono n,(u8.trans n).at G,hv,hC,hO.mono<|u8.trans n,hb,by rw[<-g9];show e5,oA hup λ_ _ r=>r.mono n,he,?_]];have B8:=u8.trans n;have c:H5 d=some (.dK p):=n.at<|U.at<|M.at hd;refine nU (uj (Xb hr) (pv 2) (pv 4) (pv 5) rfl) #[rH.k (k:=Xd nm) c (Zo<|by lia),#[_,_,_,rfl],B8.upd0 n1,_,Zc,?_];have:qS (o.take<|i+1)=qS (o.take i)++[(nm,(e,Y))]:=by
    unfold qS;rw[oW,N,oy]
    rfl
   rw[this];have F5:DP Xd (RS<|nO H5 d<|.dK<|Ww p (Xd nm)<|.ref I) p (qS<|o.take i):=C6.mapR λ_ _ _ ⟨u,z1,z2⟩=>#[u,z1,(z2.mono n).offD c]
   show F5.put hn #[I,rfl,((N8.mono U).mono n).offD c]
  ·rintro y H2 ⟨⟨o3,o4,o5,rfl⟩,g,p,hd,a⟩;rw[nQ,G9,pQ]at a;show nU (Zl<|pv 2)<|q d p H2 g n1 hd a
structure Yh(T:Tx K mg)(H:Hp)(x:Addr)(ps:List Zh)(js:List (Zh×Zh))(sg:List (Str×Str×Str)):Prop where
 ex:∃(dx po jo so si:Addr)(kp ks:List (om×V)) (kj ko:List (List om×V)),H x=some (.ins T.aN dx [("part_of",.ref po),("joined",.ref jo),("post_of",.ref so),("signal_on",.ref si)])/\
  H po=some (.dK kp)/\DP Xd (RP T H) kp (qP ps)/\H jo=some (.dT kj)/\DP Xc (RJ H) kj (qJ js)/\H so=some (.dK ks)/\DP Xd (RS H) ks (qS sg)/\H si=some (.dT ko)/\DP Xc RO ko (qO sg)
def Yh.mono(e:nH H y)(h:Yh U H x ps u s):Yh U y x ps u s:=by
 obtain⟨r,q,p,o,n,l,j,i,g,d,c,a,Y,Q,N,M,L,J⟩:=h.ex;show#[r,q,p,o,n,l,j,i,g,e.at d,e.at c,a.mapR<|RP.mono e,e.at Y,Q.mapR<|RJ.mono e,e.at N,M.mapR<|RS.mono e,e.at L,J]
def qz(H:Hp)(x:mG):Hp:=λb=>if b=x then none else H b
def FC :qz H x x=none:=og rfl
def wn(h:H b=some o)(n:b≠x):qz H x b=some o:=(nY n).trans h
def tE :nH (qz H x) (nO H x o):=λb u e=>by
 unfold qz at e
 by_cases z:b=x
 ·rw[og z]at e;cases e
 ·rw[nY z]at e;rw[Zd z];show e
def Dh(s:nH G H)(n:G x=none):nH G (qz H x):=λb u e=>wn (s.at e)<|Zf e n
structure Xq(ps:List Zh)(js:List (Zh×Zh))(sg:List (Str×Str×Str)):Prop where
 net:Net ps js []
 len:ps.length<=40
 name:∀p∈ps,X7 p.2
 sigs:zo ps sg
def Bi.v(h:Bi ps y x):Xq ps y x:=#[h.net,by have:=h.len;lia,λp u=>(h.name p u).nm.ok,h.sigsV]
def Zvg(ps:mD Zh):(Yl ps).length<=4 * ps.length:=by rw[<-Ef,nQ];show Rn ps
def _root_.YM.Net.flat(h:Net ps y []):(Xm y).Perm (Yl ps):=by
 have:=h.perm;rw[qM]at this;show this
def _root_.YM.Net.jlen(h:Net ps y [])(l:ps.length<=40):y.length<=300:=by
 have x:=h.flat.length_eq;have u:=Zvg ps;rw[<-ur,nQ,QK]at x;lia
def YN(y:p∈ps)(x:e∈Yq p.1):((p.2,e),p.1)∈qA ps:=uD.mpr #[p,y,oh.mpr #[e,x,rfl]]
inductive IT:Sp
 | mk (G x dx pl jl sl) (xs:mD mG) (ps js sg):vs=[.ref x,.ref pl,.ref jl,.ref sl]->G x=none->nH G H->H x=some (.ins T.aN dx [])->G pl=some (.lst<|xs.map V.ref)->Paired (PO T G) xs ps->Yo G jl js->vh G sl sg->Xq ps js sg->(∀H',nH G H'->Yh T H' x ps js sg->Q .non H')->IT vs H Q E
def Uu:T.bF.O P w mg nI 5 (IT T):=by
 refine T.bF.F.okW Ge ?_;rfl'
 ·obtain⟨G,x,dx,pl,jl,sl,J,ps,js,L,rfl,hGx,s0,hx,w5,S9,B5,⟨ts,M8,i9⟩,j,q⟩:=h;intro X D;have hxl:=oz S9;have G9:=oz i9;have ylen:=j.len;have slen:=j.sigs.len;refine nR (oj 4 Ge<|W5 (Yg Hs (pv 3) vS<|Yv _) (Zn Za)<|pv 3) #[rfl,?_];refine nR (Zx (rc<|uA (Yg xo (qt T.aY<|pv 1) (Ax (by rfl) T.gM)<|Yv _)<|uP<|Yg xo (qt T.aY<|pv 4) (Ax (by rfl) T.fQ)<|Yv _) Zq Zk)<|.inl #[.inl<|nS<|s0.at w5,Z7 (λz=>?_) λ_=>(.inl #[.inl<|nS<|s0.at M8,Z7 (λz=>?_) λ_=>?_])]
  ·have z:=pA z;rw[nQ]at z;show absurd z (by lia)
  ·have z:=pA z;rw[nQ]at z;show absurd z (by lia)
  refine nR (Wm (pv 0) (Zv (UX T) hr<|Zb (pv 1) Za) rfl) #[pl,J,ps,rfl,s0.at w5,oA S9 λ_ _ r=>r.mono s0,j.net.nd,j.name,by lia,λpo kp H1 s1 m1 e1 dp=>#[s1.at hx,T.af,T.bC,by simp,?_]];have hpx:po≠x:=λz=>by rw[z,hx]at m1;cases m1
  have g1:nH G (qz H1 x):=Dh (s0.trans s1) hGx;have dp1:DP Xd (RP T<|qz H1 x) kp (qP ps):=dp.mapR λa b v ⟨y,C,I,Y,dy,z3⟩=>#[y,C,I,Y,dy,wn (s1.at z3) λz=>by rw[z,hx]at z3;cases z3]
  have ep1:qz H1 x po=some (.dK kp):=wn e1 hpx;refine nR (oj 5 Ge<|Zv (ZB T) hr<|Zb (Z2 (pv 0) rfl) Za) #[Zc,T.af,T.bC,rfl,po,kp,ps,rfl,tE.at ep1,dp1.mapR<|RP.mono tE,j.net.nd,by lia,λpa ka H2 s2 l e2 da=>?_];have B:=s2.at Zc;have ep2:nH G H2:=(g1.trans tE).trans s2;have kaq:∀p∈ps,∀e∈Yq p.1,∃v,Y0 ka (Xc (p.2,e))=some v/\RA T _ (p.2,e) p.1 v:=λp hp e he=>da.get W6 (by rw[Ef];show xU j.net.nd)<|YN hp he
  refine nR (Wm (pv 0) (Zv (VH T) hr<|Zb (pv 2)<|Zb (pv 5) Za) rfl) #[jl,pa,js,ka,rfl,B5.mono ep2,e2,λe he=>?_,?_,?_,j.net.apart,j.net.jlen ylen,λjo kj H3 s3 m3 e3 dj=>#[s3.at B,T.af,T.cw,(by change 1<1000;decide),?_]]
  ·have:=j.net.flat.mem_iff.mp he;obtain⟨p,hp,l⟩:=uD.mp this;obtain⟨e',M,rfl⟩:=oh.mp l;obtain⟨v,hv,_⟩:=kaq p hp e' M;rw[hv];rfl
  ·rw[j.net.flat.length_eq,<-Ef,nQ];show da.len
  ·show j.net.flat.nodup_iff.mpr<|xU j.net.nd
  have hjx:jo≠x:=λz=>by rw[z,B]at m3;cases m3
  have m9:nH (qz H1 x) (qz H3 x):=Dh ((tE.trans s2).trans s3) FC;have ej3:qz H3 x jo=some (.dT kj):=wn e3 hjx;have hpax:pa≠x:=λz=>by rw[z,B]at e2;cases e2
  have epa:qz H3 x pa=some (.dT ka):=wn (s3.at e2) hpax;have dj3:DP Xc (RJ<|qz H3 x) kj (qJ js):=dj.mapR λa b v ⟨u,I,Y⟩=>#[u,I,wn (s3.at Y) λz=>by rw[z]at Y;show nomatch B.symm.trans Y]
  have g3:nH G (qz H3 x):=g1.trans m9;refine nR (Wm (pv 0) (Zv (VC T) hr<|Zb (pv 4)<|Zb (pv 5) Za) rfl) #[sl,pa,ts,L,ka,rfl,tE.at<|g3.at M8,oA i9 λ_ _ r=>(g3.trans tE).at r,tE.at epa,j.sigs.name,j.sigs.nd,j.sigs.one,by lia,λg hg=>?_,λU ks H4 s4 m4 e4 ds=>#[s4.at Zc,T.af,T.bD,(by change 2<1000;decide),?_]]
  ·obtain⟨p,hp,h1,h2,h3⟩:=j.sigs.at_ g hg;obtain⟨v,hv,y,C,rfl,hC,dy,l⟩:=kaq p hp g.2.2 h3;refine#[y,C,p.1,by rw[<-h1];show hv,hC,#[dy,?_],oO h2];have M:y≠x:=λz=>by rw[z,Zc]at l;cases l
   rw[Zd M,<-h1];show s3.at<|s2.at l
  have hsx:U≠x:=λz=>by rw[z,Zc]at m4;cases m4
  have hx4:=s4.at<|Zc (H:=H3) (a:=x);have s34:nH (qz H3 x) (qz H4 x):=Dh (tE.trans s4) FC;have es4:qz H4 x U=some (.dK ks):=wn e4 hsx;have ds4:DP Xd (RS<|qz H4 x) ks (qS L):=ds.mapR λa b v ⟨u,I,Y⟩=>#[u,I,wn Y λz=>by rw[z]at Y;show nomatch hx4.symm.trans Y]
  refine nU (Wm (pv 0) (Xa (r:=KS) (Zud rfl hr.units) (by rfl) T.eK Ab<|Zb (Jm<|qh ["name","end"] (pF 2 [] rfl) (yk<|Z2 (pv 0) rfl) (xB (K:=K) (n:=2) rfl rfl<|Zu (pc 0)<|Zu (pc 1) Y5) X8 (Zi<|Zb (pv 1)<|Zb (pv 0) Za)) Za) rfl) #[Zc,T.af,T.bD,rfl,tE.at es4,λo nf D hD=>Fj (λi ys H'=>nH (nO (nO H4 x<|.ins T.aN dx [("part_of",.ref po),("joined",.ref jo),("post_of",.ref U)]) U<|.frz o<|.dK ks) H'/\H' D=some (.lst ys)/\∃d:mD mG,ys=d.map V.ref/\Paired (λt (q:mD om×V)=>∃a,H' t=some (.tup [.ref a,q.2])/\H' a=some (.tup<|q.1.map kV)) d ((qO<|L.take i).map λq=>(Xc q.1,V.str q.2))) #[pP hD,Zc,[],rfl,.nil] ?_ ?_ ?_]
  ·rintro i ys H' _ ⟨z,_⟩;show z.at Zc
  ·rintro i kv ys H5 hi ⟨s5,O0,d,rfl,N⟩ tp H6 l n6 e6;obtain⟨⟨nm,e⟩,hq,hk,t,hv,ht⟩:=pG ds4 hi;have hk:kv.1=Sum.inr nm:=hk;rw[hk,hv]at e6;have hg:L[i]? =some (nm,e.1,e.2):=by
    unfold qS at hq;rw[oF]at hq;obtain⟨⟨g1,g2,g3⟩,hg,e'⟩:=oN.mp hq;rw[hg];simp only[Ad]at e';rw[<-e'.1,<-e'.2]
   have E6:=(pT.mp hg).1;have hto:t≠U:=λz=>by rw[z]at ht;show nomatch es4.symm.trans ht
   have htF:nO (nO H4 x<|.ins T.aN dx [("part_of",.ref po),("joined",.ref jo),("post_of",.ref U)]) U (.frz o<|.dK ks) t=some (.tup<|(Xc e).map kV):=by
    rw[Zd hto];show tE.at ht
   have htl':d.length<=100:=by
    have:=oz N;unfold qO at this;rw[nQ,nQ,oZ]at this;lia
   refine#[nX e6,rfl,rfl,(pE rfl).trans (pE rfl),nV,λt' H7 M n7 e7=>#[M.at<|l.at O0,by rw[nQ];show Zo (by lia),?_,Zc,d++[t'],by rw[oy];rfl,?_]]
   ·intro c u z;rw[Zd (Zf z hD)];show M.at<|l.at<|s5.at z
   ·have hD7:=M.at<|l.at O0;have off:∀{c:mG}{J:mD V}{u:HO},H7 c=some (.tup J)->nO H7 D u c=some (.tup J):=λ{c J u} z=>(Zd λy=>by rw[y,hD7]at z;cases z).trans z
    have:(qO<|L.take<|i+1).map (λq=>(Xc q.1,V.str q.2))=(qO<|L.take i).map (λq=>(Xc q.1,V.str q.2))++[(Xc e,V.str nm)]:=by
     unfold qO;rw[oW,hg,oy,oy]
     rfl
    rw[this];show Eo (oA N λ_ _ ⟨a,I,Y⟩=>#[a,off<|M.at<|l.at I,off<|M.at<|l.at Y]) #[t,off e7,off<|M.at<|l.at<|s5.at htF]
  ·rintro ys H5 ⟨s5,O0,d,rfl,N⟩;have hks:ks.length=L.length:=by
    have:=ds4.len;unfold qS at this;rw[nQ]at this;show this
   rw[hks,pQ]at N;have M:=s5.at Zc;have off:∀{c:mG}{J:mD V}{u:HO},H5 c=some (.tup J)->nO H5 U u c=some (.tup J):=λ{c J u} z=>(Zd λy=>by rw[y,M]at z;cases z).trans z
   have sT:nH (nO H4 x<|.ins T.aN dx [("part_of",.ref po),("joined",.ref jo),("post_of",.ref U)]) (nO H5 U<|.dK ks):=s5.thaw<|tE.at es4;refine#[U,o,_,M,nf,D,d,_,rfl,?_,oA N λ_ _ ⟨a,I,Y⟩=>#[a,off I,off Y],?_,λsi H8 s8 n8 e8=>#[s8.at<|sT.at Zc,T.af,T.bH,(by change 3<1000;decide),?_]]
   ·rw[Zd λy=>by rw[y,M]at O0;cases O0];show O0
   ·rw[qj];have e1:(qO L).map (fst ∘ λq=>(Xc q.1,V.str q.2))=((qO L).map fst).map Xc:=by rw[qj];rfl
    rw[e1,HV];show j.sigs.one.map Xc λa b ne z=>ne<|W6 a b z
   have hix:si≠x:=λz=>by rw[z,sT.at Zc]at n8;cases n8
   have s48:nH (qz H4 x) (qz H8 x):=Dh ((tE.trans sT).trans s8) FC;have ei8:qz H8 x si=some (.dT<|(qO L).map λq=>(Xc q.1,V.str q.2)):=wn e8 hix;have f4:nH (qz H4 x) (nO H8 x<|.ins T.aN dx [("part_of",.ref po),("joined",.ref jo),("post_of",.ref U),("signal_on",.ref si)]):=s48.trans tE;have f3:=s34.trans f4;have f1:=m9.trans f3;refine q _ (g1.trans f1) #[dx,po,jo,U,si,kp,ks,kj,_,Zc,f1.at ep1,dp1.mapR<|RP.mono f1,f3.at ej3,dj3.mapR<|RJ.mono f3,f4.at es4,ds4.mapR<|RS.mono f4,tE.at ei8,?_];have all:∀l:mD (Zh×mF),DP Xc RO (l.map λq=>(Xc q.1,V.str q.2)) l:=λl=>by
    induction l with
    | nil=>show .nil
    | cons p l ih=>show .cons #[rfl,rfl] ih
   show all _
def QX:mD V->Hp->VK->Prop:=λl H Q=>∃(q p o:mG)(n:mD mG)(y:mD Zh)(u:mD (Zh×Zh)) (s:mD (mF×mF×mF)),l=[.ref q,.ref p,.ref o]/\H q=some (.lst<|n.map V.ref)/\Paired (PO T H) n y/\Yo H p u/\vh H o s/\Xq y u s/\∀x r,nH H r->H x=none->Yh T r x y u s->Q (.ref x) r
def XE:∀vs H Q,QX T vs H Q->
  ∀x y,H x=none->H y=none->y≠x->IT T (.ref x ::(vs++[])) (nO (nO H y<|.own x) x<|.ins T.aN y []) (λv p=>v=.non/\Q (.ref x) p) E0:=by
 rintro vs H Q ⟨n,l,j,i,h,g,d,rfl,c,a,Y,U,N,q⟩ x y u r L;refine#[H,x,y,n,l,j,i,h,g,d,rfl,u,λb o e=>?_,Zc,c,a,Y,U,N,λM s t=>#[rfl,q x M s u t]];rw[Zd (Zf e u),Zd<|Zf e r];show e
def AZ(H:Hp)(x:mG)(nm:mF)(y:mG):Prop:=∃C r u fs s,H x=some (.ins C r<|("part_of",.ref u) ::fs)/\H u=some (.dK s)/\Y0 s (Xd nm)=some (.ref y)
def AZ.one(h:AZ H x nm y)(h':AZ H x nm q):y=q:=by
 obtain⟨C,l,j,fs,i,p,o,n⟩:=h;obtain⟨e,l,j,i,g,u,s,r⟩:=h';rw[p]at u;cases u;rw[o]at s;cases s;rw[n]at r;cases r
 rfl
def Yh.part(u:Yh U H x ps s r)(q:Xq ps s r)(p:((k,nm):Zh)∈ps):∃y C,Xz U k C/\qX H C y nm/\AZ H x nm y:=by
 obtain⟨g,e,d,c,a,Y,Q,N,M,o,n,l,_⟩:=u.ex;obtain⟨v,j,y,C,rfl,i,h⟩:=l.get wZ (by rw[DZ];show q.net.nd) (show((nm,k):mF×mF)∈qP ps from oh.mpr #[(k,nm),p,rfl]);show#[y,C,i,h,_,_,_,_,_,o,n,j]
inductive HP:Sp
 | mk (x nm k ps js sg):vs=[.ref x,.str nm]->Yh T H x ps js sg->Xq ps js sg->((k,nm):Zh)∈ps->(∀(y C:mG)(H':Hp),nH H H'->Xz T k C->qX H' C y nm->AZ H x nm y->Q (.ref y) H')->HP vs H Q E
def Wg:T.aO.O P w mg nI 2 (HP T):=by
 refine T.aO.F.okA ?_;rfl'
 ·obtain⟨x,nm,k,j,U,N,rfl,i,n,l,q⟩:=h;intro X D;obtain⟨x,g,U,N,M,L,J,I,G,r,p,e,_⟩:=i.ex;have d:((nm,k):mF×mF)∈qP j:=oh.mpr #[(k,nm),l,rfl];obtain⟨v,o,y,C,rfl,c,a⟩:=e.get wZ (by rw[DZ];show n.net.nd) d;refine nR (Zx (rc<|uA (Xs<|Yw<|Zv (AD T) hr<|Zb (pv 1) Za)<|uP<|wA hr (pv 1)<|Z2 (pv 0) rfl) Zq Zk) #[_,true,rfl,(n.name _ l).asked,λY u=>(#[u.at r,T.af,T.bC,rfl,.inr<|.inl #[g,_,rfl,rn (k:=Xd nm)<|u.at p,Z7 (λz=>?_) λ_=>?_]])]
  ·rw[o]at z;show absurd z (by simp)
  show nU (Zl<|Xy (Xb hr) (Z2 (pv 0) rfl) (pv 1) λ_ _=>rfl) #[u.at r,T.af,T.bC,rfl,by rw[<-o];show rn (k:=Xd nm)<|u.at p,q y C Y u c (a.mono u) #[_,_,_,_,_,r,p,o]]
inductive KO:Sp
 | mk (x t e ps js sg):vs=[.ref x,.ref t]->Yh T H x ps js sg->Xq ps js sg->Zp H t e->((e∈Yl ps/\∀t' e',((e,e'):Zh×Zh)∈qJ js->Zp H t' e'->Q (.ref t') H)\/(e∉Yl ps/\∀t' H',nH H H'->H t'=none->Zp H' t' ("","")->Q (.ref t') H'))->KO vs H Q E
def Wy:T.aR.O P w mg nI 3 (KO T):=by
 refine T.aR.F.okA ?_;rfl'
 ·obtain⟨x,t,e,a,g,N,rfl,Y,y,r,q⟩:=h;intro X D;obtain⟨x,a,d,N,M,L,J,p,I,o,G,C,n,c,_⟩:=Y.ex;have U:((qJ g).map fst).Nodup:=by rw[ur];show y.net.flat.nodup_iff.mpr<|xU y.net.nd
  rcases q with⟨l,q⟩|⟨l,q⟩
  ·have:e∈(qJ g).map fst:=by rw[ur];show y.net.flat.mem_iff.mpr l
   obtain⟨⟨N,j⟩,a,rfl⟩:=oh.mp this;obtain⟨v,u,i,rfl,x⟩:=c.get W6 U a;refine nU (Zl<|W5 (Yw<|Zv (yX T) hr<|Zb (pv 1)<|Zb (Z2 (pv 0) rfl) Za) (Xy (Xb hr) (Z2 (pv 0) rfl) (pv 1) λ_ _=>rfl)<|Zi<|Zb Zg<|Zb Zg Za) #[o,T.af,T.cw,rfl,t,d,_,p,rfl,r,n,?_];rw[u];show#[o,T.af,T.cw,rfl,by rw[<-u];show Xp.t (k:=Xc N) n r,q i j a x]
  ·have u:Y0 p (Xc e)=none:=c.none W6 (by rw[ur];show λz=>l<|y.net.flat.mem_iff.mp z);refine nU (Zl<|W5 (Yw<|Zv (yX T) hr<|Zb (pv 1)<|Zb (Z2 (pv 0) rfl) Za) (Xy (Xb hr) (Z2 (pv 0) rfl) (pv 1) λ_ _=>rfl)<|Zi<|Zb Zg<|Zb Zg Za) #[o,T.af,T.cw,rfl,t,d,_,p,rfl,r,n,?_];rw[u];show#[nV,λi x a N j=>q i x a N j]
def Yko(y:mD (mF×mF×mF))(e:Zh):Bool:=decide<|e∈y.map snd
inductive JU:Sp
 | mk (x t e ps js) (sg:mD (mF×mF×mF)):vs=[.ref x,.ref t]->Yh T H x ps js sg->Xq ps js sg->Zp H t e->(∀nm:mF,((nm,e)∈qS sg/\X7 nm/\e∈sg.map snd)\/(nm =""/\e∉sg.map snd)->Q (.str nm) H)->JU vs H Q E
def X0:T.aF.O P w mg nI 3 (JU T):=by
 refine T.aF.F.okA ?_;rfl'
 ·obtain⟨x,t,e,y,u,g,rfl,U,d,o,q⟩:=h;intro X D;obtain⟨y,x,u,j,c,M,L,J,r,n,_,_,_,_,_,_,l,Y⟩:=U.ex;have N:((qO g).map fst).Nodup:=by rw[HV];show d.sigs.one
  by_cases p:e∈g.map snd
  ·obtain⟨⟨nm,y,x⟩,j,rfl⟩:=oh.mp p;obtain⟨v,i,rfl⟩:=Y.get W6 N (a:=(y,x)) (b:=nm)<|oh.mpr #[_,j,rfl];refine nU (Zl<|W5 (Yw<|Zv (yX T) hr<|Zb (pv 1)<|Zb (Z2 (pv 0) rfl) Za) (Xy (Xb hr) (Z2 (pv 0) rfl) (pv 1) λ_ _=>rfl) Zg) #[n,T.af,T.bH,rfl,t,c,_,r,rfl,o,l,?_];have u:Y0 r (Xc (y,x))=some (.str nm):=i;rw[show((nm,y,x):mF×mF×mF).snd=(y,x)from rfl,u];show#[n,T.af,T.bH,rfl,by rw[<-u];show Xp.t (k:=Xc (y,x)) l o,q nm<|.inl #[oh.mpr #[_,j,rfl],d.sigs.name _ j,p]]
  ·have i:Y0 r (Xc e)=none:=Y.none W6 (by rw[HV];show p);refine nU (Zl<|W5 (Yw<|Zv (yX T) hr<|Zb (pv 1)<|Zb (Z2 (pv 0) rfl) Za) (Xy (Xb hr) (Z2 (pv 0) rfl) (pv 1) λ_ _=>rfl) Zg) #[n,T.af,T.bH,rfl,t,c,_,r,rfl,o,l,?_];rw[i];show(q _<|.inr #[rfl,p])
abbrev S4:=mF×mF×mF×mF
def qK(H:Hp)(t:mG)(q:S4):Prop:=H t=some (.tup [.str q.1,.str q.2.1,.str q.2.2.1,.str q.2.2.2])
def qK.mono(e:nH H y)(h:qK H t q):qK y t q:=e.at h
inductive NQ:Sp
 | mk (t) (q:S4):vs=[.ref t]->qK H t q->(∀t' H',nH H H'->H t'=none->Zp H' t' (q.1,q.2.2.1)->Q (.ref t') H')->NQ  vs H Q E
def CD:T.dX.O P w mg nI 1 NQ:=by
 refine T.dX.F.okA ?_;rfl'
 ·obtain⟨t,x,rfl,y,q⟩:=h;intro X D;show nU (Zl<|Zi<|Zb (oi (pv 0) Ze)<|Zb (oi (pv 0) Ze) Za)<|.inr<|.inl #[nX y,Zm (j:=0) rfl,.inr<|.inl #[nX y,Zm (j:=2) rfl,nV,q]]
def uq(y:mD (mF×mF×mF))(q:S4):Bool:=decide (q.2.2.1 ="") || decide (((q.1,q.2.2.1):Zh)∈y.map snd)
inductive Re:Sp
 | mk (x t q ps js sg):vs=[.ref x,.ref t]->Yh T H x ps js sg->Xq ps js sg->qK H t q->(∀H',nH H H'->Q (.bl<|uq sg q) H')->Re vs H Q E
def zQ(h:X7 s):s≠ "":=λz=>by
 have:=h.1;rw[z]at this;show absurd this (by lk)
def Ju:T.dY.O P w mg nI 4 (Re T):=by
 refine T.dY.F.okA ?_;rfl'
 ·obtain⟨x,t,u,g,d,p,rfl,n,c,l,q⟩:=h;intro X D;obtain⟨y,_,_,_,_,_,_,_,_,a,_⟩:=n.ex;refine nU (Zl<|Py (xG hr (oi (pv 1) Ze) Zg)<|yZ<|Qa hr (Z6 (pv 0) T.af T.bu (X0 T) hr.m T.aF.b .nil Z4<|Zb (Zv (CD T) hr<|Zb (pv 1) Za) Za) Zg)<|.inr<|.inl #[nX l,Zm (j:=2) rfl,.inl #[rfl,Z7 (λz=>?_) λz=>?_]]
  ·have z:u.2.2.1 ="":=V.str.inj<|pA z;have e:uq p u=true:=by unfold uq;rw[oO z];rfl
   rw[e]at q;show q H<|qu _
  ·have z:¬u.2.2.1 ="":=λy=>z (oO<|by rw[y])
   refine#[a,rfl,t,u,rfl,l,λY U i M N=>#[x,Y,_,g,d,p,rfl,n.mono i,c,N,λnm r=>.inl #[rfl,?_]]];have e:uq p u=!decide (V.str nm=V.str ""):=by
    unfold uq;rw[pj z];rcases r with⟨_,r,o⟩|⟨r,o⟩
    ·rw[oO o,pj λy=>zQ r<|V.str.inj y];rfl
    ·rw[pj o,r];rfl
   rw[<-e];show q U i
inductive PZ:Sp
 | mk (x) (ps:mD Zh) (js sg):vs=[.ref x]->Yh T H x ps js sg->Xq ps js sg->(∀ss:mD mF,ss.Perm (ps.map snd)->PyProof.Rows.sortedS ss=true->qv H (.lst<|ss.map V.str) Q)->PZ vs H Q E
def Mb:T.bI.O P w mg nI 1 (PZ T):=by
 refine T.bI.F.okA ?_;rfl'
 ·obtain⟨x,y,g,e,rfl,u,p,q⟩:=h;intro X D;obtain⟨x,o,g,e,d,n,c,a,Y,l,j,i,_⟩:=u.ex;refine nU (Zl<|Z5 (r:=CV) (Iy rfl) (by rfl) T.cQ yn<|Zb (Z2 (pv 0) rfl) Za) #[l,T.af,T.bC,rfl,o,n,y.map snd,rfl,.inl j,?_,by rw[nQ];have:=p.len;lia,q];have:=pO (List.map kV) i.keys;rw[qj,qj]at this;refine Eq.trans this ?_;rw[<-DZ,qj]
  rfl
def Xz.gate{T:Tx K mg}{k:mF}{C x:mG}{nm:mF}{H:Hp}(h:Xz T k C)(o:qX H C x nm):∃t,Xw K H (.ref x) t/\kitOne K t (.ref T.bA)=some (decide<|k ="gate"):=by
 obtain⟨y,o⟩:=o;rcases h with⟨rfl,rfl⟩|⟨rfl,rfl⟩|⟨rfl,rfl⟩|⟨rfl,rfl⟩|⟨rfl,rfl|rfl⟩
 ·show#[_,Xw.ins o T.cT T.fR T.tG T.tK T.fS,T.jc]
 ·show#[_,Xw.ins o T.er T.gQ T.tG T.tK T.gR,T.jC]
 ·show#[_,Xw.ins o T.fE T.io T.tG T.tK T.iq,T.jU]
 ·show#[_,Xw.ins o T.fz T.ik T.tG T.tK T.il,T.jT]
 ·show#[_,Xw.ins o T.gw T.ii T.tG T.tK T.ij,T.jS]
 ·show#[_,Xw.ins o T.ek T.gO T.tG T.tK T.gP,T.jz]
def Xz.pts{T:Tx K mg}{k:mF}{C x:mG}{nm:mF}{H:Hp}(h:Xz T k C)(o:qX H C x nm):∃t,Xw K H (.ref x) t/\kitOne K t (.ref T.aA)=some (decide<|k ="points"):=by
 obtain⟨y,o⟩:=o;rcases h with⟨rfl,rfl⟩|⟨rfl,rfl⟩|⟨rfl,rfl⟩|⟨rfl,rfl⟩|⟨rfl,rfl|rfl⟩
 ·show#[_,Xw.ins o T.cT T.fR T.tG T.tK T.fS,T.jd]
 ·show#[_,Xw.ins o T.er T.gQ T.tG T.tK T.gR,T.jE]
 ·show#[_,Xw.ins o T.fE T.io T.tG T.tK T.iq,T.jX]
 ·show#[_,Xw.ins o T.fz T.ik T.tG T.tK T.il,T.jW]
 ·show#[_,Xw.ins o T.gw T.ii T.tG T.tK T.ij,T.jV]
 ·show#[_,Xw.ins o T.ek T.gO T.tG T.tK T.gP,T.jD]
def wX(ps:mD Zh)(kd:mF)(ss:mD mF):mD mF:=ss.filter λn=>decide<|((kd,n):Zh)∈ps
def JG{ps:mD Zh}(h:(ps.map snd).Nodup){a b:Zh}(u:a∈ps)(s:b∈ps)(e:a.2=b.2):a=b:=by
 induction ps with
 | nil=>cases u
 | cons p r q =>
  rw[oR,qU]at h;rcases oM.mp u with rfl|y
  ·rcases oM.mp s with rfl|x
   ·rfl
   ·show absurd (oh.mpr #[b,x,e.symm]) h.1
  ·rcases oM.mp s with rfl|x
   ·show absurd (oh.mpr #[a,y,e]) h.1
   ·show q h.2 y x
def Zta{ps:mD Zh}{kd n:mF}{ss:mD mF}{j:Nat}(h:ss[j]? =some n):wX ps kd (ss.take<|j+1)=wX ps kd (ss.take j)++if((kd,n):Zh)∈ps then[n]else[]:=by
 unfold wX;rw[oW,h,vw,show(some n).toList=[n]from rfl,tJ]
 by_cases z:((kd,n):Zh)∈ps
 ·rw[og (oO z),og z,xX]
 ·rw[nY (by simpa using z),nY z,xX]
def GM(ps:mD Zh)(kd:mF)(ss:mD mF):(wX ps kd ss).length<=ss.length:=yI _ _
def Nb{T:Tx K mg}{M x l D:mG}{kd:mF}{ss:mD mF}{ps:mD Zh}{d:mD (Zh×Zh)}{c:mD (mF×mF×mF)}{r:Hp}{Q:VK}{y:St}{E:XK}
  (hk:∀{k:mF}{C u:mG}{nm:mF}{H:Hp},Xz T k C->qX H C u nm->∃t,Xw K H (.ref u) t/\kitOne K t (.ref M)=some (decide<|k=kd))
  (L:Yh T r x ps d c) (a:Xq ps d c) (J:ss.Perm (ps.map snd)) (hl:r l=some (.lst<|ss.map V.str)) (I:r D=none)
  (q:∀s,nH r s->s D=some (.lst<|(wX ps kd ss).map V.str)->Q (.ref D) s) {fr:St->St} (A3:fr y=[none,some<|.ref x]) :
  sj (vJ K l) fr (rT 0) (tB<|yT (yU K)<|uV (HJ T.aN "named" (HP T) [] E (sJ 1) (uV (sJ 0) xI))<|uV (tC<|.ref M) xI) (sJ 0) Q y r D:=by
 obtain⟨o,n,j,g,e,Y,U,N,G,h1,_⟩:=L.ex;have hn:ss.length<=40:=by rw[J.length_eq,nQ];show a.len
 refine Yp (xs:=ss.map V.str) (λi h s=>h=(wX ps kd<|ss.take i).map V.str/\s D=some (.lst h)/\nH r s) #[rfl,Zc,pP I] ?_ ?_ ?_
 ·rintro i h s _ ⟨_,_,p⟩;show nS<|p.at hl
 ·rintro j v h s G ⟨rfl,z7,p⟩;rw[oF]at G;obtain⟨n,B,rfl⟩:=oN.mp G;obtain⟨⟨k,A⟩,Y,rfl⟩:=oh.mp<|J.mem_iff.mp<|qf B;unfold ro;rw[A3];refine#[pE rfl,p.at h1,rfl,x,A,k,ps,d,c,rfl,L.mono p,a,Y,λu C o U hC hO _=>?_];obtain⟨t,ht,g⟩:=hk hC hO;have hd:decide (k=kd)=decide (((kd,A):Zh)∈ps):=by
   refine Ea.mpr #[λe=>e ▸ Y,λe=>?_];show pO fst<|JG a.net.nd Y e rfl
  rw[hd]at g;refine#[ht,.inr #[_,rfl,g],?_];have y8:=U.at z7;rw[Zta B];refine Z7 (λN=>?_) λN=>?_
  ·rw[og (pA N)];refine#[y8,?_,?_,Zc,λb o e=>?_]
   ·rw[nQ];have:=GM ps kd<|ss.take j;rw[oZ]at this;show Zo (by lia)
   ·rw[oy];rfl
   ·rw[Zd (Zf e I)];show U.at<|p.at e
  ·rw[nY (λz=>N<|oO z),qM];show#[rfl,y8,p.trans U]
 ·rintro h n ⟨rfl,o,j⟩;rw[nQ,pQ]at o;show q n j o
def Ke(h:PyProof.Rows.sortedS l=true)(f:mF->Bool):PyProof.Rows.sortedS (l.filter f)=true:=by
 refine PyProof.Rows.sortedS_of_pairwise _<|List.Pairwise.filter f ?_;cases l with
 | nil=>show .nil
 | cons x r=>show Io h
inductive FK(kd:mF):Sp
 | mk (x ps js sg):vs=[.ref x]->Yh T H x ps js sg->Xq ps js sg->(∀gs:mD mF,(gs.Nodup/\PyProof.Rows.sortedS gs=true)->(∀n,n∈gs↔((kd,n):Zh)∈ps)->gs.length<=40->qv H (.lst<|gs.map V.str) Q)->FK kd vs H Q E
def Qf(h:ss.Perm (ps.map snd))(n:mF):n∈wX ps kd ss↔((kd,n):Zh)∈ps:=by
 unfold wX;rw[uN];show#[λz=>pA z.2,λz=>#[h.mem_iff.mpr<|oh.mpr #[_,z,rfl],oO z]]
def Zt2:T.fh.O P w mg nI 3 (FK T "gate"):=by
 refine T.fh.F.okA ?_;rfl'
 ·obtain⟨x,n,g,e,rfl,p,y,q⟩:=h;intro X D;obtain⟨o,l,j,i,Y,U,N,M,L,d,_⟩:=p.ex;refine nU (Zl<|qh ["name","tracks"] (pF 1 [0] rfl) (Yd<|Yf (pv 0) T.af T.dA (Mb T) hr.m T.bI.b .nil Z4) (pc 0) (sO<|Yw<|Z5 (r:=yU K) DC (by rfl) T.aj tw<|Zb (Z6 (pv 1) T.af T.bL (Wg T) hr.m T.aO.b .nil Z4<|Zb (pv 0) Za)<|Zb (X2 (v:=.ref T.bA) (by rfl) T.jg rfl) Za) (pv 0)) #[d,rfl,x,n,g,e,rfl,p,y,λc u a l M o L j=>#[nS j,λD i=>Nb Xz.gate (p.mono o) y u j i (λY U N=>q _ ?_ (Qf u) ?_ D Y (o.trans U) (o.free i) N) rfl]]
  ·show#[(u.nodup_iff.mpr y.net.nd).filter _,Ke a _]
  ·have:=GM n "gate" c;rw[u.length_eq,nQ]at this;show oU this y.len
def Nm:T.eL.O P w mg nI 3 (FK T "points"):=by
 refine T.eL.F.okA ?_;rfl'
 ·obtain⟨x,n,g,e,rfl,p,y,q⟩:=h;intro X D;obtain⟨o,l,j,i,Y,U,N,M,L,d,_⟩:=p.ex;refine nU (Zl<|qh ["name","tracks"] (pF 1 [0] rfl) (Yd<|Yf (pv 0) T.af T.dA (Mb T) hr.m T.bI.b .nil Z4) (pc 0) (sO<|Yw<|Z5 (r:=yU K) DC (by rfl) T.aj tw<|Zb (Z6 (pv 1) T.af T.bL (Wg T) hr.m T.aO.b .nil Z4<|Zb (pv 0) Za)<|Zb (X2 (v:=.ref T.aA) (by rfl) T.ir rfl) Za) (pv 0)) #[d,rfl,x,n,g,e,rfl,p,y,λc u a l M o L j=>#[nS j,λD i=>Nb Xz.pts (p.mono o) y u j i (λY U N=>q _ ?_ (Qf u) ?_ D Y (o.trans U) (o.free i) N) rfl]]
  ·show#[(u.nodup_iff.mpr y.net.nd).filter _,Ke a _]
  ·have:=GM n "points" c;rw[u.length_eq,nQ]at this;show oU this y.len
def Yau{y x u:Type}{F:y->x->Prop}{G:y->u->Prop}{g:x->u}{l:mD y}{m:mD x}(h:Paired F l m)(k:∀a b,F a b->G a (g b)):Paired G l (m.map g):=by
 induction h with
 | nil=>show .nil
 | cons r t s=>show .cons (k _ _ r) s
def Sd{y x:Type}{f:y->x}(u:∀a b,f a=f b->a=b){l:mD y}(h:l.Nodup):(l.map f).Nodup:=List.pairwise_map.mpr<|h.imp λz e=>z<|u _ _ e
def Dw(l:mD (mF×mF)):mD (om×V):=l.map λp=>(Xd p.1,V.str p.2)
inductive RN:Sp
 | mk (x ps js sg):vs=[.ref x]->Yh T H x ps js sg->Xq ps js sg->(∀gs:mD mF,(gs.Nodup/\PyProof.Rows.sortedS gs=true)->(∀n,n∈gs↔(("points",n):Zh)∈ps)->gs.length<=40->qv H (.dK<|Dw<|gs.map λn=>(n,"left")) Q)->RN vs H Q E
def TL:T.de.O P w mg nI 4 (RN T):=by
 refine T.de.F.okA ?_;rfl'
 ·obtain⟨x,C,B,sg,rfl,tr,yv,q⟩:=h;intro X D;refine nU (Zl<|Xa (r:=Dr) (Js rfl) (by rfl) T.eK Ab<|Zb (qh ["points"] (pF 1 [] rfl) (Yd<|Zv (Nm T) hr<|Zb (pv 0) Za) (pc 0) X8 (Zi<|Zb (pv 0)<|Zb Zg Za)) Za) #[x,C,B,sg,rfl,tr,yv,λY N hm hn l y M p L=>#[nS L,λD J=>Yp (xs:=Y.map V.str) (λi g c=>(∃u:mD mG,g=u.map V.ref/\Paired (Zp c) u ((Y.take i).map λn=>(n,"left")))/\c D=some (.lst g)/\nH y c) #[#[[],rfl,.nil],Zc,pP J] ?_ ?_ ?_]]
  ·rintro i g c _ ⟨_,_,U⟩;show nS<|U.at L
  ·rintro j v g c d ⟨⟨u,rfl,a⟩,I,U⟩;rw[oF]at d;obtain⟨n,hy,rfl⟩:=oN.mp d;have hl:=oz a;rw[nQ,oZ]at hl;unfold ro;refine#[pE rfl,nV,λt G l y e2=>#[l.at I,?_,#[u++[t],?_,?_],Zc,λb o e=>?_]]
   ·rw[nQ];show Zo (by lia)
   ·rw[oy];rfl
   ·rw[oW,hy,oy];have off:∀{b:mG}{p:Zh},Zp G b p->Zp (nO G D<|.lst<|u.map V.ref++[V.ref t]) b p:=λ{b p} z=>by
     unfold Zp at z ⊢;rw[Zd λy=>by rw[y,l.at I]at z;cases z];show z
    show qc (oA a λ_ _ r=>off<|r.mono l)<|.cons (off e2) .nil
   ·rw[Zd (Zf e J)];show l.at<|U.at e
  ·rintro g I ⟨⟨u,rfl,a⟩,p,y⟩;rw[nQ,pQ]at a;refine#[D,u,Dw<|Y.map λn=>(n,"left"),rfl,p,?_,?_,λd o l j e=>q Y N hm hn d o (M.trans<|y.trans l) (M.free<|y.free j) e]
   ·unfold Dw;show Yau a λ_ _ r=>r
   ·unfold Dw;rw[qj,qj];show Sd wZ N.1
inductive GO(kd:mF):Sp
 | mk (x g ps js sg):vs=[.ref x,.str g]->Yh T H x ps js sg->Xq ps js sg->((kd,g):Zh)∈ps->(∀H',nH H H'->Q .non H')->GO kd vs H Q E
def Zln:T.dH.O P w mg nI 4 (GO T "gate"):=by
 refine T.dH.F.okA ?_;rfl'
 ·obtain⟨x,g,y,u,r,rfl,p,o,n,q⟩:=h;intro X D;refine nU (Zx (wA hr (pv 1)<|Zv (Zt2 T) hr<|Zb (pv 0) Za) Zq Zk) #[x,y,u,r,rfl,p,o,λc a j Y l i e U d=>.inl #[.inl<|nS d,rfl,Wa _,?_]];rw[og rfl,W3,oO<|(j g).mpr n];show(q i e)
inductive Rh:Sp
 | mk (n:Nat):vs=[.int (n:Int)]->1<=n->n<=4->Q .non H->Rh  vs H Q E
def Zjo:T.df.O P w mg nI 1 Rh:=by
 refine T.df.F.okA ?_;rfl'
 ·obtain⟨n,rfl,y,x,q⟩:=h;intro X D;refine nU (Zx (rc<|uA (Xs<|Yw<|xg "int" T.aj T.iM HZ<|pv 0)<|uA (Yw<|xg "bool" T.aj T.jw PyProof.Rows.boot_bool<|pv 0)<|uP<|Xs<|Rc EB EB Ze (pv 0)<|Ax (by rfl) T.eY) Zq Zk) #[Xw.int _,.inl<|qC rfl T.kr,#[Xw.int _,.inl<|qC rfl T.kt,?_]];dsimp only[oB];rw[nY pi];refine Z7 (λ_=>?_) λz=>absurd (oO (show(1:Int)<=n by lia)) z;refine Z7 (λz=>?_) λ_=>q;have z:(!decide ((n:Int)<=4))=true:=z;rw[oO (show(n:Int)<=4 by lia)]at z;cases z
inductive GF:Sp
 | mk (v d kvs):vs=[v,.ref d]->H d=some (.dK kvs)->(IS K H v false\/∃nm:mF,v=.str nm/\X7 nm/\(Y0 kvs<|Xd nm).isSome=true)->(∀H',nH H H'->E (.ref T.au) none H')->GF vs H Q E
def Zks:T.aS.X P w mg nI 2 (GF T):=by
 refine T.aS.F.okX Lo ?_;rfl'
 ·obtain⟨v,d,u,rfl,hd,r,q⟩:=h;intro X D;rcases r with p|⟨nm,rfl,o,n⟩
  ·show nR (Zx (Xs<|Yw<|Zv (AD T) hr<|Zb (pv 0) Za) Zq Zk) #[_,false,rfl,p,λx y=>((nU (yf T.gp wP rfl<|Zb Zg Za) #[nV,q x y]))]
  ·refine nR (Zx (Xs<|Yw<|Zv (AD T) hr<|Zb (pv 0) Za) Zq Zk) #[_,true,rfl,o.asked,λx y=>(?_)];refine nU (Zx (sX hr (pv 0)<|pv 1) Zq Zk)<|.inr<|.inl #[d,_,rfl,rn (k:=Xd nm)<|y.at hd,?_];rw[n];show(nU (yf T.gp wP rfl<|Zb Zg Za) #[nV,q x y])
def Znw(h:2<=k:=by lk):T.aS.X P w mg nI k (GF T):=(Zks T).mono h
def Ix(H:Hp)(t:mG)(part:mF)(q:mF×mF×mF):Prop:=H t=some (.tup [.str part,.str q.1,.str q.2.1,.str q.2.2])
def AI(told:mD Bool)(len j:Nat):Prop:=j<told.length/\told.getD j true=false/\true∈told.drop (j+len)
abbrev Yi:=mF×(mF×mF×mF)
def Z0{y:Type}(f:y->V)(x:mD (mF×y)):mD (om×V):=x.map λq=>(Sum.inr q.1,f q.2)
theorem Wh{y:Type}{f:y->V}:∀{x:mD (mF×y)}{q:mF×y},(x.map fst).Nodup->q∈x->Y0 (Z0 f x) (Sum.inr q.1)=some (f q.2)
 | [],_,_,h=>by simp at h
 | r ::x,q,u,h=>by
  rw[show Z0 f (r ::x)=(Sum.inr r.1,f r.2) ::Z0 f x from rfl];rw[oR,qU]at u;rcases oM.mp h with e|e
  ·rw[e];show zS rfl
  ·rw[xz λz=>u.1 (by rw[zR z];show oh.mpr #[q,e,rfl])];show Wh u.2 e
theorem Wl{y:Type}{f:y->V}:∀{u:mD (mF×y)}{x:mF},x∉u.map fst->Y0 (Z0 f u) (Sum.inr x)=none
 | [],_,_=>rfl
 | r ::u,x,h=>by
  rw[show Z0 f (r ::u)=(Sum.inr r.1,f r.2) ::Z0 f u from rfl];rw[oR,oM,Af]at h;rw[xz λz=>h.1 (zR z).symm];show Wl h.2
def Oq{y:Type}{f:y->V}{u:mD (mF×y)}{v:y}(h:x∉u.map fst):Ww (Z0 f u) (Sum.inr x) (f v)=Z0 f (u++[(x,v)]):=by
 rw[Kz _ (Wl h)];simp[Z0]
def Wn(H:Hp)(ts:mD mG)(ss:mD Yi):Prop:=Paired (λt (q:Yi)=>Ix H t q.1 q.2) ts ss
def Yr(H:Hp)(l:mG)(ss:mD Yi):Prop:=∃y,H l=some (.lst<|y.map V.ref)/\Wn H y ss
def Wn.mono(e:nH H y)(h:Wn H ts ss):Wn y ts ss:=oA h λ_ _ r=>e.at r
def Yr.mono(e:nH H y)(h:Yr H l ss):Yr y l ss:=let⟨x,u,s⟩:=h;#[x,e.at u,s.mono e]
def Wn.off(h:Wn H ts ss)(y:∀xs,H c≠some (.tup xs)):Wn (nO H c o) ts ss :=
 oA h λt q r=>by
  unfold Ix at r ⊢;rw[Zd λz=>y _<|z ▸ r];show r
def Yr.off(h:Yr H l ss)(y:l≠c)(x:∀xs,H c≠some (.tup xs)):Yr (nO H c o) l ss:=by
 obtain⟨u,s,r⟩:=h;show#[u,by rw[Zd y];show s,r.off x]
def xT(q:Yi):Tr:=.tup [.str q.1,.str q.2.1,.str q.2.2.1,.str q.2.2.2]
def Wn.im(h:Wn H ts ss):Paired (Im K H 1) (ss.map xT) (ts.map V.ref):=by
 induction h with
 | nil=>show .nil
 | cons r _ y=>show .cons (wp (nX r)<|.cons (.str _)<|.cons (.str _)<|.cons (.str _)<|.cons (.str _) .nil) y
def Ye(H:Hp)(d:mG)(es:mD (mF×mG))(val:mF->mD Yi):Prop:=H d=some (.dK<|Z0 V.ref es)/\∀e∈es,Yr H e.2<|val e.1
def Ye.mono{val:mF->mD Yi}(e:nH H y)(h:Ye H d es val):Ye y d es val:=#[e.at h.1,λx u=>(h.2 x u).mono e]
def Zyp(e:nH H q)(h:Xp H a y o):Xp q a y o:=by
 rcases h with⟨x,k,u,s,r⟩|⟨x,k,b,u,s,r,p⟩
 ·show .inl #[x,k,e.rd u,s,r]
 ·show .inr #[x,k,b,e.rd u,s,e.at r,p]
def Yjf(r:PI X x l a)(q:PI X x l b):PI X x l (λy H R=>a y H R\/b y H R):=λu s y H R I h=>h.elim (r u s y H R I)<|q u s y H R I
def yR(H:Hp)(l:mG)(ss:mD Yi):Prop:=∃y:mD mG,(H l=some (.lst<|y.map V.ref)\/H l=some (.tup<|y.map V.ref))/\Wn H y ss
def yR.mono(e:nH H y)(h:yR H l ss):yR y l ss:=let⟨x,u,s⟩:=h;#[x,u.imp e.at e.at,s.mono e]
def Yr.seq(h:Yr H l ss):yR H l ss:=let⟨y,x,u⟩:=h;#[y,.inl x,u]
def NN{fr:St->St}(l:Wn r ts ss)(U:ss.length<=100)(j:r D=none)(q:∀n,nH r n->n D=some (.lst<|(ss.map fst).map V.str)->Q (.ref D) n)(g:fr y=[none])
  (C:∀Pv:Nat->mD V->Hp->Prop,Pv 0 [] (nO r D<|.lst [])->(∀i s H,Pv i s H->nH r H)->(∀i x s H,(ts.map V.ref)[i]? =some x->Pv i s H->ro fr (rT 0) BE (rR (zd K) (sJ 0)<|tC<|.int 0) y D x s H (Pv<|i+1))->(∀s H,Pv (ts.map V.ref).length s H->Q (.ref D) H)->sj J fr (rT 0) BE (rR (zd K) (sJ 0)<|tC<|.int 0) Q y r D):sj J fr (rT 0) BE (rR (zd K) (sJ 0)<|tC<|.int 0) Q y r D:=by
 refine C (λi s n=>s=((ss.map fst).map V.str).take i/\n D=some (.lst s)/\nH r n) #[rfl,Zc,pP j] (λ_ _ _ p=>p.2.2) ?_ ?_
 ·rintro k v s n p ⟨rfl,d,h⟩;rw[oF]at p;obtain⟨t,c,rfl⟩:=oN.mp p;obtain⟨u,a,Y⟩:=pG l c;unfold ro;rw[g];refine#[pE rfl,.inr<|.inl #[nX<|h.at Y,rfl,d,?_,?_,Zc,λb o e=>?_]]
  ·rw[oZ,nQ,nQ];show Zo (by lia)
  ·rw[oW,oF,oF,a];rfl
  ·rw[Zd (Zf e j)];show h.at e
 ·rintro s u ⟨rfl,p,o⟩;refine q u o ?_;rw[p,nQ,oz l,tX (by rw[nQ,nQ];show oq _)]
inductive Ks:Sp
 | mk (l) (ss:mD Yi):vs=[.ref l]->yR H l ss->ss.length<=100->(∀p H',nH H H'->H p=none->H' p=some (.lst<|(ss.map fst).map V.str)->Q (.ref p) H')->Ks  vs H Q E
def DL:T.fk.O P w mg nI 1 Ks:=by
 refine T.fk.F.okA ?_;rfl'
 ·obtain⟨l,y,rfl,x,g,q⟩:=h;intro X D;obtain⟨y,x,d⟩:=x;refine nU (Zl<|qh ["step"] (pF 1 [] rfl) (Yjf (Yd<|pv 0)<|AG<|pv 0) (pc 0) X8 (W2 (K:=K) rfl (pv 0) Ze))<|x.imp (λe=>#[nS e,λD y=>NN d g y (λu r o=>q D u r y o) rfl λPv n l=>Yp Pv n λi j H _ p=>nS<|(l i j H p).at e]) λe=>#[nX e,λD y=>NN d g y (λu r o=>q D u r y o) rfl λPv n l=>GK Pv n λi j H _ p=>nX<|(l i j H p).at e]
def IA(y:mD mF)(val:mF->mD Yi)(x r:mF):Prop:=(∃t∈y,x∈(val t).map fst/\r=t)\/((∀t∈y,x∉(val t).map fst)/\r ="")
inductive JX:Sp
 | mk (d x) (es:mD (mF×mG)) (val:mF->mD Yi):vs=[.ref d,.str x]->Ye H d es val->(es.map fst).Nodup->es.length<=100->(∀t,(val t).length<=100)->(∀r H',nH H H'->IA (es.map fst) val x r->Q (.str r) H')->JX  vs H Q E
def Np:T.gS.O P w mg nI 2 JX:=by
 refine T.gS.F.okW FM ?_;rfl'
 ·obtain⟨d,x,u,val,rfl,⟨hd,N⟩,r,p,B,q⟩:=h;intro X D;refine nR (Ao<|Y9 qo rfl (yk<|pv 0) (tN rfl<|Zu (oY 2 FM)<|Zu (oY 3 FM) Y5) Zq) #[hd,λo M=>EX (λi y L=>(∃g c,y=[some (.ref d),some<|.str x,g,c])/\nH (nO H d<|.frz o<|.dK<|Z0 V.ref u) L/\∀t∈(u.map fst).take i,x∉(val t).map fst) #[#[none,none,rfl],qu _,by simp] ?_ ?_ ?_]
  ·rintro i y L _ ⟨_,r,_⟩;show r.at Zc
  ·rintro i kv y H2 J ⟨⟨g,c,rfl⟩,n,j⟩ tp H3 I n3 e3;rw[show Z0 V.ref u=u.map λq=>(Sum.inr q.1,V.ref q.2)from rfl,oF]at J;obtain⟨e,G,rfl⟩:=oN.mp J;have a:e∈u:=qf G;have Y:(u.map fst)[i]? =some e.1:=by rw[oF,G];rfl
   have U:e.2≠d:=λz=>by
    obtain⟨l,C,_⟩:=N e a;rw[z,hd]at C;cases C
   have T9:Yr H3 e.2 (val e.1):=((N e a).off (o:=.frz o<|.dK<|Z0 V.ref u) U λl z=>by rw[hd]at z;cases z).mono (n.trans I);refine#[nX e3,rfl,rfl,?_];refine nU (Zx (sX hr (pv 1)<|Zv (DL T) hr<|Zb (pv 3) Za) Zq Zk) #[e.2,val e.1,rfl,T9.seq,B e.1,λpf H4 s4 n4 l=>.inl #[.inl<|nS l,rfl,Wa _,?_]];have r:=n.trans<|I.trans s4;rw[nY pi,W3];refine Z7 (λp=>?_) λp=>?_
   ·have p:x∈(val e.1).map fst:=pA p;show nU (Zl<|pv 2) #[d,o,_,r.at Zc,M,q e.1 _ (xK hd r)<|.inl #[e.1,oh.mpr #[e,a,rfl],p,rfl]]
   ·have p:x∉(val e.1).map fst:=λz=>p<|oO z
    refine#[#[_,_,rfl],r,λt l=>?_];rw[oW,Y,pC]at l;rcases l with z|z
    ·show j t z
    ·simp at z;rw[z];show p
  ·rintro y H2 ⟨⟨g,c,rfl⟩,n,j⟩;rw[show(Z0 V.ref u).length=(u.map fst).length by rw[nQ];show nQ ..,pQ]at j;show#[d,o,_,n.at Zc,M,nU (Zl Zg)<|q "" _ (xK hd n)<|.inr #[j,rfl]]
def Ye.read{val:mF->mD Yi}(h:Ye H d es val)(p:(es.map fst).Nodup)(u:nH (nO H d<|.frz o<|.dK<|Z0 V.ref es) s)(y:e∈es):Yr s e.2 (val e.1)/\Xp s d (.str e.1) (some<|.ref e.2):=by
 obtain⟨hd,r⟩:=h;have x:e.2≠d:=λz=>by
  obtain⟨n,q,_⟩:=r e y;rw[z,hd]at q;cases q
 refine#[((r e y).off (o:=.frz o<|.dK<|Z0 V.ref es) x λn z=>by rw[hd]at z;cases z).mono u,?_];rw[<-Wh p y];show .inl #[_,Sum.inr e.1,.inr #[o,u.at Zc],rfl,rfl]
def EV{es:mD (mF×mG)}{i:Nat}{kv:om×V}(x:(Z0 V.ref es)[i]? =some kv):∃e∈es,es[i]? =some e/\(es.map fst)[i]? =some e.1/\kv=(Sum.inr e.1,V.ref e.2):=by
 rw[show Z0 V.ref es=es.map λq=>(Sum.inr q.1,V.ref q.2)from rfl,oF]at x;obtain⟨e,y,rfl⟩:=oN.mp x;show#[e,qf y,y,by rw[oF,y];rfl,rfl]
def IW{y:Type}{f:y->V}(es:mD (mF×y)):(Z0 f es).length=(es.map fst).length:=by rw[nQ];show nQ ..
def SD:T.aQ.O P w mg nI 1 (xf T.aU "part"):=by
 refine T.aQ.F.okA ?_;rfl'
 ·obtain⟨e,t,v,rfl,y,q⟩:=h;intro X D;show nU (GE (pv 0) (pv 1) rfl) #[e,T.aU,T.ap,t,rfl,y,T.dS.cls,T.dS.sa,T.dS.na,q]
def HW(h:1<=k:=by lk):T.aQ.O P w mg nI k (xf T.aU "part"):=(SD T).mono h
def zl(x:mF->Prop)(xs:mD mF)(i:Nat):Prop:=∀j y,j<i->xs[j]? =some y->y∉xs.take j/\¬x y
def Na(y:mF->Prop)(xs:mD mF)(x:mF):Prop:=∃i,xs[i]? =some x/\(x∈xs.take i\/y x)/\zl y xs i
def wa(y:mD mF)(val:mF->mD Yi)(x:mF):Prop:=∃t∈y,x∈(val t).map fst
inductive LP(C:mG):Sp
 | mk (d p) (es:mD (mF×mG)) (val:mF->mD Yi) (ss:mD Yi):vs=[.ref d,.ref p]->Ye H d es val->(es.map fst).Nodup->es.length<=100->(∀t,(val t).length<=100)->(∀t∈es.map fst,t≠ "")->yR H p ss->ss.length<=100->(∀H',nH H H'->zl (wa (es.map fst) val) (ss.map fst) ss.length->Q .non H')->(∀dx H' x,nH H H'->H dx=none->Na (wa (es.map fst) val) (ss.map fst) x->H' dx=some (.xd [("part",.str x)])->E (.ref C) (some dx) H')->LP C vs H Q E
def Rz{u:mD mF}{val:mF->mD Yi}{x r:mF}(q:∀t∈u,t≠ "")(h:IA u val x r):(r≠ "")↔wa u val x:=by
 rcases h with⟨t,y,s,rfl⟩|⟨p,rfl⟩
 ·show#[λ_=>#[r,y,s],λ_=>q r y]
 ·show#[λz=>absurd rfl z,λ⟨t,y,s⟩=>absurd s<|p t y]
def Zly:T.bU.X P w mg nI 3 (LP T.aU):=by
 refine T.bU.F.okX FQ ?_;rfl'
 ·obtain⟨d,p,C,val,n,rfl,P8,hfd,O7,J5,u6,hp,M8,q,qE⟩:=h;intro X D;refine nR (oj 2 FQ<|Zn Za) #[nV,λa u s1 n1 e1=>?_];refine nR (Y9 PassesOwn.leaving rfl (Yd<|Zv (DL T) hr<|Zb (pv 1) Za) (oY 3 FQ) Zq) #[p,n,rfl,hp.mono s1,M8,λpf o u n2 r=>#[nS r,W7 (xs:=(n.map fst).map V.str) (λi y c=>(∃o3,y=[some (.ref d),some<|.ref p,some<|.ref a,o3])/\nH H c/\c pf=some (.lst<|(n.map fst).map V.str)/\c a=some (.lst<|((n.map fst).take i).map V.str)/\zl (wa (C.map fst) val) (n.map fst) i)
   #[#[none,rfl],s1.trans u,r,u.at e1,λj x h=>absurd h<|Nat.not_lt_zero _] ?_ ?_ ?_]]
  ·rintro i y c _ ⟨_,_,e,_⟩;show nS e
  ·rintro i v y U hi ⟨⟨o3,rfl⟩,Y,e3,l,N⟩;rw[oF]at hi;obtain⟨x,B,rfl⟩:=oN.mp hi;have E6:i<(n.map fst).length:=(pT.mp B).1;rw[nQ]at E6;have npa:pf≠a:=λz=>by
    rw[z]at n2;rw[e1]at n2;cases n2
   let I17:IC:=λe c=>e=[some (.ref d),some<|.ref p,some<|.ref a,some<|.str x]/\nH U c/\x∉(n.map fst).take i/\¬wa (C.map fst) val x
   refine qk I17 ?_ ?_
   ·refine qp (Zx (rc<|uA (sX hr (pv 3)<|pv 2)<|uP<|rV hr (Zv (Np T) hr<|Zb (pv 0)<|Zb (pv 3) Za) Zg) Zq Zk)<|.inl #[.inl<|nS l,rfl,Wa _,?_];rw[nY pi,W3];have M:∀g,nH U g->(x∈(n.map fst).take i\/wa (C.map fst) val x)->∀L,g L=none->E (.ref T.aU) (some L) (nO g L<|.xd [("part",.str x)]):=λg u o L hn=>qE L _ x ((Y.trans u).trans (pP hn)) ((Y.trans u).free hn) #[i,B,o,N] Zc
    refine Z7 (λJ=>?_) λJ=>?_
    ·show nU (BM T.dS T.cI (HW T) T.aQ.b hr rfl T.iw<|Zb (pv 3) Za)<|qC rfl<|M U (qu _)<|.inl<|pA J
    ·have J:x∉(n.map fst).take i:=λz=>J<|oO z
     refine#[d,x,C,val,rfl,P8.mono Y,hfd,O7,J5,λr g u hh=>.inl #[rfl,Z7 (λo=>?_) λo=>?_]]
     ·have o:r≠ "":=λz=>by rw[z]at o;simp at o
      show nU (BM T.dS T.cI (HW T) T.aQ.b hr rfl T.iw<|Zb (pv 3) Za)<|qC rfl<|M g u<|.inr<|(Rz u6 hh).mp o
     ·refine#[rfl,u,J,λz=>o ?_];have:=(Rz u6 hh).mpr z;simp[this]
   rintro e g ⟨rfl,u,I,G⟩;refine nU (Zt<|rS (pv 2)<|pv 3) #[.inl #[rfl,_,nS<|u.at l],u.at l,?_,#[_,rfl],λb o z=>?_,?_,?_,?_]
   ·rw[nQ,oZ];show Zo (by lia)
   ·rw[Zd (Zf z n1)];show u.at<|Y.at z
   ·rw[Zd npa];show u.at e3
   ·rw[Zc,oW,B,oy]
    rfl
   ·intro j z o r;rcases zL j i with h|h
    ·show N j z h r
    ·have:j=i:=by lia
     subst this;rw[B]at r;cases r;show#[I,G]
  ·rintro y U ⟨_,Y,_,_,N⟩;rw[nQ,nQ]at N;show WSs.nil<|q U Y N
def vE(x:mD mF)(val:mF->mD Yi)(y:mF)(ss:mD Yi):mF->mD Yi:=open Classical in λt=>if t=y then(if y∈x then val y else[])++ss else val t
def pX{y:Type}(es:mD (mF×y))(x:mF)(v:y):mD (mF×y):=open Classical in if x∈es.map fst then es.map (λq=>if q.1=x then(x,v)else q)else es++[(x,v)]
def zm{y:Type}{f:y->V}(es:mD (mF×y))(x:mF)(v:y):Ww (Z0 f es) (Sum.inr x) (f v)=Z0 f (pX es x v):=by
 unfold pX
 by_cases z:x∈es.map fst
 ·rw[og z];have u:((Z0 f es).any λkv=>decide<|kv.1=Sum.inr x)=true:=by
   obtain⟨q,s,rfl⟩:=oh.mp z;show List.any_eq_true.mpr #[(Sum.inr q.1,f q.2),oh.mpr #[q,s,rfl],by simp]
  unfold Ww;rw[og u];unfold Z0;rw[qj,qj];refine Gr λq _=>?_
  by_cases h:q.1=x
  ·simp[h]
  ·have:¬(Sum.inr q.1:om)=Sum.inr x:=λz=>h<|zR z
   simp[h,this]
 ·rw[nY z];show Oq z
def Ba{y:Type}(es:mD (mF×y))(x:mF)(v:y):(pX es x v).map fst=if x∈es.map fst then es.map fst else es.map fst++[x]:=by
 unfold pX
 by_cases z:x∈es.map fst
 ·rw[og z,og z,qj];refine Gr λq _=>?_
  by_cases u:q.1=x
  ·simp[u]
  ·simp[u]
 ·rw[nY z,nY z,oy]
  rfl
def Fq{y:Type}{es:mD (mF×y)}{x:mF}{v:y}{e:mF×y}(h:e∈pX es x v):e=(x,v)\/(e∈es/\e.1≠x):=by
 unfold pX at h;split at h
 ·obtain⟨q,s,rfl⟩:=oh.mp h;split
  ·show .inl rfl
  ·rename_i u;show .inr #[s,u]
 ·rename_i z;rcases pC.mp h with u|u
  ·show .inr #[u,λk=>z<|oh.mpr #[e,u,k]]
  ·show .inl<|qG.mp u
def Ye.put{val:mF->mD Yi}(h:Ye H d es val)(e:nH H s)(o:Yr s l ((if x∈es.map fst then val x else[])++ss)) :
  Ye (nO s d<|.dK<|Ww (Z0 V.ref es) (Sum.inr x)<|.ref l) d (pX es x l) (vE (es.map fst) val x ss):=by
 have u:=e.at h.1;have off:∀{c:mG}{r:mD Yi},Yr s c r->Yr (nO s d<|.dK<|Ww (Z0 V.ref es) (Sum.inr x)<|.ref l) c r:=λ{c r} z=>z.off (λy=>by obtain⟨_,p,_⟩:=z;rw[y,u]at p;cases p) λg y=>by rw[u]at y;cases y
 refine#[by rw[Zc,zm],λq n=>?_];rcases Fq n with rfl|⟨j,i⟩
 ·have:vE (es.map fst) val x ss x=(if x∈es.map fst then val x else[])++ss:=by unfold vE;rw[og rfl]
  change Yr _ l (vE (es.map fst) val x ss x);rw[this];show off o
 ·have:vE (es.map fst) val x ss q.1=val q.1:=by unfold vE;rw[nY i]
  rw[this];show off<|(h.2 q j).mono e
structure wz(H Hf:Hp)(D:Addr)(names:List Str)(val:Str->List Yi)(i:Nat)(ys:List V)(H':Hp):Prop where
 same:nH Hf H'
 at':H' D=some (.lst ys)
 all:∃(tps:List Addr)(j8:List (Str×Addr)),ys=tps.map V.ref/\j8.map fst=names.take i/\(∀e∈j8,H e.2=none/\e.2≠D/\Yr H' e.2 (val e.1))/\Paired (λt (q:om×V)=>H' t=some (.tup [kV q.1,q.2])) tps (Z0 V.ref j8)
def wz.nil{val:mF->mD Yi}(h:y D=none):wz H y D names val 0 [] (nO y D<|.lst []):=#[pP h,Zc,[],[],rfl,rfl,by simp,.nil]
def wz.len{val:mF->mD Yi}(b:wz H q D names val i s p):s.length<=i:=by
 obtain⟨r,u,rfl,y,_,x⟩:=b.all;have y:=pO List.length y;have x:=oz x;rw[show(Z0 V.ref u).length=u.length from nQ ..]at x;rw[nQ,oZ]at y;rw[nQ];lia
def wz.step{val:mF->mD Yi}{l D:mG}(b:wz H d D names val i a Y)(Q:d D=none)(N:names[i]? =some x)(s:nH Y n)(M:H l=none)(U:Y l=none)(L:Yr n l (val x))(J:n t=some (.tup [.str x,.ref l])):wz H d D names val (i+1) (a++[.ref t]) (nO n D<|.lst<|a++[.ref t]):=by
 obtain⟨j,h,rfl,I,G,g⟩:=b.all;have E:=s.at b.at';have e:∀p,n D≠some (.tup p):=λp z=>by rw[E]at z;cases z
 have r:∀{c:mG}{p:mD V}{o:HO},n c=some (.tup p)->nO n D o c=some (.tup p):=λ{c p o} z=>(Zd λy=>by rw[y]at z;show e p z).trans z
 refine#[λc u z=>(Zd<|Zf z Q).trans (s.at<|b.same.at z),Zc,j++[t],h++[(x,l)],by rw[oy];rfl,by rw[oy,I,oW,N];rfl,λq C=>?_,?_]
 ·rcases pC.mp C with z|z
  ·obtain⟨B,u,A⟩:=G q z;show#[B,u,(A.mono s).off u e]
  ·rw[qG.mp z];have u:l≠D:=λy=>by rw[y,b.at']at U;cases U
   show#[M,u,L.off u e]
 ·rw[show Z0 V.ref (h++[(x,l)])=Z0 V.ref h++[(Sum.inr x,V.ref l)]from oy ..];show qc (oA g λt q z=>r<|s.at z)<|.cons (r J) .nil
def OX{es:mD (mF×mG)}(h:(es.map fst).Nodup):((Z0 V.ref es).map fst).Nodup:=by
 unfold Z0;rw[qj];change(es.map<|(Sum.inr:mF->om) ∘ fst).Nodup;rw[<-qj];show Sd wZ h
inductive RH(C:mG):Sp
 | mk (d p tr) (es:mD (mF×mG)) (val:mF->mD Yi) (ss:mD Yi):vs=[.ref d,.str tr,.ref p]->Ye H d es val->(es.map fst).Nodup->es.length<=100->(∀t,(val t).length<=100)->(∀t∈es.map fst,t≠ "")->yR H p ss->ss.length<=100->(∀d' H' j8,zl (wa (es.map fst) val) (ss.map fst) ss.length->nH H H'->H d'=none->Ye H' d' j8 (vE (es.map fst) val tr ss)->j8.map fst=(if tr∈es.map fst then es.map fst else es.map fst++[tr])->(∀e∈j8,H e.2=none)->Q (.ref d') H')->(∀dx H' x,nH H H'->H dx=none->Na (wa (es.map fst) val) (ss.map fst) x->H' dx=some (.xd [("part",.str x)])->E (.ref C) (some dx) H')->RH C vs H Q E
def QL:T.cH.X P w mg nI 4 (RH T.aU):=by
 refine T.cH.F.okX NU ?_;rfl'
 ·obtain⟨d,p,M,L,val,ss,rfl,P8,C,O7,J5,u6,hp,M8,q,qE⟩:=h;intro X D;refine nR (Zt<|Wd (Zly T) hr.m rfl T.bU.m T.bU.F.kp T.bU.b .nil Wi<|Zb (pv 0)<|Zb (pv 2) Za) #[d,p,L,val,ss,rfl,P8,C,O7,J5,u6,hp,M8,λH1 s1 hg=>?_,qE];have j:=P8.mono s1;refine nR (oj 3 NU<|Xa (r:=Dr) (Js rfl) (by rfl) T.eK Ab<|Zb (Jm<|qh ["name","path"] (pF 2 [] rfl) (yk<|pv 0) (xB (K:=K) (n:=2) rfl rfl<|Zu (pc 0)<|Zu (pc 1) Y5) X8 (Zi<|Zb (pv 0)<|Zb (Xa (r:=EG K) Jk (by rfl) T.gK Eu<|Zb (pv 1) Za) Za)) Za) #[j.1,λo nf D hD=>Fj (wz H1 (nO H1 d<|.frz o<|.dK<|Z0 V.ref L) D (L.map fst) val) (.nil hD) ?_ ?_ ?_]
  ·rintro i ys u _ b;show b.same.at Zc
  ·rintro i kv ys H2 c b B H3 J n3 e3;obtain⟨e,a,Y,u,rfl⟩:=EV c;obtain⟨U,N,I⟩:=(j.read C (b.same.trans J) a).1;have E6:i<L.length:=(pT.mp Y).1;have G:=b.len;refine#[nX e3,rfl,rfl,(pE rfl).trans (pE rfl),.inl<|nS N,λl H4 x n4 e4=>#[nV,λt H5 g n5 e5=>#[g.at<|x.at<|J.at b.at',Zo (by lia),b.step hD u (J.trans<|x.trans g) ?_ (J.free n4) #[U,g.at e4,I.mono<|x.trans g] e5]]];have:=b.same.free<|J.free n4
   by_cases y:l=d
   ·rw[y,Zc]at this;cases this
   ·rw[Zd y]at this;show this
  ·rintro ys H2 b;have hDd:D≠d:=λz=>by rw[z,Zc]at hD;cases hD
   obtain⟨tps,l,rfl,B2,w4,hpr⟩:=b.all;rw[IW,pQ]at B2;have st:nH H1 (nO H2 d<|.dK<|Z0 V.ref L):=xK j.1 b.same;have a:=b.same.at (show(nO H1 d<|.frz o<|.dK<|Z0 V.ref L) d=some (.frz o<|.dK<|Z0 V.ref L)from Zc);have I:(l.map fst).Nodup:=B2 ▸ C;have hel':l.length=L.length:=by
    have:=pO List.length B2;rw[nQ,nQ]at this;show this
   refine#[d,o,_,a,nf,D,tps,Z0 V.ref l,rfl,by rw[Zd hDd];show b.at',oA hpr λt q z=>?_,OX I,λd' H3 J n3 e3=>?_]
   ·rw[Zd λy=>by rw[y,a]at z;cases z];show z
   have m9:=st.trans J;have G:Ye H3 d' l val:=by
    refine#[e3,λq hq=>?_];obtain⟨_,_,h1⟩:=w4 q hq;refine(h1.off (λy=>?_) λu y=>?_).mono J
    ·obtain⟨_,u,_⟩:=h1;rw[y,a]at u;cases u
    ·rw[a]at y;cases y
   obtain⟨us,g9,huv⟩:=hp.mono<|s1.trans m9;have D1:us.length=ss.length:=oz huv;have hdn:H d'=none:=s1.free<|st.free n3;obtain⟨ov,U8,hdf⟩:∃ov,Xp H3 d' (.str M) ov/\∀{l0:mG}{H4:Hp},nH H3 H4->H4 l0=some (.lst [])->∃lv vs,ov.getD (.ref l0)=V.ref lv/\H4 lv=some (.lst<|vs.map V.ref)/\Wn H4 vs (if M∈l.map fst then val M else[])/\vs.length<=100:=by
    refine#[_,rn (k:=Sum.inr M) e3,λx e4=>?_]
    by_cases Y:M∈l.map fst
    ·obtain⟨q5,U,rfl⟩:=oh.mp Y;obtain⟨vs,C4,N⟩:=G.2 q5 U;rw[og Y,show Y0 (Z0 V.ref l) (Sum.inr q5.1)=some (V.ref q5.2)from Wh I U];show#[q5.2,vs,rfl,x.at C4,N.mono x,by rw[oz N];show J5 _]
    ·rw[nY Y,show Y0 (Z0 V.ref l) (Sum.inr M)=none from Wl Y];show#[_,[],rfl,e4,.nil,sY _]
   refine nR (uj (Xb hr) (pv 3) (pv 1) (Zr W0 (Bc (Xb hr) (pv 3) (pv 1) (Zn Za) #[rfl,rfl,rfl,rfl])<|Xa (r:=EG K) Jk (by rfl) T.gK Eu<|Zb (pv 2) Za) rfl) #[d',rfl,.inl #[_,.inl e3],nV,λl0 H4 x n4 e4=>#[_,Zyp x U8,?_]];obtain⟨lv,vs,ev,C4,N,u⟩:=hdf x e4;rw[ev];refine#[g9.imp (λe=>nS<|x.at e) λe=>nX<|x.at e,λu H5 g n5 e5=>.inr<|.inr #[g.at C4,e5,?_,λl2 c s6 n6 e6=>#[rH.k (k:=Sum.inr M) (s6.at<|g.at<|x.at e3) ?_,?_]]]
   ·rw[nQ,nQ];show sz (by lia)
   ·rw[show(Z0 V.ref l).length=l.length from nQ ..];show Zo (by lia)
   have B:=x.trans<|g.trans s6;have F4:=G.put B (l:=l2) (ss:=ss) #[vs++us,by rw[e6,oy],qc (N.mono<|g.trans s6)<|huv.mono B];rw[B2]at F4;refine nU (Zl<|pv 3)<|q d' _ (pX l M l2) hg (λc u z=>?_) hdn F4 (by rw[Ba,B2]) λq5 U=>?_
   ·rw[Zd (Zf z hdn)];show B.at<|m9.at<|s1.at z
   ·rcases Fq U with rfl|⟨u,_⟩
    ·show s1.free<|m9.free<|x.free<|g.free n6
    ·show s1.free (w4 q5 u).1
structure Gd where
 lies:List (Str×Str)
 stiff:List (Str×Bool)
 val:Str->List Yi
 told:List (Str×Bool)
structure ym(H:Hp)(dl ds dp dt:Addr)(es:List (Str×Addr))(g:Gd):Prop where
 lies:H dl=some (.dK<|Z0 V.str g.lies)
 stiff:H ds=some (.dK<|Z0 V.bl g.stiff)
 paths:Ye H dp es g.val
 told:H dt=some (.dK<|Z0 V.bl g.told)
def ym.mono(e:nH H y)(h:ym H dl x u s es g):ym y dl x u s es g:=#[e.at h.lies,e.at h.stiff,h.paths.mono e,e.at h.told]
def yA{y:Type}{f:y->V}(s:mD (mF×y))(x:mF):Y0 (Z0 f s) (Sum.inr x)=(s.lookup x).map f:=by
 induction s with
 | nil=>rfl
 | cons r s q =>
  rw[show Z0 f (r ::s)=(Sum.inr r.1,f r.2) ::Z0 f s from rfl]
  by_cases z:r.1=x
  ·subst z;rw[zS rfl,tP,Ce]
   rfl
  ·rw[xz λu=>z<|zR u,q,tP];have:(x ==r.1)=false:=by rw[uc];show λu=>z u.symm
   rw[this]
def Sf(H:Hp)(x dl y u s:mG):Prop:=∃r,H x=some (.ins T.cG r [("lie_of",.ref dl),("stiff_ones",.ref y),("path_of",.ref u),("told",.ref s)])
inductive Jq(K:mK):Sp
 | mk (x C dx u1 u2 u3 u4):vs=[.ref x,u1,u2,u3,u4]->H x=some (.ins C dx [])->qF K C->nZ K C "lie_of"->nZ K C "stiff_ones"->nZ K C "path_of"->nZ K C "told"->Q .non (nO H x<|.ins C dx [("lie_of",u1),("stiff_ones",u2),("path_of",u3),("told",u4)])->Jq K vs H Q E
def ZH:T.bG.O P w mg nI 1 (Jq K):=by
 refine T.bG.F.okA ?_;rfl'
 ·obtain⟨x,C,o,n,l,j,i,rfl,y,c,u,r,q,p,k⟩:=h;intro X D;refine nR (Wm (pv 0) (pv 1) rfl) #[y,c,u,by simp,?_];refine nR (Wm (pv 0) (pv 2) rfl) #[Zc,c,r,by change 1<1000;decide,?_];refine nR (Wm (pv 0) (pv 3) rfl) #[Zc,c,q,by change 2<1000;decide,?_];refine nU (Wm (pv 0) (pv 4) rfl) #[Zc,c,p,by change 3<1000;decide,?_];rw[Ih,Ih,Ih];show k
def Rt:mD V->Hp->VK->Prop:=λq H Q=>∃dl u s r,q=[.ref dl,.ref u,.ref s,.ref r]/\∀x y,nH H y->H x=none->Sf T y x dl u s r->Q (.ref x) y
def ZA:∀vs H Q,Rt T vs H Q->
  ∀x y,H x=none->H y=none->y≠x->Jq K (.ref x ::(vs++[])) (nO (nO H y<|.own x) x<|.ins T.cG y []) (λv r=>v=.non/\Q (.ref x) r) E0:=by
 rintro vs H Q ⟨dl,o,n,l,rfl,h⟩ x y u q j;refine#[x,T.cG,y,_,_,_,_,rfl,Zc,T.dB,T.dC,T.cO,T.di,T.eu,rfl,h x _ (λb o e=>?_) u #[y,Zc]];have s:b≠x:=Zf e u;have p:b≠y:=Zf e q;rw[Zd s,Zd s,Zd p];show e
def yy(H:Hp)(v:V)(a:mJ (mF×mF)):Prop:=match a with|none=>v=.non|some z=>∃p,v=.ref p/\H p=some (.tup [.str z.1,.str z.2])
def vo(P:mS)(w:mP)(K:mK)(mg:mF->mJ mH)(nI:mO)(k:Nat)(H:Hp)(f u:mG)(a:mJ (mF×mF)):Prop :=
 ∀y,nH H y->xF y f/\∀Q:VK,(∀v x,nH y x->yy x v a->Q v x)->Hl P w K mg nI k f y [.ref u] Q
def vo.up(h:vo P w K mg nI k H f u a)(l:k<=j):vo P w K mg nI j H f u a:=λy x=>#[(h y x).1,λQ q A r s p o=>(h y x).2 Q q A r s p (o.mono l)]
def Ye.soft{val:mF->mD Yi}(z:∀b o,H b=some o->DB o->y b=some o)(h:Ye H d es val):Ye y d es val :=
 #[z _ _ h.1 trivial,λe x=>let⟨u,s,q⟩:=h.2 e x;#[u,z _ _ s trivial,oA q λ_ _ r=>z _ _ r trivial]]
def ym.soft(z:∀b o,H b=some o->DB o->y b=some o)(h:ym H dl x u s es g):ym y dl x u s es g :=
 #[z _ _ h.lies trivial,z _ _ h.stiff trivial,h.paths.soft z,z _ _ h.told trivial]
structure tF(T:Tx K mg)(H:Hp)(gr:Addr)(es:List (Str×Addr))(g:Gd)(dl ds dp dt:Addr):Prop where
 at_:Sf T H gr dl ds dp dt
 four:ym H dl ds dp dt es g
 vl:∀t,(g.val t).length<=100
 st:∀q∈g.stiff,q.2=true
 fd:(es.map fst).Nodup
 el:es.length<=100
 ne:∀e∈es,e.1≠ ""
def tF.mono(e:nH H y)(h:tF U H x es g dl u s r):tF U y x es g dl u s r:=#[h.at_.imp λ_ q=>e.at q,h.four.mono e,h.vl,h.st,h.fd,h.el,h.ne]
def tF.soft(z:∀b o,H b=some o->DB o->y b=some o)(h:tF U H x es g dl u s r):tF U y x es g dl u s r:=#[h.at_.imp λ_ q=>z _ _ q trivial,h.four.soft z,h.vl,h.st,h.fd,h.el,h.ne]
open Classical in
def vF(y:mD mF)(g:Gd)(x:mF):mJ (mF×mF):=if ∃t∈y,x∈(g.val t).map fst then some (("held":mF),x)else none
def xD(g:Gd)(x:mF):mJ (mF×mF):=if(g.told.lookup x).getD false=true then some (("taken":mF),x)else none
def Aa(H:Hp)(f:mG)(x:mF):Prop:=∃c,Clo H T.bN f (~~~"rule_held") (AA<|pR Xu) (Bm<|pR Xu) (vV<|pR Xu) [("part",c)]/\CellAt H c (.str x)
def zJ(H:Hp)(f:mG)(x:mF):Prop:=∃c,Clo H T.bv f (~~~"rule_taken") (AA<|pR Xh) (Bm<|pR Xh) (vV<|pR Xh) [("part",c)]/\CellAt H c (.str x)
def Aa.mono(e:nH H y)(h:Aa U H f x):Aa U y f x:=let⟨c,u,s⟩:=h;#[c,u.mono e,s.mono e]
def zJ.mono(e:nH H y)(h:zJ U H f x):zJ U y f x:=let⟨c,u,s⟩:=h;#[c,u.mono e,s.mono e]
inductive DR(R:Hp->mG->mF->Prop):Sp
 | mk (x):vs=[.str x]->sv T H->(∀f H',nH H H'->H f=none->R H' f x->Q (.ref f) H')->DR R vs H Q E
def Hx:T.dq.O P w mg nI 1 (DR T<|Aa T):=by
 refine T.dq.F.okM T.eE ZE (λy H Q E h=>?_) λu A r s H y Q E q h=>?_
 ·obtain⟨x,rfl,_⟩:=h
  rfl
 ·obtain⟨x,rfl,u,q⟩:=h;show vz.last #[rfl,u.rule_held,_,rfl,λs r p o n l=>q s r p o #[_,n,(l 0 "part" (.str x) _ rfl rfl rfl rfl).2]]
def Gi:T.cV.O P w mg nI 1 (DR T<|zJ T):=by
 refine T.cV.F.okM T.dP Zoc (λy H Q E h=>?_) λu A r s H y Q E q h=>?_
 ·obtain⟨x,rfl,_⟩:=h
  rfl
 ·obtain⟨x,rfl,u,q⟩:=h;show vz.last #[rfl,u.rule_taken,_,rfl,λs r p o n l=>q s r p o #[_,n,(l 0 "part" (.str x) _ rfl rfl rfl rfl).2]]
def NT{u:mD mF}{g:Gd}{x r:mF}(q:∀t∈u,t≠ "")(p:IA u g.val x r):(r≠ "")↔∃t∈u,x∈(g.val t).map fst:=by
 rcases p with⟨t,y,s,rfl⟩|⟨o,rfl⟩
 ·show#[λ_=>#[_,y,s],λ_=>q _ y]
 ·show#[λz=>absurd rfl z,λ⟨t,y,s⟩=>absurd s<|o t y]
def Jv{H:Hp}{f Y dl D U C:mG}{x:mF}{es:mD (mF×mG)}{g:Gd}(R:Aa T H f x)(G:tF T H Y es g dl D U C):vo P w K mg nI 4 H f Y (vF (es.map fst) g x):=by
 intro B N;obtain⟨c,M,ce⟩:=R.mono N;have L:sL B (vV<|pR Xu) [("part",c)] ["part"] [.str x]:=#[.cons #[rfl,c,rfl,ce] .nil,by simp,by simp,by simp]
 refine#[M.fn,λQ q=>?_];refine EU (g :="ground") M L (λ_ _ _ _=>rfl) rfl (by lk) (by left) (by left) rfl rfl rfl λc8 A nG s J=>?_
 have u:=(G.mono N).soft λb o e n=>L.soft e n
 obtain⟨p,hg⟩:=u.at_;refine tz (W5 (rV J (Zv (Np T) J<|Zb (Z2 (pv 0) rfl)<|Zb (pv 1) Za) Zg) (Zi<|Zb Zg<|Zb (pv 1) Za) vS) #[hg,T.dB,T.di,rfl,U,x,es,g.val,rfl,u.four.paths,u.fd,u.el,u.vl,λr p I l=>.inl #[rfl,Z7 (λy=>?_) λy=>?_]]
 ·have y:r≠ "":=by simpa using y
  have j:=(NT (λt i=>by obtain⟨e,h,rfl⟩:=oh.mp i;show G.ne e h) l).mp y;refine#[nV,λp H3 Q n3 e3=>#[I.trans Q,λd E a=>q _ d a ?_]];unfold vF;rw[og j];show#[p,rfl,E.at e3]
 ·have y:¬r≠ "":=by simpa using y
  have j:=λz=>y<|(NT (λt i=>by obtain⟨e,h,rfl⟩:=oh.mp i;show G.ne e h) l).mpr z
  refine#[I,λd E a=>q _ d a ?_];unfold vF;rw[nY j];show rfl
def HQ(R:zJ T H f x)(G:tF T H d es g dl I E a):vo P w K mg nI 4 H f d (xD g x):=by
 intro Y j;obtain⟨c,i,U⟩:=R.mono j;have L:sL Y (vV<|pR Xh) [("part",c)] ["part"] [.str x]:=#[.cons #[rfl,c,rfl,U] .nil,by simp,by simp,by simp]
 refine#[i.fn,λQ q=>?_];refine EU (g :="ground") i L (λ_ _ _ _=>rfl) rfl (by lk) (by left) (by left) rfl rfl rfl λD A C s N=>?_
 have y:=(G.mono j).soft λb o e n=>L.soft e n
 obtain⟨p,M⟩:=y.at_;refine tz (W5 (Yw<|Bc (Xb N) (Z2 (pv 0) rfl) (pv 1) rK #[rfl,rfl,rfl,rfl]) (Zi<|Zb Zg<|Zb (pv 1) Za) vS) #[M,T.dB,T.eu,rfl,a,rfl,.inl #[_,.inl y.four.told],_,rn (k:=Sum.inr x) y.four.told,?_];rw[yA];have e:(Option.map V.bl<|g.told.lookup x).getD (V.bl false)=V.bl ((g.told.lookup x).getD false):=by cases g.told.lookup x<;>rfl
 rw[e];refine(Z7 (λu=>?_) λu=>?_)
 ·refine#[nV,λp B Q n3 J=>#[Q,λr h l=>q _ r l ?_]];unfold xD;rw[og u];show#[p,rfl,h.at J]
 ·refine#[qu _,λr h l=>q _ r l ?_];unfold xD;rw[nY u];show rfl
def yM:mD (mJ<|mF×mF)->mJ (mF×mF)
 | []=>none
 | some z ::_=>some z
 | none ::r=>yM r
theorem OA:∀{l:mD (mJ<|mF×mF)},(∀a∈l,a=none)->yM l=none
 | [],_=>rfl
 | a ::r,h=>by
  have:a=none:=h a<|pK ..;subst this;show OA (l:=r) λb y=>h b<|pV _ y
theorem Ng:∀{l:mD (mJ<|mF×mF)}{i:Nat}{z:mF×mF},l[i]? =some (some z)->(∀a∈l.take i,a=none)->yM l=some z
 | [],_,_,h,_=>by simp at h
 | a ::r,0,z,h,_=>by
  have:a=some z:=by simpa using h
  subst this
  rfl
 | a ::r,i+1,z,h,n=>by
  have:a=none:=n a (by simp);subst this;show Ng (l:=r) (i:=i) (by simpa using h) λb y=>n b (by rw[SC];show pV _ y)
inductive Ss(P:mS)(w:mP)(K:mK)(mg:mF->mJ mH)(nI:mO):Sp
 | mk (l gr) (fs:mD mG) (ans):vs=[.ref l,.ref gr]->SqL K H l (fs.map V.ref)->Paired (λf a=>vo P w K mg nI 5 H f gr a) fs ans->(∀v H',nH H H'->yy H' v (yM ans)->Q v H')->Ss P w K mg nI vs H Q E
def Jt:T.gk.O P w mg nI 6 (Ss P w K mg nI):=by
 refine T.gk.F.okW Ht ?_;rfl'
 ·obtain⟨l,G,fs,ans,rfl,d,c,q⟩:=h;intro X D;have C:fs.length=ans.length:=oz c;let r:IF:=λi y Y=>(∃o n,y=[some (.ref l),some<|.ref G,o,n])/\nH H Y/\∀a∈ans.take i,a=none
  refine nR (Y9 qo rfl (Yd<|pv 0) (oY 2 Ht) Zq) #[d,W7 (xs:=fs.map V.ref) r #[#[none,none,rfl],qu _,by simp] ?_ ?_ ?_]
  ·rintro i y Y _ ⟨_,p,_⟩;show p.seq d
  ·rintro i v y U N ⟨⟨o,n,rfl⟩,x,u⟩;rw[oF]at N;obtain⟨f,B,rfl⟩:=oN.mp N;obtain⟨a,M,an⟩:=pG c B;obtain⟨L,run⟩:=an U x;refine nR (oj 3 Ht<|KF (k:=5) hr (pv 2)<|Zb (pv 1) Za) #[f,rfl,L,L,run _ λv H2 J j=>?_];refine nU (Zx (Yg TK (pv 3) vS<|Yv _) Zq Zk) #[rfl,Z7 (λg=>?_) λg=>?_]
   ·refine nU (Zl<|pv 3)<|q v H2 (x.trans J) ?_;cases a with
    | none=>cases(show v=.non from j);simp at g
    | some z=>rw[Ng M u];show j
   ·refine#[#[_,_,rfl],x.trans J,λb I=>?_];rw[oW,M,pC]at I;rcases I with z|z
    ·show u b z
    ·simp at z;rw[z];cases a with
     | none=>rfl
     | some z=>obtain⟨p,e,_⟩:=j;subst e;simp at g
  ·rintro y U ⟨⟨o,n,rfl⟩,x,u⟩;rw[nQ,C,pQ]at u;show nU (Zl vS) (q _ _ x<|by rw[OA u];rfl)
def uO:mD mF:=["","a","b","c","d","stem","left","right"]
def AK(k y x lie:mF):Prop:=uz k y lie=x/\uz k x lie=y/\y∈uO/\x∈uO/\lie∈uO/\(lie ="" ↔ k≠ "points")
def qH(ps:mD Zh)(q:S4):Prop:=∃k,((k,q.1):Zh)∈ps/\AK k q.2.1 q.2.2.1 q.2.2.2
def ZI:∀k∈rh,∀y∈Yq k,∀lie∈wE k,uz k y lie≠ ""\/k ="gate"\/k ="stop"->AK k y (uz k y lie) lie:=by unfold AK;decide +kernel
def qH.nm(h:qH ps q):q.1∈ps.map snd:=let⟨_,h,_⟩:=h;oh.mpr #[_,h,rfl]
def Qg(k:mF):(wE k).length<=2:=by unfold wE;split<;>decide
inductive pZ(ns:S4->Prop)(H:Hp):List Addr->List S4->Prop
 | mk (h:Paired (qK H) us qs) (o:∀q∈qs,ns q):pZ ns H us qs
def pZ.mono(e:nH H y)(h:pZ x H us qs):pZ x y us qs:=let⟨h,o⟩:=h;#[oA h λ_ _ r=>r.mono e,o]
def pZ.nil:pZ y H [] []:=#[.nil,(λ_ z=>nomatch z)]
def pZ.len(h:pZ y H us qs):us.length=qs.length:=let⟨h,_⟩:=h;oz h
def pZ.snoc(h:pZ y H us qs)(r:qK H u q)(o:y q):pZ y H (us++[u]) (qs++[q]):=by
 obtain⟨h,k⟩:=h;refine#[qc h<|.cons r .nil,λp x=>?_];rcases pC.mp x with z|z
 ·show k p z
 ·rw[qG.mp z];show o
def pZ.get(h:pZ x H us qs){i:Nat}{u:mG}(e:us[i]? =some u):∃q,qs[i]? =some q/\qK H u q/\x q:=by
 obtain⟨h,k⟩:=h;obtain⟨q,y,r⟩:=pG h e;show#[q,y,r,k q<|qf y]
def pZ.off{xs:mD V}(h:pZ y H us qs)(x:H c=some (.lst xs)):pZ y (nO H c o) us qs:=by
 obtain⟨h,k⟩:=h;show#[oA h λt q (r:H t=_)=>show nO H c o t=_ from(Zd λz=>by rw[z,x]at r;cases r).trans r,k]
def DA(u:S4->Prop)(H:Hp)(l:mG)(n:Nat):Prop:=∃y x,H l=some (.lst<|y.map V.ref)/\pZ u H y x/\x.length<=n
def DA.none{n:Nat}(h:H l=some (.lst [])):DA y H l n:=#[[],[],h,.nil,sY _]
inductive MW:Sp
 | mk (x t) (e:Zh) (ps js sg):vs=[.ref x,.ref t]->Yh T H x ps js sg->Xq ps js sg->Zp H t e->(∀l H',nH H H'->H l=none->DA (λq=>qH ps q/\(q.1,q.2.1)=e/\e∈Yl ps) H' l 2->Q (.ref l) H')->MW vs H Q E
def Pc{ps:mD Zh}{e:Zh}(h:e∈Yl ps):∃k,((k,e.1):Zh)∈ps/\e.2∈Yq k:=by
 obtain⟨p,y,u⟩:=uD.mp h;obtain⟨x,s,rfl⟩:=oh.mp u;show#[p.1,y,s]
def xt{y:Hp}{u:mG}{e:Zh}(h:Zp y u e):Im K y 1 (pW e) (.ref u):=wp (n:=0) (nX h)<|.cons (.str _)<|.cons (.str _) .nil
def Zn6:T.dW.O P w mg nI 4 (MW T):=by
 refine T.dW.F.okW W8 ?_;rfl'
 ·obtain⟨x,t,⟨nm,u⟩,Y,js,sg,rfl,tr,yv,ht,q⟩:=h;intro X D;obtain⟨y,_,_,_,_,_,_,_,_,h1,_⟩:=tr.ex;have imN:∀e:Hp,Im K e 1 (pW ("","")) (.ref T.dD):=λe=>wp (n:=0) (T.iS e)<|.cons (.str _)<|.cons (.str _) .nil
  by_cases hm:((nm,u):Zh)∈Yl Y
  ·obtain⟨k,hk,Q8⟩:=Pc hm;have P3:=yv.net.kind _ hk;refine nR (Zx (pY hr (Z6 (pv 0) T.af T.bX (Wy T) hr.m T.aR.b .nil Z4<|Zb (pv 1) Za)<|X2 (v:=.ref T.dD) (by rfl) T.hZ rfl) Zq Zk) #[h1,rfl,x,t,(nm,u),Y,js,sg,rfl,tr,yv,ht,.inl #[hm,λt' g a p=>.inr<|.inl #[1,pW g,pW ("",""),by lk,.inl #[_,_,rfl,rfl],xt p,imN _,Z7 (λz=>?_) λ_=>?_]]]
   ·show nU (Zl<|Zn Za) #[nV,λl H2 U n2 e2=>q l H2 U n2<|.none e2]
   refine nR (oj 2 W8<|oi (pv 1) Ze)<|.inr<|.inl #[nX ht,Zm (j:=0) rfl,?_];refine nR (oj 3 W8<|oi (pv 1) Ze)<|.inr<|.inl #[nX ht,Zm (j:=1) rfl,?_];refine nR (oj 4 W8<|Z6 (pv 0) T.af T.bL (Wg T) hr.m T.aO.b .nil Z4<|Zb (pv 2) Za) #[h1,rfl,x,nm,k,Y,js,sg,rfl,tr,yv,hk,λy C H1 s1 hC hO _=>?_];obtain⟨dy,hy⟩:=id hO;obtain⟨p,g,m1,b1,g1⟩:=hC.lies;refine nR (xP 5 ["lie","name","entry","part"] W8 (pF 1 [2,3,4] rfl) (Yd BG) (pc 0) X8 (Zi<|Zb (pv 1)<|Zb (pv 2)<|Zb (Z6 (pv 3) hC.cls.1 hC.cls.2.2 (Qw T) hr.m T.aG.b .nil Z4<|Zb (pv 2)<|Zb (pv 0) Za)<|Zb (pv 0) Za))<|tz (Yf (pv 4) hC.cls.1 m1 (g1 _ _ _ 3<|by lk) hr b1 .nil Z4) #[hy,rfl,_,rfl,λp H2 U n2 e2=>#[nS e2,λD hD=>Yp (K:=K) (xs:=(wE k).map V.str) (λi c e=>(∃us qs,c=us.map V.ref/\pZ (λq=>∃lie∈wE k,q=(nm,u,uz k u lie,lie)) e us qs/\qs.length=i)/\e D=some (.lst c)/\nH H2 e) #[#[[],[],rfl,.nil,rfl],Zc,pP hD] ?_ ?_ ?_]]
   ·rintro i c e _ ⟨_,_,sm⟩;show nS<|sm.at e2
   ·rintro i v c e L ⟨⟨us,qs,rfl,g9,hl⟩,a,sm⟩;rw[oF]at L;obtain⟨lie,p,rfl⟩:=oN.mp L;have E6:=(pT.mp p).1;have h2:=Qg k;have D1:=g9.len;have g:=sm.at<|U.at hy;refine#[pE rfl,g,rfl,k,y,C,nm,u,lie,rfl,hC,#[dy,g],λN M=>#[nV,λI J d B G=>#[d.at<|M.at a,by rw[nQ];show Zo (by lia),#[us++[I],qs++[(nm,u,uz k u lie,lie)],by rw[oy];rfl,?_,by rw[oP,hl];rfl],Zc,?_]]]
    ·show(((g9.mono M).mono d).snoc (q:=(nm,u,uz k u lie,lie)) G #[lie,qf p,rfl]).off (d.at<|M.at a)
    ·intro b o z;rw[Zd (Zf z hD)];show d.at<|M.at<|sm.at z
   ·rintro c N ⟨⟨us,qs,rfl,g9,hl⟩,hD3,M⟩;have hO3:qX N C y nm:=(hO.mono U).mono M;have h2:=Qg k;have D1:=g9.len;rw[nQ]at hl;refine nU (Zl<|Z5 (r:=Ib K) (QO hr.units) (by rfl) T.cQ yn<|Zb (qh ["step","part"] (pF 1 [4] rfl) (Yd<|pv 5) (pc 0) (sO<|rc<|uA (Yg (r:=uY K) (wm hr) (W2 (K:=K) rfl (pv 0) Ze) Zg<|Yv _)<|uP<|Yw<|Z5 (r:=yU K) DC (by rfl) T.aj tw<|Zb (pv 1)<|Zb (X2 (v:=.ref T.bz) (by rfl) T.jf rfl) Za) (pv 0)) Za) #[nS hD3,λI y8=>Yp (K:=K) (xs:=us.map V.ref) (λi c e=>(∃vs ws,c=vs.map V.ref/\pZ (λq=>qH Y q/\(q.1,q.2.1)=((nm,u):Zh)/\((nm,u):Zh)∈Yl Y) N vs ws/\ws.length<=i)/\e I=some (.lst c)/\nH N e) #[#[[],[],rfl,.nil,oq _],Zc,pP y8] ?_ ?_ ?_]
    ·rintro i c e _ ⟨_,_,sm⟩;show nS<|sm.at hD3
    ·rintro i v c J L ⟨⟨vs,ws,rfl,C4,G⟩,C6,d⟩;rw[oF]at L;obtain⟨t4,S8,rfl⟩:=oN.mp L;obtain⟨B,hq4,ht4,ok4⟩:=g9.get S8;have E6:=(pT.mp S8).1;obtain⟨ty,hty,hkit⟩:=hC.stop<|hO3.mono d;have J5:=C4.len;have yes (g:B.2.2.1≠ ""\/k ="gate"\/k ="stop"):J I=some (.lst<|vs.map V.ref)/\(vs.map V.ref).length<sizeLine/\(∃a p,vs.map V.ref++[.ref t4]=a.map V.ref/\pZ (λq=>qH Y q/\(q.1,q.2.1)=((nm,u):Zh)/\((nm,u):Zh)∈Yl Y) N a p/\p.length<=i+1)/\nO J I (.lst<|vs.map V.ref++[.ref t4]) I=some (.lst<|vs.map V.ref++[.ref t4])/\nH N (nO J I<|.lst<|vs.map V.ref++[.ref t4]) :=
      #[C6,by rw[nQ];show Zo (by lia),#[vs++[t4],ws++[B],by rw[oy];rfl,C4.snoc ht4 (by obtain⟨lie,hl,rfl⟩:=ok4;show#[#[k,hk,ZI k P3 u Q8 lie hl g],rfl,hm]),by rw[oP];show yw G],Zc,λb o z=>by rw[Zd (Zf z y8)];show d.at z]
     have no:(∃a p,vs.map V.ref=a.map V.ref/\pZ (λq=>qH Y q/\(q.1,q.2.1)=((nm,u):Zh)/\((nm,u):Zh)∈Yl Y) N a p/\p.length<=i+1)/\J I=some (.lst<|vs.map V.ref)/\nH N J:=#[#[vs,ws,rfl,C4,by lia],C6,d]
     refine#[pE rfl,.inr<|.inl #[nX<|d.at ht4,Zm (j:=2) rfl,.inl #[rfl,Z7 (λz=>yes (.inl λy=>by rw[y]at z;show absurd z<|by left)) λ_=>#[hty,.inr #[_,rfl,hkit],?_]]]]
     by_cases g:k ="gate"\/k ="stop"
     ·rw[oO g];show yes<|.inr g
     ·rw[pj g];show no
    ·rintro c J ⟨⟨vs,ws,rfl,C4,G⟩,C6,d⟩;rw[nQ]at G;have g:=C4.mono d;refine#[I,vs,rfl,nS C6,λa ha=>?_,λas' hp l H5 s5 n5 e5=>q l H5 (s1.trans<|U.trans<|M.trans<|d.trans s5) (s1.free<|U.free<|M.free<|d.free n5) ?_]
     ·obtain⟨i,L⟩:=BA ha;obtain⟨B,_,a,_⟩:=g.get L;show#[B.1,[B.2.1,B.2.2.1,B.2.2.2],a]
     ·obtain⟨hv,ok⟩:=g.mono s5;obtain⟨p,a,p2⟩:=GV hp hv;show#[as',p,e5,#[p2,λq hq=>ok q<|a.mem_iff.mp hq],by rw[a.length_eq];lia]
  ·refine nR (Zx (pY hr (Z6 (pv 0) T.af T.bX (Wy T) hr.m T.aR.b .nil Z4<|Zb (pv 1) Za)<|X2 (v:=.ref T.dD) (by rfl) T.hZ rfl) Zq Zk) #[h1,rfl,x,t,(nm,u),Y,js,sg,rfl,tr,yv,ht,.inr #[hm,λt' H1 s1 p y=>.inr<|.inl #[1,pW ("",""),pW ("",""),by lk,.inl #[_,_,rfl,rfl],xt y,imN _,Z7 (λ_=>?_) λz=>absurd (oO rfl) z]]];show nU (Zl<|Zn Za) #[nV,λl H2 U n2 e2=>q l H2 (s1.trans U) (s1.free n2)<|.none e2]
inductive JW:Sp
 | mk (x ps js sg):vs=[.ref x]->Yh T H x ps js sg->Xq ps js sg->(∀l ts sg' H',nH H H'->H l=none->H' l=some (.lst<|ts.map V.ref)->Paired (BI H') ts sg'->sg'.Perm sg->Q (.ref l) H')->JW vs H Q E
def RD:T.bo.O P w mg nI 1 (JW T):=by
 refine T.bo.F.okA ?_;rfl'
 ·obtain⟨x,u,l,C,rfl,tr,yv,q⟩:=h;intro X D;obtain⟨x,u,l,p,g,e,N,a,ko,h1,_,_,_,_,h6,h7,_⟩:=tr.ex;have hks:N.length=C.length:=by rw[h7.len];show nQ ..
  have M8:=yv.sigs.len;refine nU (Zl<|Z5 (r:=Ib K) (QO hr.units) (by rfl) T.cQ yn<|Zb (Jm<|qh ["name","end"] (pF 2 [] rfl) (yk<|Z2 (pv 0) rfl) (xB (K:=K) (n:=2) rfl rfl<|Zu (pc 0)<|Zu (pc 1) Y5) X8 (Zi<|Zb (pv 0)<|Zb (W2 (K:=K) rfl (pv 1) Ze)<|Zb (W2 (K:=K) rfl (pv 1) Ze) Za)) Za) #[h1,T.af,T.bD,rfl,h6,λo nf D B=>Fj (λi L H'=>nH (nO H p<|.frz o<|.dK N) H'/\H' D=some (.lst L)/\∃d:mD mG,L=d.map V.ref/\Paired (BI H') d (C.take i)) #[pP B,Zc,[],rfl,.nil] ?_ ?_ ?_]
  ·rintro i L H' _ ⟨z,_⟩;show z.at Zc
  ·rintro i kv L J hi ⟨M,y8,d,rfl,I⟩ tp H3 Y n3 e3;obtain⟨⟨nm,e⟩,g,a,t,hv,ht⟩:=pG h7 hi;have a:kv.1=Sum.inr nm:=a;rw[a,hv]at e3;have G:C[i]? =some (nm,e.1,e.2):=by
    unfold qS at g;rw[oF]at g;obtain⟨⟨g1,g2,g3⟩,G,e'⟩:=oN.mp g;rw[G];simp only[Ad]at e';rw[<-e'.1,<-e'.2]
   have hto:t≠p:=λz=>by rw[z]at ht;show nomatch h6.symm.trans ht
   have htF:nO H p (.frz o<|.dK N) t=some (.tup [.str e.1,.str e.2]):=by
    rw[Zd hto];show ht
   have G9:d.length<=40:=by
    rw[oz I,oZ];lia
   have x:=nX (K:=K)<|Y.at<|M.at htF;refine#[nX e3,rfl,rfl,(pE rfl).trans (pE rfl),.inr<|.inl #[x,Zm (j:=0) rfl,.inr<|.inl #[x,Zm (j:=1) rfl,nV,λt' H4 l n4 e4=>#[l.at<|Y.at y8,by rw[nQ];show Zo (by lia),?_,Zc,d++[t'],by rw[oy];rfl,?_]]]]
   ·intro c u z;rw[Zd (Zf z B)];show l.at<|Y.at<|M.at z
   ·have C6:=l.at<|Y.at y8;have off:∀{c:mG}{U:mD V}{u:HO},H4 c=some (.tup U)->nO H4 D u c=some (.tup U):=λ{c U u} z=>(Zd λy=>by rw[y,C6]at z;cases z).trans z
    rw[oW,G];show qc (oA I λ_ _ z=>off<|l.at<|Y.at z)<|.cons (off e4) .nil
  ·rintro L J ⟨M,y8,d,rfl,I⟩;rw[hks,pQ]at I;have e:nH H (nO J p<|.dK N):=xK h6 M;have u:D≠p:=λz=>by rw[z,Zc]at B;cases B
   have off:∀{c:mG}{U:mD V},J c=some (.tup U)->nO J p (.dK N) c=some (.tup U):=λ{c U} z=>(Zd λy=>by rw[y,M.at Zc]at z;cases z).trans z
   have x:Paired (BI<|nO J p<|.dK N) d C:=oA I λ_ _ z=>off z
   refine#[p,o,_,M.at Zc,nf,D,d,rfl,nS (by rw[Zd u];show y8),λa ha=>?_,λD9 hp l H3 Y n3 e3=>?_]
   ·obtain⟨i,hi⟩:=BA ha;obtain⟨g,_,G⟩:=pG x hi;show#[g.1,[g.2.1,g.2.2],G]
   ·obtain⟨g,a,p2⟩:=GV hp x;show q l D9 g H3 (e.trans Y) (e.free n3) e3 (oA p2 λ_ _ z=>Y.at z) a
inductive KH:Sp
 | mk (x) (g:mF×Zh) (ps js) (sg:mD (mF×mF×mF)):vs=[.ref x,.str g.1]->Yh T H x ps js sg->Xq ps js sg->(g:mF×mF×mF)∈sg->(∀(t:mG)(H':Hp),nH H H'->Zp H' t g.2->Q (.ref t) H')->KH vs H Q E
def Ia:T.aZ.O P w mg nI 2 (KH T):=by
 refine T.aZ.F.okA ?_;rfl'
 ·obtain⟨x,⟨nm,e⟩,N,M,l,rfl,j,r,p,q⟩:=h;intro X D;obtain⟨x,N,M,i,L,J,g,I,G,o,_,_,_,_,n,d,_⟩:=j.ex;have c:((nm,e):mF×Zh)∈qS l:=oh.mpr #[(nm,e),p,rfl];obtain⟨v,a,t,rfl,Y⟩:=d.get wZ (by rw[RK];show r.sigs.nd) c;have u:Y0 g (Xd nm)=some (.ref t):=a;refine nR (Zx (rc<|uA (Xs<|Yw<|Zv (AD T) hr<|Zb (pv 1) Za)<|uP<|wA hr (pv 1)<|Z2 (pv 0) rfl) Zq Zk) #[_,true,rfl,(r.sigs.name _ p).asked,λU y=>#[y.at o,T.af,T.bD,rfl,.inr<|.inl #[i,_,rfl,rn (k:=Xd nm)<|y.at n,?_]]];rw[u];show nU (Zl<|Xy (Xb hr) (Z2 (pv 0) rfl) (pv 1) λ_ _=>rfl) #[y.at o,T.af,T.bD,rfl,yO.mk (v:=.ref t) (by rw[<-u];show rn (k:=Xd nm)<|y.at n)<|q t U y<|Y.mono y]
def qV(x:S4->Prop)(H:Hp)(t:mG)(sig:mF)(qs:mD S4):Prop:=∃y,H t=some (.tup<|.str sig ::y.map V.ref)/\pZ x H y qs
def qV.mono(e:nH H y)(h:qV x H t sig qs):qV x y t sig qs:=let⟨u,s,r⟩:=h;#[u,e.at s,r.mono e]
def qV.off{xs:mD V}(h:qV u H t sig qs)(x:H c=some (.lst xs)):qV u (nO H c o) t sig qs:=by
 obtain⟨s,y,r⟩:=h;show#[s,(Zd λz=>by rw[z,x]at y;cases y).trans y,r.off x]
def Ybf{ps:mD Zh}(h:∀p∈ps,X7 p.2)(z:(("",x):Zh)∈Yl ps):False:=by
 obtain⟨k,y,_⟩:=Pc z;show zQ (h _ y) rfl
def tD(q:S4):Zh:=(q.1,q.2.2.1)
def ux(e:Zh)(qs:mD S4):Zh:=(qs.getLast?.map tD).getD e
inductive Nr:Sp
 | mk (ns x t) (g:mF×Zh) (qs ps js) (sg:mD (mF×mF×mF)):vs=[.ref x,.ref t]->Yh T H x ps js sg->Xq ps js sg->(g:mF×mF×mF)∈sg->qV ns H t g.1 qs->qs.length<=100->(∀l H',nH H H'->H l=none->DA (λq=>qH ps q/\(ux g.2 qs,(q.1,q.2.1))∈qJ js) H' l 2->(12<=qs.length->H' l=some (.lst []))->Q (.ref l) H')->Nr vs H Q E
def Yc6{H:Hp}{ps:mD Zh}{r:mD (Zh×Zh)}{e:Zh}{Q:mG->Hp->Prop}{q:mG->Prop}(p:∀t',Q t' H->q t')(h:∀t' x y,nH H y->Zp y t' x->(x≠(("",""):Zh)->(e,x)∈qJ r)->Q t' y):(e∈Yl ps/\∀t' x,((e,x):Zh×Zh)∈qJ r->Zp H t' x->q t')\/(e∉Yl ps/\∀t' y,nH H y->H t'=none->Zp y t' ("","")->Q t' y):=by
 by_cases z:e∈Yl ps
 ·show .inl #[z,λt' x m u=>p t'<|h t' x H (qu _) u λ_=>m]
 ·show .inr #[z,λt' y s _ u=>h t' _ y s u λz=>absurd rfl z]
def ZO(n:Nat):wW (n+1) (-1)=some n:=by
 unfold wW;rw[nY (by lk)];simp
 constructor<;>lia
def FT{y:Type}(xs:mD y)(x:y):pz (xs++[x]) (-1)=some x:=by
 unfold pz;rw[oP,Bx,ZO];simp
def MK:T.fm.O P w mg nI 5 (Nr T):=by
 refine T.fm.F.okW Da ?_;rfl'
 ·obtain⟨l,x,t,⟨sig,e⟩,N,ps,js,sg,rfl,tr,yv,hg,⟨n,ht,g9⟩,hz,q⟩:=h;intro X D;have D1:=g9.len;obtain⟨l,_,_,_,_,_,_,_,_,h1,_⟩:=tr.ex;have V5:((V.str sig ::n.map V.ref).length:Int)=((N.length+1:Nat):Int):=by rw[qr,nQ,D1]
  refine nR (Zx (Yg xo (qt T.aY<|pv 1) (Ax (by rfl) T.gN)<|Yv _) Zq Zk)<|.inl #[.inr<|nX ht,Z7 (λz=>?_) λz=>?_]
  ·show nU (Zl<|Zn Za) #[nV,λl H1 G n1 e1=>q l H1 G n1 (.none e1) λ_=>e1]
  have z:N.length<12:=by
   rcases zL N.length 12 with p|p
   ·show p
   ·show absurd (oO<|by rw[V5];lia) z
  refine nR (oj 2 Da<|Z6 (pv 0) T.af T.cJ (Ia T) hr.m T.aZ.b .nil Z4<|Zb (oi (pv 1) Ze) Za) #[h1,rfl,.inr<|.inl #[nX ht,Zm (j:=0) rfl,x,(sig,e),ps,js,sg,rfl,tr,yv,hg,λtp H1 G hp=>?_]];have P9:=G.at ht;let I19:IC:=λy c=>∃tl,y=[some (.ref x),some<|.ref t,some<|.ref tp,some<|.ref tl,none]/\nH H1 c/\Zp c tl (ux e N)
  refine qk I19 ?_ ?_
  ·refine qp (oj 3 Da<|W5 (pY hr (qt T.aY<|pv 1) Ze) (pv 2)<|Zv (CD T) hr<|Zb (oi (pv 1)<|wo wq Ze) Za)<|.inl #[.inr<|nX P9,.inl #[rfl,Z7 (λp=>?_) λp=>?_]]
   ·refine#[tp,rfl,qu _,?_];have p:n.length=0:=by have:=V.int.inj<|pA p;rw[V5]at this;lia
    rw[show N=[]from BJ.mp<|D1 ▸ p];show hp
   ·have p:0<n.length:=by
     rcases Nat.eq_zero_or_pos n.length with v|v
     ·show absurd (oO<|by rw[V5,<-D1,v];rfl) p
     ·show v
    obtain⟨B,a,rfl⟩:∃B a,n=B++[a]:=#[n.dropLast,n.getLast<|List.ne_nil_of_length_pos p,(Jf _).symm]
    obtain⟨qq,M,C,_⟩:=(g9.mono G).get (i:=B.length) (u:=a) (by simp);have l:ux e N=tD qq:=by
     unfold ux;rw[Bv,<-D1,oP,Bx,Jd,M]
     rfl
    have la:pz (V.str sig ::(B++[a]).map V.ref) (-1)=some (.ref a):=by
     rw[oy,<-List.cons_append];show FT _ _
    show .inr<|.inl #[nX P9,la,a,qq,rfl,C,λt3 H3 s3 n3 e3=>#[t3,rfl,s3,by rw[l];show e3]]
  rintro y H2 ⟨tl,rfl,s2,hl⟩;have ht2:=s2.at P9;have hus2:=(g9.mono G).mono s2;refine nR (oj 4 Da<|Zr W0 (Zn<|Zb (oi (pv 2) Ze) Za)<|qh ["step"] (pF 1 [] rfl) (AG<|Xk (r:=su K) sE (pv 1) (X1 Ze) Wf) (pc 0) X8 (W2 (K:=K) rfl (pv 0) Ze))<|.inr<|.inl #[nX<|s2.at hp,Zm (j:=0) rfl,nV,λla H3 s3 n3 e3=>.inl #[nX<|s3.at ht2,?_,λt4 H4 s4 l L=>#[nX L,λD hD=>?_]]]
  ·rintro⟨p,_⟩;have:HT.sIx (V.str sig ::n.map V.ref).length 0 (some 1)=1:=by
    unfold HT.sIx;simp
   rw[this]at p;cases p
  have L:H4 t4=some (.tup<|n.map V.ref):=by
   have L:H4 t4=some (.tup<|rf (V.str sig ::n.map V.ref) (some ((1:Nat):Int)) none):=L;rw[yP]at L;show L
  refine GK (K:=K) (xs:=n.map V.ref) (λi g c=>g=((N.take i).map fst).map V.str/\c D=some (.lst g)/\nH H4 c) #[rfl,Zc,pP hD] ?_ ?_ ?_
  ·rintro i g c _ ⟨_,_,sm⟩;show nX<|sm.at L
  ·rintro i v g H5 hi ⟨rfl,O0,s5⟩;rw[oF]at hi;obtain⟨a,Y,rfl⟩:=oN.mp hi;obtain⟨qq,M,C,_⟩:=hus2.get Y;have l:=C.mono<|s3.trans<|s4.trans s5;refine#[pE rfl,.inr<|.inl #[nX l,Zm (j:=0) rfl,O0,by rw[nQ,nQ,oZ];show Zo (by lia),?_,Zc,λb o p=>?_]]
   ·rw[oW,M,oy,oy];rfl
   ·rw[Zd (Zf p hD)];show s5.at p
  rintro g H5 ⟨rfl,O0,s5⟩;refine .inr<|.inr #[(s4.trans s5).at e3,O0,by rw[nQ,nQ,oZ];show sz (by change 1+_<=_;lia),λl H6 s6 n6 e6=>?_];have s26:=s3.trans<|s4.trans<|s5.trans s6;have d:=G.trans<|s2.trans s26;refine nU (Zl<|qh ["step","passed"] (pF 1 [4] rfl) (Yd<|Zv (Zn6 T) hr<|Zb (pv 0)<|Zb (Z6 (pv 0) T.af T.bX (Wy T) hr.m T.aR.b .nil Z4<|Zb (pv 3) Za) Za) (pc 0) (sO<|Yg (r:=CM K) (Iv hr) (W2 (K:=K) rfl (pv 0) Ze) (pv 1)<|by with_unfolding_all rfl) (pv 0)) #[d.at h1,rfl,x,tl,_,ps,js,sg,rfl,tr.mono d,yv,hl.mono s26,Yc6 (λ_ z=>z) λt7 e7 H7 s7 p7 j7=>#[x,t7,e7,ps,js,sg,rfl,tr.mono<|d.trans s7,yv,p7,λl8 l s8 n8 ⟨vs,B,h8,C4,V0⟩=>#[nS h8,λD2 y8=>Yp (K:=K) (xs:=vs.map V.ref) (λi g c=>(∃J bs,g=J.map V.ref/\pZ (λq=>qH ps q/\(ux e N,(q.1,q.2.1))∈qJ js) l J bs/\bs.length<=i)/\c D2=some (.lst g)/\nH l c) #[#[[],[],rfl,.nil,oq _],Zc,pP y8] ?_ ?_ ?_]]]
  ·rintro i g c _ ⟨_,_,sm⟩;show nS<|sm.at h8
  ·rintro i v g H9 hi ⟨⟨J,bs,rfl,has,hb⟩,U,I⟩;rw[oF]at hi;obtain⟨a,Y,rfl⟩:=oN.mp hi;obtain⟨qq,_,C,ok⟩:=C4.get Y;have l:=has.len;have J5:=C4.len;have E6:=(pT.mp Y).1;refine#[pE rfl,.inr<|.inl #[nX<|C.mono I,Zm (j:=0) rfl,.inl #[.inl<|nS<|(s7.trans<|s8.trans I).at e6,rfl,Wa _,Z7 (λ_=>?_) λ_=>?_]]]
   ·show#[U,by rw[nQ];show Zo (by lia),#[J++[a],bs++[qq],by rw[oy];rfl,has.snoc C #[ok.1,ok.2.1 ▸ j7 (λz=>by rw[z]at ok;show Ybf yv.name ok.2.2)],by rw[oP];show yw hb],Zc,λb o p=>by rw[Zd (Zf p y8)];show I.at p]
   ·show#[#[J,bs,rfl,has,by lia],U,I]
  ·rintro g H9 ⟨⟨J,bs,rfl,has,hb⟩,U,I⟩;rw[nQ]at hb;have J5:=C4.len;show q D2 H9 (d.trans<|s7.trans<|s8.trans I) (d.free<|s7.free<|s8.free y8) #[J,bs,U,has.mono I,by lia] λp=>absurd p (by lia)
def wt(ss:mD S4):Nat:=3 ^ (14-ss.length)
theorem PR:∀bs:mD (mD S4),bs.length<=(bs.map wt).sum
 | []=>oq _
 | b ::bs=>by
  have:=PR bs;have:1<=wt b:=Nat.one_le_pow _ _ (by lk);change bs.length+1<=wt b+(bs.map wt).sum;lia
def rL(x:S4->Prop)(H:Hp)(l:mG)(sig:mF)(u:mD (mD S4)):Prop:=∃y:mD mG,H l=some (.lst<|y.map V.ref)/\Paired (λt s=>qV x H t sig s) y u
def rL.mono(e:nH H y)(h:rL x H l sig u):rL x y l sig u:=let⟨s,q,p⟩:=h;#[s,e.at q,oA p λ_ _ r=>r.mono e]
def rL.off{xs:mD V}(h:rL y H l sig x)(u:H c=some (.lst xs))(n:l≠c):rL y (nO H c o) l sig x:=let⟨s,q,p⟩:=h;#[s,(Zd n).trans q,oA p λ_ _ r=>r.off u]
def rL.add{ts:mD mG}{y:mD (mD S4)}(x:H l=some (.lst<|ts.map V.ref))(h:Paired (λt ss=>qV u H t sig ss) ts y)(r:qV u H t sig ss):rL u (nO H l<|.lst<|ts.map V.ref++[.ref t]) l sig (y++[ss]) :=
 #[ts++[t],by rw[Zc,oy];rfl,qc (oA h λ_ _ r=>r.off x)<|.cons (r.off x) .nil]
def xR(y:mD (Zh×Zh))(p:mD S4):Prop:=∀i q r,p[i]? =some q->p[i+1]? =some r->(tD q,((r.1,r.2.1):Zh))∈qJ y
structure ui(js:List (Zh×Zh))(e:Zh)(p:List S4):Prop where
 hd:∀q,p[0]? =some q->(e,((q.1,q.2.1):Zh))∈qJ js
 tl:xR js p
def xR.app{p r:mD S4}(h:xR u p)(k:ui u (ux e p) r):xR u (p++r):=λi a b y x=>by
 by_cases s:i+1<p.length
 ·rw[xq s]at x;rw[xq (by lia)]at y;show h i a b y x
 rw[wU (by lia)]at x
 by_cases q:i<p.length
 ·rw[xq q]at y;have:=k.hd b (by rw[<-x];congr 1;lia);unfold ux at this;rw[Bv,show p.length-1=i by lia,y]at this;show this
 ·rw[wU (by lia)]at y;show k.tl _ a b y (by rw[<-x];congr 1;lia)
def ui.app{p r:mD S4}(h:ui y e p)(k:ui y (ux e p) r):ui y e (p++r):=#[λq x=>by
 cases p with
 | nil=>show k.hd q x
 | cons a p=>show h.hd q x,h.tl.app k]
def ui.one(h:(e,((q.1,q.2.1):Zh))∈qJ y):ui y e [q]:=#[λr z=>by cases z;show h,λi a b _ z=>by cases i<;>cases z]
def ui.nil:ui y e []:=#[(λ_ z=>nomatch z),λ_ _ _ z=>nomatch z]
structure zZ(js:List (Zh×Zh))(sg:List (Str×Str×Str))(e:Zh)(r:List S4):Prop where
 ne:r≠[]
 le:r.length<=12
 ch:ui js e r
 en:∀q∈r.getLast?,uq sg q=true
structure DX(js:List (Zh×Zh))(e:Zh)(r:List S4):Prop where
 le:r.length<=12
 ch:ui js e r
inductive NW:Sp
 | mk (x) (g:mF×Zh) (ps js) (sg:mD (mF×mF×mF)):vs=[.ref x,.str g.1]->Yh T H x ps js sg->Xq ps js sg->(g:mF×mF×mF)∈sg->(∀l rs H',nH H H'->H l=none->rL (qH ps) H' l g.1 rs->rs.length<=4782969->(∀r∈rs,zZ js sg g.2 r)->Q (.ref l) H')->NW vs H Q E
inductive IL(js:List (Zh×Zh))(sg:List (Str×Str×Str))(e:Zh)(ns:S4->Prop)(H:Hp)(x lf lb:Addr)(sig:Str)(p:Nat->Prop):Nat->St->Hp->Prop
 | mk (rs bs o4 o5):nH H H'->rL ns H' lf sig rs->rL ns H' lb sig bs->rs.length+(bs.map wt).sum<=4782969->(∀b∈bs,DX js e b)->(∀r∈rs,zZ js sg e r)->p (bs.map wt).sum->IL js sg e ns H x lf lb sig p (bs.map wt).sum [some (.ref x),some<|.str sig,some<|.ref lf,some<|.ref lb,o4,o5] H'
inductive Mp(nv:S4->Prop)(js:List (Zh×Zh))(sg:List (Str×Str×Str))(e:Zh)(ns:S4->Prop)(H:Hp)(x lf lb ta l6:Addr)(sig:Str)(vs:List Addr)(ws ah:List S4)(m1 m2:Nat):St->Hp->Prop
 | mk (rs bs o5):(bs.map wt).sum<=m1->rs.length+(bs.map wt).sum<=m2->nH H H'->H' l6=some (.lst<|vs.map V.ref)->pZ nv H' vs ws->qV ns H' ta sig ah->rL ns H' lf sig rs->rL ns H' lb sig bs->(∀b∈bs,DX js e b)->(∀r∈rs,zZ js sg e r)->Mp nv js sg e ns H x lf lb ta l6 sig vs ws ah m1 m2 [some (.ref x),some<|.str sig,some<|.ref lf,some<|.ref lb,some<|.ref ta,o5] H'
def VY:T.dJ.O P w mg nI 6 (NW T):=by
 refine T.dJ.F.okW Wu ?_;rfl'
 ·obtain⟨x,⟨sig,e⟩,Y,L,sg,rfl,tr,yv,hg,q⟩:=h;intro X D;refine nR (oj 2 Wu<|Zn Za) #[nV,λlf u s1 n1 e1=>?_];refine nR (oj 3 Wu<|Zn<|Zb (Zi<|Zb (pv 1) Za) Za) #[nV,λt2 u s2 p e2=>#[nV,λd n s3 n3 e3=>?_]];have nfb:lf≠d:=λz=>by rw[z]at e1;rw[s2.at e1]at n3;cases n3
  have nlb:H d=none:=s1.free<|s2.free n3;have C5:=s1.trans<|s2.trans s3;let I20:IC:=λy H'=>(∃o3 o4 o5,y=[some (.ref x),some<|.str sig,some<|.ref lf,o3,o4,o5])/\nH H H'/\∃rs,rL (qH Y) H' lf sig rs/\rs.length<=4782969/\∀r∈rs,zZ L sg e r
  refine qk I20 ?_ ?_
  ·refine qp (TN qo (Hg (pv 3) λ_=>rfl) Zq) #[IL L sg e (qH Y) H x lf d sig λ_=>True,#[_,.mk [] [[]] none none C5 #[[],s3.at<|s2.at e1,.nil] #[[t2],e3,.cons #[[],s3.at e2,.nil] .nil] (by left) (λb hb=>by rw[qG.mp hb];show#[sY _,.nil]) (λ_ z=>nomatch z) trivial],?_];rintro n y H4 ⟨rs,bs,o4,o5,s4,M6,⟨ts,c,i9⟩,hsum,d9,J,_⟩;have G9:=oz i9;refine#[!(ts.map V.ref).isEmpty,.inl #[_,nS c,rfl],?_];refine Z7 (λz=>?_) λz=>#[#[_,_,_,rfl],s4,rs,M6,by lia,J];have z:0<ts.length:=by
    cases ts with
    | nil=>show absurd z (by lk)
    | cons a as=>show Nat.succ_pos _
   obtain⟨j,hta⟩:∃j,ts[ts.length-1]? =some j:=#[_,pJ<|by lia]
   obtain⟨p,hah,ra⟩:=pG i9 hta;obtain⟨g,rfl⟩:=Hr.mp (show ts.getLast? =some j by rw[Bv];show hta);obtain⟨b1,rfl⟩:=Hr.mp (show bs.getLast? =some p by rw[Bv,<-G9];show hah);rw[oy,Gw]at hsum;have hal':=d9 p<|rN _ pK;have hal:=hal'.le;have hlen1:∀b∈b1,DX L e b:=λb hb=>d9 b<|zC _ hb
   obtain⟨B,hB⟩:∃B,B=3 ^ (13-p.length):=#[_,rfl]
   have hB1:1<=B:=by rw[hB];show Nat.one_le_pow _ _ (by lk)
   have hwt:(List.map wt [p]).sum=3 * B:=by
    change wt p+0=_;unfold wt;rw[hB,EA,show 14-p.length=(13-p.length)+1 by lia,Nat.pow_succ,Nat.mul_comm]
   rw[hwt]at hsum;refine#[λu H'=>∃n,IL L sg e (qH Y) H x lf d sig (λn=>n<=(b1.map wt).sum+2 * B) n u H',λu H' ⟨n,h⟩=>?_,?_]
   ·obtain⟨S7,I,u,l,g1,g2,M,g4,g5,g6,g7⟩:=h;show#[_,by rw[oy,Gw,hwt];lia,.mk S7 I u l g1 g2 M g4 g5 g6 trivial]
   refine nR (oj 4 Wu<|Et vX BL Ie WZ<|pv 3) #[.inl #[rfl,_,nS c],d,_,.ref j,rfl,rfl,c,?_,?_]
   ·rw[oy,oP,nQ];change(g.map V.ref++[V.ref j])[g.length+1-1]? =_;rw[Jd,wU (by rw[nQ];show oq _),nQ,Nat.sub_self]
    rfl
   have el:nO H4 d (.lst ((g++[j]).map V.ref).dropLast) d=some (.lst<|g.map V.ref):=by rw[Zc,oy];show pO (λl=>some<|HO.lst l)<|List.dropLast_concat
   have hts':Paired (λt ss=>qV (qH Y) H4 t sig ss) g b1:=by
    have:=DQ g.length i9;rwa[List.take_left,show g.length=b1.length by have:=G9;rw[oP,oP]at this;simpa using this,List.take_left]at this
   have U:=M6.off (o:=.lst ((g++[j]).map V.ref).dropLast) c nfb;have ra5:=ra.off (o:=.lst ((g++[j]).map V.ref).dropLast) c;have N:rL (qH Y) (nO H4 d<|.lst ((g++[j]).map V.ref).dropLast) d sig b1:=#[g,el,oA hts' λ_ _ r=>r.off c]
   have s5:nH H (nO H4 d<|.lst ((g++[j]).map V.ref).dropLast):=s4.upd0 nlb;generalize nO H4 d (.lst ((g++[j]).map V.ref).dropLast)=H5 at U ra5 N s5;refine nU (Y9 qo rfl (Yd<|Zv (MK T) hr<|Zb (pv 0)<|Zb (pv 4) Za) (oY 5 Wu) Zq) #[qH Y,x,j,(sig,e),p,Y,L,sg,rfl,tr.mono s5,yv,hg,ra5,by lia,λl6 l u n6 ⟨vs,ws,h6,C4,M⟩ h12=>#[nS h6,W7 (K:=K) (xs:=vs.map V.ref) (λi=>Mp (λq=>qH Y q/\(ux e p,(q.1,q.2.1))∈qJ L) L sg e (qH Y) H x lf d j l6 sig vs ws p ((b1.map wt).sum+i * B)<|rs.length+(b1.map wt).sum+i * B) (.mk rs b1 o5 (by lia) (by lia) (s5.trans u) h6 C4 (ra5.mono u) (U.mono u) (N.mono u) hlen1 J) ?_ ?_ ?_]]
   ·rintro i y H' _ ⟨_,_,_,_,_,_,h,_⟩;show nS h
   ·rintro i v y H7 hi ⟨S7,I,o5',w1,w2,s7,h7,G,C,hr7,hb7,hl7,ho7⟩;rw[oF]at hi;obtain⟨tq,htq,rfl⟩:=oN.mp hi;obtain⟨qq,_,rq,okq⟩:=G.get htq;have E6:=(pT.mp htq).1;have J5:=C4.len;have hah12:p.length<12:=by
     rcases zL p.length 12 with u|u
     ·show u
     ·have:=h12 u;rw[h6]at this;cases vs with
      | nil=>show absurd E6 (Nat.not_lt_zero _)
      | cons a as=>cases this
    have hwn:wt (p++[qq])=B:=by
     unfold wt;rw[hB,oP];change 3 ^ (14-(p.length+1))=_;rw[show 14-(p.length+1)=13-p.length by lia]
    have nl6:l6≠lf/\l6≠d:=#[λv=>(let⟨_,k,_⟩:=U;nomatch (v ▸ n6).symm.trans k),λv=>(let⟨_,k,_⟩:=N;nomatch (v ▸ n6).symm.trans k)]
    have iB:(i+1) * B=i * B+B:=by rw[Nat.add_mul,Nat.one_mul]
    have sB:i * B<=1 * B:=Nk _ (by lia);have al:DX L e (p++[qq]):=#[by rw[oP];show hah12,hal'.ch.app<|.one okq.2]
    have tup:∀{H8:Hp},nH H7 H8->∀{t8:mG},H8 t8=some (.tup [.ref tq])->∀{Q':VK},(∀t9 H9,nH H8 H9->qV (qH Y) H9 t9 sig (p++[qq])->Q' (.ref t9) H9)->KQ K (.ref j) (.ref t8) H8 Q':=λ{H8} s8 {t8} e8 {Q'} k=>by
     obtain⟨ws,g1,g2⟩:=C.mono s8;have hwl:=g2.len;refine#[j,t8,_,_,rfl,rfl,nX g1,nX e8,by simp,by simp,by rw[qr,nQ,hwl];show sz (by change _+1+1<=_;lia),λt9 H9 l n9 e9=>k t9 H9 l #[ws++[tq],?_,(g2.mono l).snoc ((rq.mono s8).mono l) okq.1]];rw[e9,oy];rfl
    refine nU (Zx (Yw<|Zv (Ju T) hr<|Zb (pv 0)<|Zb (pv 5) Za) Zq Zq) #[x,tq,qq,Y,L,sg,rfl,tr.mono s7,yv,rq,λH8 s8=>Z7 (λzE=>?_) λ_=>?_]
    ·obtain⟨fs,f1,f2⟩:=hr7.mono s8;refine nU (Zt<|rS (pv 2)<|Zr OC (pv 4)<|Zi<|Zb (pv 5) Za) #[.inl #[rfl,_,nS f1],nV,λt8 H9 l n9 e9=>tup (s8.trans l) e9 λt9 T0 y7 r10=>#[(l.trans y7).at f1,?_,?_]]
     ·have P0:=oz f2;rw[nQ,uh,P0];lia
     have M:=s8.trans<|l.trans y7;have fe:=(l.trans y7).at f1;refine .mk (S7++[p++[qq]]) I (some<|.ref tq) (by lia) (by rw[oP];change _+1+_<=_;lia) ((s7.trans M).upd0 n1) ((Zd nl6.1).trans (M.at h7)) ((G.mono M).off fe) ((C.mono M).off fe) (rL.add fe (oA f2 λ_ _ r=>r.mono<|l.trans y7) r10) ((hb7.mono M).off fe nfb.symm) hl7 λr T4=>?_
     rcases pC.mp T4 with v|v
     ·show ho7 r v
     ·rw[qG.mp v];show#[by simp,al.le,al.ch,λq hq=>by rw[Fh]at hq;cases hq;show zE]
    ·obtain⟨fs,f1,f2⟩:=hb7.mono s8;refine nU (Zt<|rS (pv 3)<|Zr OC (pv 4)<|Zi<|Zb (pv 5) Za) #[.inl #[rfl,_,nS f1],nV,λt8 H9 l n9 e9=>tup (s8.trans l) e9 λt9 T0 y7 r10=>#[(l.trans y7).at f1,?_,?_]]
     ·have P0:=oz f2;have:=PR I;rw[nQ,uh,P0];lia
     have M:=s8.trans<|l.trans y7;have fe:=(l.trans y7).at f1;have hsm:((I++[p++[qq]]).map wt).sum=(I.map wt).sum+B:=by rw[oy,Gw];change _+(wt (p++[qq])+0)=_;rw[hwn,EA]
     refine .mk S7 (I++[p++[qq]]) (some<|.ref tq) (by lia) (by lia) ((s7.trans M).upd0 nlb) ((Zd nl6.2).trans (M.at h7)) ((G.mono M).off fe) ((C.mono M).off fe) ((hr7.mono M).off fe nfb) (rL.add fe (oA f2 λ_ _ r=>r.mono<|l.trans y7) r10) (λb hb=>?_) ho7;rcases pC.mp hb with v|v
     ·show hl7 b v
     ·rw[qG.mp v];show al
   ·rintro y H7 ⟨S7,I,o5',w1,w2,s7,h7,G,C,hr7,hb7,hl7,ho7⟩;have J5:=C4.len;rw[nQ]at w1 w2;have sB:vs.length * B<=2 * B:=Nk _ (by lia);show#[_,.mk S7 I _ _ s7 hr7 hb7 (by lia) hl7 ho7<|by lia]
  rintro y H4 ⟨⟨o3,o4,o5,rfl⟩,s4,rs,⟨ts,h1,h2⟩,N7,J⟩;refine nU (Zl<|Z5 (r:=Rb K) (US hr.units) (by rfl) T.cQ yn<|Zb (pv 2) Za) #[lf,ts,rfl,nS h1,λt ht=>?_,λD9 K8 l5 H5 s5 n5 e5=>?_]
  ·obtain⟨i,hi⟩:=BA ht;obtain⟨ss,_,g,n,l⟩:=pG h2 hi;refine#[sig,g,n,λu c=>?_];obtain⟨j,a⟩:=BA c;obtain⟨p,_,U,_⟩:=l.get a;show#[[p.1,p.2.1,p.2.2.1,p.2.2.2],U]
  ·obtain⟨S7,u,p⟩:=GV K8 h2;show q l5 S7 H5 (s4.trans s5) (s4.free n5) #[D9,e5,oA p λ_ _ r=>r.mono s5] (by rw[u.length_eq];show N7) λr T4=>J r<|u.mem_iff.mp T4
inductive Rj:Sp
 | mk (ns x a) (g:mF×Zh) (qs ps js) (sg:mD (mF×mF×mF)):vs=[.ref x,.ref a]->Yh T H x ps js sg->Xq ps js sg->(g:mF×mF×mF)∈sg->qV ns H a g.1 qs->qs≠[]->qs.length<=12->(∀b H',nH H H'->Q (.bl b) H')->Rj vs H Q E
def qK.im(h:qK H t q):Im K H 1 (xT q) (.ref t):=wp (n:=0) (nX h)<|.cons (.str _)<|.cons (.str _)<|.cons (.str _)<|.cons (.str _) .nil
def pZ.im(h:pZ y H us qs):Paired (Im K H 1) (qs.map xT) (us.map V.ref):=let⟨h,_⟩:=h;Wn.im h
def Zt0:T.ft.O P w mg nI 6 (Rj T):=by
 refine T.ft.F.okW PH ?_;rfl'
 ·obtain⟨ns,x,a,⟨sig,e⟩,qs,B,js,sg,rfl,L,J,hg,⟨d,c,g9⟩,q0,l,q⟩:=h;intro X D;obtain⟨l,_,_,_,_,_,_,_,_,hx,_⟩:=L.ex;have c:H a=some (.tup<|V.str sig ::d.map V.ref):=c;have D1:=g9.len;have d9:(V.str sig ::d.map V.ref).length=qs.length+1:=by rw[qr,nQ,D1]
  refine nR (Zx (rc<|uA (Xs<|Yw<|xg "tuple" T.aj T.ix Qc<|pv 1)<|uP<|Yg yx (qt T.aY<|pv 1) Ze<|Yv _) Zq Zk) #[Xw.tup c,.inl<|qC rfl T.kq,(.inl #[.inr<|nX c,Z7 (λ_=>nU (Zl rK)<|q _ _<|qu _) λ_=>?_])];refine nR (Zx (wA hr (oi (pv 1) Ze)<|qh ["signal"] (pF 1 [] rfl) (Yd<|Yf (pv 0) T.af T.cU (RD T) hr.m T.bo.b .nil Z4) (pc 0) X8 (W2 (K:=K) rfl (pv 0) Ze)) Zq Zk)<|.inr<|.inl #[nX c,Zm (j:=0) rfl,hx,rfl,x,B,js,sg,rfl,L,J,λl ts sg' H1 s1 n1 e1 r1 p1=>#[nS e1,λD hD=>Yp (K:=K) (xs:=ts.map V.ref) (λi M U=>M=((sg'.take i).map fst).map V.str/\U D=some (.lst M)/\nH H1 U) #[rfl,Zc,pP hD] ?_ ?_ ?_]]
  ·rintro i M U _ ⟨_,_,sm⟩;show nS<|sm.at e1
  ·rintro i v M H2 I ⟨rfl,y8,G⟩;rw[oF]at I;obtain⟨tg,l,rfl⟩:=oN.mp I;obtain⟨gg,hgg,rg⟩:=pG r1 l;have M8:=J.sigs.len;have w5:=p1.length_eq;refine#[pE rfl,.inr<|.inl #[nX<|G.at rg,Zm (j:=0) rfl,y8,by rw[nQ,nQ,oZ];show Zo (by lia),?_,Zc,λb o u=>?_]]
   ·rw[oW,hgg,oy,oy];rfl
   ·rw[Zd (Zf u hD)];show G.at u
  rintro M H2 ⟨rfl,y8,G⟩;have A8:=s1.trans G;refine .inl #[.inl<|nS y8,rfl,Wa _,Z7 (λ_=>nU (Zl rK)<|q _ _ A8) λ_=>?_];refine nR (Y9 qo rfl (Fy rfl T.eZ<|Zb Ze<|Zb (qt T.aY<|pv 1) Za) (oY 2 PH) Zq)<|.inl #[.inr<|nX<|A8.at c,1,_,rfl,#[by lk,by lk,by lia,by lia],?_];rw[show(((V.str sig ::d.map V.ref).length:Int)-1).toNat=d.length by rw[d9,D1];lia];let I21:IF:=λi y U=>(∃o,y=[some (.ref x),some<|.ref a,o])/\nH H U
  refine HG (n:=d.length) I21 #[#[none,rfl],A8] ?_ λy U ⟨⟨o,e⟩,sm⟩=>by
   subst e;show nU (Zl rK)<|q _ _ sm
  rintro i y H3 I ⟨⟨o,rfl⟩,N⟩;obtain⟨r,hu⟩:∃r,d[i]? =some r:=#[_,pJ I]
  obtain⟨p,l,hq,okq⟩:=g9.get hu;have Y:(1+(i:Nat):Int)=((i+1:Nat):Int):=by lia
  have av:pz (V.str sig ::d.map V.ref) (1+(i:Nat):Int)=some (.ref r):=by
   rw[Y];refine Zm ?_;change(d.map V.ref)[i]? =_;rw[oF,hu];rfl
  refine nR (Zx (wA hr (oi (pv 1)<|pv 2)<|Zv (MK T) hr<|Zb (pv 0)<|Zb (Xk (r:=su K) sE (pv 1) Wf<|X1<|pv 2) Za) Zq Zk)<|.inr<|.inl #[nX<|N.at c,av,.inl #[nX<|N.at c,?_,λl H4 C n4 e4=>#[ns,x,l,(sig,e),qs.take i,B,js,sg,rfl,L.mono<|N.trans C,J,hg,#[d.take i,?_,?_],?_,λl5 H5 s5 n5 ⟨vs,ws,e5,r5,T5⟩ _=>.inr<|.inr #[l5,1,xT p,ws.map xT,vs,rfl,nS e5,by lk,qK.im<|hq.mono<|N.trans<|C.trans s5,r5.im,?_]]]]
  ·rintro⟨_,u⟩;rw[Y,HT.sIx_nat]at u;have u:min (i+1) (V.str sig ::d.map V.ref).length=(V.str sig ::d.map V.ref).length:=u;rw[d9]at u;lia
  ·rw[Y,BV]at e4;rw[e4,vU];rfl
  ·obtain⟨h,o⟩:=g9.mono<|N.trans C;show#[DQ i h,λl hp=>o l<|AQ hp]
  ·rw[oZ];lia
  have g:=N.trans<|C.trans s5;refine Z7 (λ_=>nU (Zl rK)<|q _ _ g) λ_=>?_;refine nU (Zx (Yw<|Zv (Ju T) hr<|Zb (pv 0)<|Zb (oi (pv 1)<|pv 2) Za) Zq Zk)<|.inr<|.inl #[nX<|g.at c,av,x,r,p,B,js,sg,rfl,L.mono g,J,hq.mono g,λH6 s6=>Z7 (λ_=>?_) λ_=>#[#[_,rfl],g.trans s6]];show nU (Zl<|xG hr (pv 2)<|Zr wl (qt T.aY<|pv 1) Ze)<|.inl #[.inr<|nX<|(g.trans s6).at c,.inl #[rfl,q _ H6<|g.trans s6]]
def Fa(x:V)(xs:mD V):rf (x ::xs) (some 1) none=xs:=by
 rw[show(1:Int)=((1:Nat):Int)from rfl,yP]
 rfl
def HE(x:V)(xs:mD V):¬(HT.sIx (x ::xs).length 0 (some 1)=0/\HT.sIx (x ::xs).length (x ::xs).length none=(x ::xs).length):=by
 rintro⟨h,_⟩;rw[show(1:Int)=((1:Nat):Int)from rfl,HT.sIx_nat]at h;rw[qr]at h;lia
def Vh{y:Type}{es:mD (mF×y)}{x:mF}{v:y}(h:(es.map fst).Nodup):((pX es x v).map fst).Nodup:=by
 rw[Ba]
 by_cases z:x∈es.map fst
 ·rw[og z];show h
 ·rw[nY z,rO];show#[h,by simp,λa s b r=>by rw[qG]at r;rw[r];intro u;rw[u]at s;show z s]
def Yac{y:Type}(es:mD (mF×y))(x:mF)(v:y):(pX es x v).length<=es.length+1:=by
 unfold pX
 by_cases z:x∈es.map fst
 ·rw[og z,nQ];lia
 ·rw[nY z,oP];simp
def Mn{y:Type}(es:mD (mF×y))(x:mF)(v:y):(x,v)∈pX es x v:=by
 unfold pX
 by_cases z:x∈es.map fst
 ·rw[og z];obtain⟨q,u,h⟩:=oh.mp z;show oh.mpr #[q,u,by rw[og h]]
 ·rw[nY z];simp
def Ic{y:Type}{es:mD (mF×y)}{x s:mF}{u v:y}(h:s≠x)(r:(s,u)∈es):(s,u)∈pX es x v:=by
 unfold pX
 by_cases z:x∈es.map fst
 ·rw[og z];show oh.mpr #[(s,u),r,by rw[nY h]]
 ·rw[nY z];show zC _ r
def sP(y:mD (mF×mF)):mD Yi->mD (mF×mF)
 | []=>y
 | s ::x=>sP (if s.2.2.2 ="" then y else pX y s.1 s.2.2.2) x
def DV{y:Type}{P:mF×y->Prop}{es:mD (mF×y)}{x:mF}{v:y}(h:∀p∈es,P p)(k:P (x,v)):∀p∈pX es x v,P p:=λp u=>by
 unfold pX at u;split at u
 ·obtain⟨q,s,rfl⟩:=oh.mp u;split
  ·show k
  ·show h q s
 ·rcases pC.mp u with z|z
  ·show h p z
  ·rw[qG.mp z];show k
theorem KR{P:mF×mF->Prop}:∀{ss:mD Yi}{y:mD (mF×mF)},(∀p∈y,P p)->(∀s∈ss,P (s.1,s.2.2.2))->∀p∈sP y ss,P p
 | [],_,h,_=>h
 | s ::ss,y,h,k=>by
  change ∀p∈sP (if s.2.2.2 ="" then y else pX y s.1 s.2.2.2) ss,P p;refine KR ?_ λq x=>k q<|pV _ x
  split
  ·show h
  ·show DV h<|k s pK
theorem BR:∀{l m:mD mF},l.Nodup->(∀x∈l,x∈m)->l.length<=m.length
 | [],_,_,_=>sY _
 | a ::l,m,y,h=>by
  rw[qU]at y;have u:=h a pK;have:=BR (m:=m.erase a) y.2 λx s=>(List.mem_erase_of_ne (λz:x=a=>y.1<|z ▸ s)).mpr (h x<|pV _ s)
  rw[List.length_erase_of_mem u]at this;have:=List.length_pos_of_mem u;rw[qr];lia
def yy.mono{H y:Hp}{v:V}{a:mJ (mF×mF)}(e:nH H y)(h:yy H v a):yy y v a:=by
 cases a with
 | none=>show h
 | some z=>obtain⟨p,x,u⟩:=h;show#[p,x,e.at u]
def wG(g:Gd)(x:mF):mJ (mF×mF):=if(g.stiff.lookup x).getD false=true then some (("stiff":mF),x)else none
def yG(H:Hp)(f:mG)(x:mF):Prop:=∃c,Clo H T.bg f (~~~"rule_stiff") (AA<|pR Yx) (Bm<|pR Yx) (vV<|pR Yx) [("part",c)]/\CellAt H c (.str x)
def yG.mono{T:Tx K mg}{H y:Hp}{f:mG}{x:mF}(e:nH H y)(h:yG T H f x):yG T y f x:=let⟨c,u,s⟩:=h;#[c,u.mono e,s.mono e]
def RL:T.cW.O P w mg nI 1 (DR T<|yG T):=by
 refine T.cW.F.okM T.dQ Tn (λy H Q E h=>?_) λu A r s H y Q E q h=>?_
 ·obtain⟨x,rfl,_⟩:=h
  rfl
 ·obtain⟨x,rfl,u,q⟩:=h;show vz.last #[rfl,u.rule_stiff,_,rfl,λs r p o n l=>q s r p o #[_,n,(l 0 "part" (.str x) _ rfl rfl rfl rfl).2]]
def MA{H:Hp}{f j dl i Y U:mG}{x:mF}{es:mD (mF×mG)}{g:Gd}(R:yG T H f x)(G:tF T H j es g dl i Y U):vo P w K mg nI 4 H f j (wG g x):=by
 intro N h;obtain⟨c,d,M⟩:=R.mono h;have L:sL N (vV<|pR Yx) [("part",c)] ["part"] [.str x]:=#[.cons #[rfl,c,rfl,M] .nil,by simp,by simp,by simp]
 refine#[d.fn,λQ q=>?_];refine EU (g :="ground") d L (λ_ _ _ _=>rfl) rfl (by lk) (by left) (by left) rfl rfl rfl λD A C s J=>?_
 have y:=(G.mono h).soft λb o e n=>L.soft e n
 obtain⟨p,I⟩:=y.at_;refine tz (W5 (Yw<|Bc (Xb J) (Z2 (pv 0) rfl) (pv 1) rK #[rfl,rfl,rfl,rfl]) (Zi<|Zb Zg<|Zb (pv 1) Za) vS) #[I,T.dB,T.cO,rfl,i,rfl,.inl #[_,.inl y.four.stiff],_,rn (k:=Sum.inr x) y.four.stiff,?_];rw[yA];have e:(Option.map V.bl<|g.stiff.lookup x).getD (V.bl false)=V.bl ((g.stiff.lookup x).getD false):=by cases g.stiff.lookup x<;>rfl
 rw[e];refine(Z7 (λu=>?_) λu=>?_)
 ·refine#[nV,λp B Q n3 E=>#[Q,λr a l=>q _ r l ?_]];unfold wG;rw[og u];show#[p,rfl,a.at E]
 ·refine#[qu _,λr a l=>q _ r l ?_];unfold wG;rw[nY u];show rfl
def zD(H y:Hp):Prop:=∀b o,H b=some o->(∀x,o≠.lst x)->y b=some o
def _root_.L2.nH.fix(e:nH H y):zD H y:=λb _ h _=>e b _ h
def _root_.L2.Clo.fix(e:zD H x)(h:Clo H Pt u q s r p y):Clo x Pt u q s r p y:=by
 obtain⟨o,n,c,l,j,i,g,d,a,Y,U,Q,N⟩:=h;show#[o,n,c,l,j,i,g,e _ _ d (λ_ z=>nomatch z),e _ _ a (λ_ z=>nomatch z),Y,U,e _ _ Q (λ_ z=>nomatch z),N]
def _root_.L2.CellAt.fix(e:zD H y)(h:CellAt H c v):CellAt y c v:=by
 obtain⟨o,u,x,s⟩:=h;show#[o,u,e _ _ x (λ_ z=>nomatch z),s]
def UZ(H:Hp)(f:mG)(x:mF)(c:mG):Prop:=Clo H T.bg f (~~~"rule_stiff") (AA<|pR Yx) (Bm<|pR Yx) (vV<|pR Yx) [("part",c)]/\CellAt H c (.str x)
def Hh(H:Hp)(f:mG)(x l:mF):Prop:=∃(y u s fs r:mG),Clo H T.bO f (~~~"rule_lies") (AA<|pR Xv) (Bm<|pR Xv) (vV<|pR Xv) [("stiff",s),("part",y),("lie",u)]/\
 CellAt H y (.str x)/\CellAt H u (.str l)/\CellAt H s (.ref fs)/\[s,y,u].Nodup/\UZ T H fs x r/\r∉[s,y,u]
inductive Rl where|held (x:Str)|taken (x:Str)|lies (x l:Str)
def vW(H:Hp)(f:mG):Rl->Prop
 | .held x=>Aa T H f x
 | .taken x=>zJ T H f x
 | .lies x l=>Hh T H f x l
def vW.fix{T:Tx K mg}{H s:Hp}{f:mG}{r:Rl}(e:zD H s)(h:vW T H f r):vW T s f r:=by
 cases r with
 | held x=>obtain⟨c,y,u⟩:=h;show#[c,y.fix e,u.fix e]
 | taken x=>obtain⟨c,y,u⟩:=h;show#[c,y.fix e,u.fix e]
 | lies x l=>obtain⟨q,p,o,fs,n,y,u,j,i,g,⟨d,a⟩,Y⟩:=h;show#[q,p,o,fs,n,y.fix e,u.fix e,j.fix e,i.fix e,g,#[d.fix e,a.fix e],Y]
def Tb(n:Nat):[n+1+1+1,n+1,n+1+1].Nodup:=by
 rw[qU,qU];refine#[?_,?_,by simp]<;>simp only[oM,vO,rC,tV]<;>lia
def Yi3:Sp:=λu H Q _=>∃x l:mF,u=[.str x,.str l]/\sv T H/\∀f y,nH H y->H f=none->Hh T y f x l->Q (.ref f) y
def ZL:T.du.O P w mg nI 2 (Yi3 T):=by
 refine T.du.F.okM T.eF Rm (λd H Q E h=>?_) λy A u s H d Q E c h=>?_
 ·obtain⟨x,l,rfl,_⟩:=h
  rfl
 ·obtain⟨x,l,rfl,i,q⟩:=h;refine vz.step (λy r=>∃f,y=[some (.str x),some<|.str l,some<|.ref f]/\nH H r/\yG T r f x) (qp (oj 2 Rm<|Zv (RL T) c<|Zb (pv 0) Za) #[x,rfl,i,λf a s g u=>#[f,rfl,s,u]]) ?_;rintro y a ⟨f,rfl,s,Y,U,e⟩;refine vz.last #[rfl,(i.mono s).rule_lies,_,rfl,λu r p o N n=>q u r (s.trans p) (s.free o) ?_];obtain⟨g,M⟩:=n 0 "part" (.str x) _ rfl rfl rfl rfl;obtain⟨L,J⟩:=n 1 "lie" (.str l) _ rfl rfl rfl rfl;obtain⟨I,G⟩:=n 2 "stiff" (.ref f) _ rfl rfl rfl rfl;obtain⟨o,u,j,_⟩:=id e;have D:=Zf j g;have C:=Zf j L;have B:=Zf j I;refine#[_,_,_,f,Y,N,M,J,G,?_,#[U.mono p,CellAt.mono p e],?_]
  ·show Tb _
  ·simp only[oM,vO,rC,Af,tV];show#[B,D,C]
def xl(g:Gd)(x l:mF):mJ (mF×mF):=if(g.lies.lookup x).getD ""=l then none else wG g x
def Ts{H:Hp}{f gr dl ds dp dt:mG}{x l:mF}{es:mD (mF×mG)}{g:Gd}(R:Hh T H f x l)(G:tF T H gr es g dl ds dp dt):vo P w K mg nI 5 H f gr (xl g x l):=by
 intro E i;obtain⟨d,a,Y,fs,c',U,N,M,J,nd,⟨D,C⟩,B⟩:=R
 replace U:=U.mono i
 replace N:=N.mono i
 replace M:=M.mono i
 replace J:=J.mono i
 replace D:=D.mono i
 replace C:=C.mono i
 have L:sL E (vV<|pR Xv) [("stiff",Y),("part",d),("lie",a)] ["lie","stiff","part"] [.str l,.ref fs,.str x]:=#[.cons #[rfl,a,rfl,M]<|.cons #[rfl,Y,rfl,J]<|.cons #[rfl,d,rfl,N] .nil,by simp,by change(["stiff","part","lie"]:mD mF).Nodup;decide,nd]
 have isC:∀b∈[Y,d,a],∃o u,E b=some (Fz o)/\o.data=.cell (some u):=by
  intro b hb;simp only[oM,vO,rC,tV]at hb;rcases hb with rfl|rfl|rfl
  ·obtain⟨o,u,r,p,_⟩:=J;show#[o,u,r,p]
  ·obtain⟨o,u,r,p,_⟩:=N;show#[o,u,r,p]
  ·obtain⟨o,u,r,p,_⟩:=M;show#[o,u,r,p]
 refine#[U.fn,λQ q=>?_];refine EU (g :="ground") U L (λ_ _ _ _=>rfl) rfl (by lk) (by left) (by left) rfl rfl rfl λc8 A nG s hr=>?_
 have I:=(G.mono i).soft λb o e n=>L.soft e n
 have RS:yG T (offL E [("stiff",Y),("part",d),("lie",a)]) fs x:=by
  refine#[c',?_,?_]
  ·obtain⟨pm,B6,c,oc,vs,tt,Pn,r,p,z3,z4,z5,z6⟩:=D;refine#[pm,B6,c,oc,vs,tt,Pn,?_,?_,z3,z4,?_,z6]
   ·rw[uL]
    ·show r
    ·intro y;obtain⟨o,u,j,Q⟩:=isC _ y;rw[r]at j;cases j;cases Q
   ·rw[uL]
    ·show p
    ·intro y;obtain⟨o,u,j,Q⟩:=isC _ y;rw[p]at j;cases j
   ·rw[uL]
    ·show z5
    ·intro y;obtain⟨o,u,j,Q⟩:=isC _ y;rw[z5]at j;cases j
  ·obtain⟨o,u,r,p⟩:=C;show#[o,u,by rw[uL B];show r,p]
 have AS:=MA (P:=P) (w:=w) (nI:=nI) T RS I;obtain⟨y,hg⟩:=I.at_;refine tz (W5 (pY hr (Bc (Xb hr) (Z2 (pv 0) rfl) (pv 3) Zg #[rfl,rfl,rfl,rfl])<|pv 1) vS<|KF (k:=4) hr (pv 2)<|Zb (pv 0) Za) #[hg,T.dB,T.dC,rfl,dl,rfl,.inl #[_,.inl I.four.lies],_,rn (k:=Sum.inr x) I.four.lies,?_];rw[yA];have e:(Option.map V.str<|g.lies.lookup x).getD (V.str "")=V.str ((g.lies.lookup x).getD ""):=by cases g.lies.lookup x<;>rfl
 rw[e];refine(.inl #[rfl,Z7 (λh=>?_) λh=>?_])
 ·have h:(g.lies.lookup x).getD ""=l:=by simpa using h
  refine#[qu _,λH4 s4 s5=>q _ H4 s5 ?_];unfold xl;rw[og h];show rfl
 ·have h:¬(g.lies.lookup x).getD ""=l:=by simpa using h
  obtain⟨y,run⟩:=AS _<|qu _;refine#[fs,rfl,y,y,run _ λv Q j c=>#[j,λH4 s4 s5=>q _ H4 s5 ?_]];unfold xl;rw[nY h];show c.mono s4
def sN:mD Yi->mD Rl
 | []=>[]
 | s ::y=>(if s.2.2.2 ="" then[.held s.1,.taken s.1]else[.held s.1,.taken s.1,.lies s.1 s.2.2.2])++sN y
theorem Mv:∀(ss:mD Yi)(s:Yi),sN (ss++[s])=sN ss++(if s.2.2.2 ="" then[.held s.1,.taken s.1]else[.held s.1,.taken s.1,.lies s.1 s.2.2.2])
 | [],s=>by change _++[]=[]++_;rw[qM,IN]
 | r ::ss,s=>by
  change _++sN (ss++[s])=(_++sN ss)++_;rw[Mv ss s,qg]
theorem OJ:∀ss:mD Yi,(sN ss).length<=3 * ss.length
 | []=>oq _
 | s ::ss=>by
  have:=OJ ss;change(_++sN ss).length<=_;rw[oP,qr];split<;>simp<;>lia
def Fd(y:mD mF)(g:Gd):Rl->mJ (mF×mF)
 | .held x=>vF y g x
 | .taken x=>xD g x
 | .lies x l=>xl g x l
def VM{H:Hp}{f y dl u s q:mG}{r:Rl}{es:mD (mF×mG)}{g:Gd}(R:vW T H f r)(G:tF T H y es g dl u s q):vo P w K mg nI 5 H f y (Fd (es.map fst) g r):=by
 cases r with
 | held x=>show(Jv T R G).up (by lk)
 | taken x=>show(HQ T R G).up (by lk)
 | lies x l=>show Ts T R G
def uE(H:Hp)(fs:mD mG)(y:mD Rl):Prop:=Paired (λf r=>vW T H f r) fs y
def uE.fix{T:Tx K mg}{H y:Hp}{fs:mD mG}{x:mD Rl}(e:zD H y)(h:uE T H fs x):uE T y fs x:=oA h λ_ _ r=>r.fix e
def uE.ans{T:Tx K mg}{H:Hp}{fs:mD mG}{y:mD Rl}{x dl u s q:mG}{es:mD (mF×mG)}{g:Gd}(h:uE T H fs y)(G:tF T H x es g dl u s q):Paired (λf a=>vo P w K mg nI 5 H f x a) fs (y.map<|Fd (es.map fst) g):=by
 unfold uE at h
 induction h with
 | nil=>show .nil
 | cons r _ p=>show .cons (VM T r G) p
inductive Qo:Sp
 | mk (r) (ns:S4->Prop) (sig:mF) (ss:mD S4):vs=[.ref r]->sv T H->qV ns H r sig ss->ss.length<=100->(∀(l:mG)(fs:mD mG)(H':Hp),nH H H'->H l=none->H' l=some (.lst<|fs.map V.ref)->uE T H' fs (sN ss)->Q (.ref l) H')->Qo vs H Q E
def Zsp:T.fw.O P w mg nI 3 (Qo T):=by
 refine T.fw.F.okW HM ?_;rfl'
 ·obtain⟨r,ns,x,j,rfl,ht,⟨d,T4,A4⟩,u,q⟩:=h;intro X D;refine nR (oj 1 HM<|Zn Za) #[nV,λl x s1 n1 e1=>?_];refine nR (Y9 qo rfl (AG<|Xk (r:=su K) sE (pv 0) (X1 Ze) Wf) (oY 2 HM) Zq)<|.inl #[nX<|s1.at T4,HE _ _,λp x s2 n2 e2=>?_];rw[Fa]at e2;have L:=A4.mono<|s1.trans s2;have G9:d.length=j.length:=A4.len;have npl:p≠l:=λz=>by rw[z,e1]at n2;cases n2
  let I22:IF:=λi y M=>(∃o2,y=[some (.ref r),some<|.ref l,o2])/\nH H M/\M p=some (.tup<|d.map V.ref)/\pZ ns M d j/\∃fs,M l=some (.lst<|fs.map V.ref)/\uE T M fs (sN<|j.take i)
  refine#[nX e2,RQ (xs:=d.map V.ref) I22 #[#[none,rfl],s1.trans s2,e2,L,[],s2.at e1,.nil] ?_ ?_ ?_]
  ·rintro i y M _ ⟨_,_,e,_⟩;show nX e
  ·rintro i v y H3 hi ⟨⟨o2,rfl⟩,s3,e3,c,fs,J,I⟩;rw[oF]at hi;obtain⟨t,S8,rfl⟩:=oN.mp hi;obtain⟨st,hs,rt,_⟩:=c.get S8;have E6:i<j.length:=(pT.mp hs).1;have P0:fs.length<=300:=by
    have h1:=OJ<|j.take i;have h2:=oz I;rw[oZ]at h1;lia
   have tk:sN (j.take<|i+1)=sN (j.take i)++(if st.2.2.2 ="" then[.held st.1,.taken st.1]else[.held st.1,.taken st.1,.lies st.1 st.2.2.2]):=by rw[oW,hs];show Mv _ _
   have put:∀{U g:Hp}{f:mG}{e:mD mG}{rs:mD Rl}{r':Rl},nH H U->U p=some (.tup<|d.map V.ref)->pZ ns U d j->U l=some (.lst<|e.map V.ref)->uE T U e rs->nH U g->vW T g f r'->
     nH H (nO g l<|.lst<|e.map V.ref++[.ref f])/\nO g l (.lst<|e.map V.ref++[.ref f]) p=some (.tup<|d.map V.ref)/\pZ ns (nO g l<|.lst<|e.map V.ref++[.ref f]) d j/\nO g l (.lst<|e.map V.ref++[.ref f]) l=some (.lst<|(e++[f]).map V.ref)/\uE T (nO g l<|.lst<|e.map V.ref++[.ref f]) (e++[f]) (rs++[r']):=by
    intro U g f e rs r' G a2 C a a5 u B;have nt:∀xs,g l≠some (.tup xs):=λxs z=>by rw[u.at a]at z;cases z
    have fx:zD g (nO g l<|.lst<|e.map V.ref++[.ref f]):=λb o z n=>(Zd λx=>by rw[x,u.at a]at z;cases z;show n _ rfl).trans z
    refine#[λb o z=>?_,?_,(C.mono u).off (u.at a),by rw[Zc,oy];rfl,qc (uE.fix fx<|a5.fix u.fix)<|.cons (B.fix fx) .nil]
    ·rw[Zd (Zf z n1)];show u.at<|G.at z
    ·rw[Zd npl];show u.at a2
   refine nR (Zt<|rS (pv 1)<|Zv (Hx T) hr<|Zb (oi (pv 2) Ze) Za) #[.inl #[rfl,_,nS J],.inr<|.inl #[nX rt,rfl,st.1,rfl,ht.mono s3,λf1 H4 s4 x r4=>#[s4.at J,by rw[nQ];show Zo (by lia),?_]]];obtain⟨G,a2,C,a,a5⟩:=put s3 e3 c J I s4 (show vW T H4 f1 (.held st.1)from r4);have t5:sv T (nO H4 l<|.lst<|fs.map V.ref++[.ref f1]):=ht.mono G;generalize nO H4 l (.lst<|fs.map V.ref++[.ref f1])=H5 at G a2 C a a5 t5;obtain⟨C7,F7,rt5,_⟩:=C.get S8;rw[hs]at F7;cases F7;refine nR (Zt<|rS (pv 1)<|Zv (Gi T) hr<|Zb (oi (pv 2) Ze) Za) #[.inl #[rfl,_,nS a],.inr<|.inl #[nX rt5,rfl,st.1,rfl,t5,λf2 H6 s6 x r6=>#[s6.at a,by rw[nQ];show Zo (by rw[oP];simp;lia),?_]]];obtain⟨u,B,b3,b4,b5⟩:=put G a2 C a a5 s6 (show vW T H6 f2 (.taken st.1)from r6);have t7:sv T (nO H6 l<|.lst<|(fs++[f1]).map V.ref++[.ref f2]):=ht.mono u;generalize nO H6 l (.lst<|(fs++[f1]).map V.ref++[.ref f2])=H7 at u B b3 b4 b5 t7;obtain⟨C7,F7,N,_⟩:=b3.get S8;rw[hs]at F7;cases F7;rw[qg (sN<|j.take i)]at b5;refine nU (Zx (rV hr (oi (pv 2) Ze) Zg) Zq Zk)<|.inr<|.inl #[nX N,rfl,.inl #[rfl,Z7 (λY=>?_) λY=>?_]]
   ·have Y:st.2.2.2≠ "":=λz=>by rw[z]at Y;simp at Y
    refine nU (Zt<|rS (pv 1)<|Zv (ZL T) hr<|Zb (oi (pv 2) Ze)<|Zb (oi (pv 2) Ze) Za) #[.inl #[rfl,_,nS b4],.inr<|.inl #[nX N,rfl,.inr<|.inl #[nX N,rfl,st.1,st.2.2.2,rfl,t7,λf3 H8 x n8 r8=>#[x.at b4,by rw[nQ];show Zo (by rw[oP,oP];simp;lia),?_]]]];obtain⟨c1,c2,c3,c4,c5⟩:=put u B b3 b4 b5 x (show vW T H8 f3 (.lies st.1 st.2.2.2)from r8);refine#[#[_,rfl],c1,c2,c3,_,c4,?_];rw[tk,nY Y];rw[qg (sN<|j.take i)]at c5;show c5
   ·have Y:st.2.2.2 ="":=Az λz=>Y (by simp[z])
    refine#[#[_,rfl],u,B,b3,_,b4,?_];rw[tk,og Y];show b5
  ·rintro y H3 ⟨⟨o2,rfl⟩,s3,_,_,fs,J,I⟩;rw[nQ,G9,pQ]at I;show nU (Zl<|pv 1)<|q l fs H3 s3 n1 J I
def tH(ss:mD Yi):mD (mF×mF):=(ss.filter λs:Yi=>decide<|s.2.2.2≠("":mF)).map λs=>(s.1,s.2.2.2)
def JD(ss:mD Yi):(tH ss).length<=ss.length:=by unfold tH;rw[nQ];show yI ..
def Ah(H:Hp)(tps:mD mG)(y:mD (mF×mF)):Prop:=Paired (λt (q:mF×mF)=>H t=some (.tup [.str q.1,.str q.2])) tps y
def Ah.mono{H y:Hp}{tps:mD mG}{x:mD (mF×mF)}(e:nH H y)(h:Ah H tps x):Ah y tps x:=oA h λ_ _ r=>e.at r
inductive JN:Sp
 | mk (r) (ns:S4->Prop) (sig:mF) (ss:mD S4):vs=[.ref r]->qV ns H r sig ss->ss.length<=100->(∀(l:mG)(tps:mD mG)(H':Hp),nH H H'->H l=none->H' l=some (.lst<|tps.map V.ref)->Ah H' tps (tH ss)->Q (.ref l) H')->JN vs H Q E
def Va:T.gj.O P w mg nI 1 JN:=by
 refine T.gj.F.okA ?_;rfl'
 ·obtain⟨r,y,x,d,rfl,⟨J,B,I⟩,p,q⟩:=h;intro X D;refine nU (Zl<|qh ["step"] (pF 1 [] rfl) (AG<|Xk (r:=su K) sE (pv 0) (X1 Ze) Wf) (pc 0) (sO<|Yg (r:=uY K) (wm hr) (W2 (K:=K) rfl (pv 0) Ze) Zg<|Yv _) (Zi<|Zb (W2 (K:=K) rfl (pv 0) Ze)<|Zb (W2 (K:=K) rfl (pv 0) Ze) Za))<|.inl #[nX B,HE _ _,λp H1 a y Y=>#[nX Y,λD U=>?_]];rw[Fa]at Y;have R9:=I.mono a;have G9:J.length=d.length:=I.len;refine GK (xs:=J.map V.ref) (λi n g=>(∃u,n=u.map V.ref/\Ah g u (tH<|d.take i))/\g D=some (.lst n)/\nH H1 g) #[#[[],rfl,.nil],Zc,pP U] ?_ ?_ ?_
  ·rintro i n g _ ⟨_,_,l⟩;show nX<|l.at Y
  ·rintro k v n g G ⟨⟨u,rfl,j⟩,N,l⟩;rw[oF]at G;obtain⟨t,ht,rfl⟩:=oN.mp G;obtain⟨st,C,M,_⟩:=R9.get ht;have d9:u.length<=100:=by
    rw[oz j];have:=JD<|d.take k;rw[oZ]at this;lia
   refine#[pE rfl,.inr<|.inl #[nX<|l.at M,rfl,.inl #[rfl,Z7 (λr=>?_) λr=>?_]]]
   ·have r:st.2.2.2≠ "":=λz=>by rw[z]at r;simp at r
    refine(.inr<|.inl #[nX<|l.at M,rfl,.inr<|.inl #[nX<|l.at M,rfl,nV,λx L p y e2=>#[p.at N,by rw[nQ];show Zo (by lia),#[u++[x],by rw[oy];rfl,?_],Zc,λb o e=>?_]]])
    ·have x:∀n,L D≠some (.tup n):=λn z=>by rw[p.at N]at z;cases z
     have off:∀{c:mG}{n:mD V}{o:HO},L c=some (.tup n)->nO L D o c=some (.tup n):=λ{c n o} z=>by rw[Zd (show c≠D from λy=>x n (by rw[<-y];show z))];show z
     rw[oW,C];unfold tH;rw[vw,oy,show(some st).toList=[st]from rfl,tJ,og<|oO r];show qc (oA (j.mono p) λ_ _ z=>off z)<|.cons (off e2) .nil
    ·rw[Zd (Zf e U)];show p.at<|l.at e
   ·have r:st.2.2.2 ="":=Az λz=>r (by simp[z])
    refine#[#[u,rfl,?_],N,l];rw[oW,C];unfold tH;rw[vw,oy,show(some st).toList=[st]from rfl,tJ,nY (by simp[r]),xX,vq,qM];show j
  ·rintro n y ⟨⟨u,rfl,j⟩,x,r⟩;rw[nQ,G9,pQ]at j;show q D u y (a.trans r) (a.free U) x j
theorem Ij:∀(ss:mD Yi)(y:mD (mF×mF)),zI (Z0 V.str y) ((tH ss).map λq=>(Sum.inr q.1,V.str q.2))=Z0 V.str (sP y ss)
 | [],_=>rfl
 | s ::ss,y=>by
  by_cases z:s.2.2.2 =""
  ·rw[show tH (s ::ss)=tH ss by unfold tH;rw[tJ,nY<|by simp[z]],show sP y (s ::ss)=sP y ss by change sP (if s.2.2.2 ="" then y else _) ss=_;rw[og z]];show Ij ss y
  ·rw[show tH (s ::ss)=(s.1,s.2.2.2) ::tH ss by unfold tH;rw[tJ,og<|by simp[z]];rfl,show sP y (s ::ss)=sP (pX y s.1 s.2.2.2) ss by change sP (if s.2.2.2 ="" then y else _) ss=_;rw[nY z]];change zI (Ww (Z0 V.str y) (Sum.inr s.1)<|V.str s.2.2.2) _=_;rw[zm];show Ij ss _
def XD{H:Hp}:∀{tps:mD mG}{y:mD (mF×mF)},Ah H tps y->Paired (λt (q:om×V)=>H t=some (.tup [kV q.1,q.2])) tps (y.map λq=>(Sum.inr q.1,V.str q.2)):=by
 intro tps y h
 induction h with
 | nil=>show .nil
 | cons r _ x=>show .cons r x
inductive PX:Sp
 | mk (d r) (ls:mD (mF×mF)) (ns:S4->Prop) (sig:mF) (ss:mD S4):vs=[.ref d,.ref r]->H d=some (.dK<|Z0 V.str ls)->(ls.map fst).Nodup->ls.length<=100->qV ns H r sig ss->ss.length<=100->(∀(d':mG)(H':Hp),nH H H'->H d'=none->H' d'=some (.dK<|Z0 V.str<|sP ls ss)->Q (.ref d') H')->PX vs H Q E
def Yb8:T.iE.O P w mg nI 2 PX:=by
 refine T.iE.F.okW JT ?_;rfl'
 ·obtain⟨d,r,p,c,a,y,rfl,hd,o,u,x,Y,q⟩:=h;intro X D;refine nR (oj 2 JT<|Xa (r:=GX) Km (by rfl) T.eK Ab<|Zb (pv 0) Za) #[.inl hd,λn u j i g=>?_];refine nR (Zt<|Ych rfl (pv 2) (Zv (Va T) hr<|Zb (pv 1) Za) #[rfl,rfl,rfl,rfl]) #[n,rfl,.inl #[_,.inl g],r,c,a,y,rfl,x.mono j,Y,λl u d e N o U=>#[l,u,_,(tH y).map λq=>(Sum.inr q.1,V.str q.2),rfl,e.at g,o,?_,?_,?_]]
  ·show XD U
  ·have:=JD y;rw[nQ,show(Z0 V.str p).length=p.length from nQ ..];show qm (Zo<|by lia)
  refine nU (Zl<|pv 2) (q n _ (λb o z=>?_) i<|by rw[Zc,Ij]);rw[Zd (Zf z i)];show e.at<|j.at z
def yY:ua (pU P w) X E0:=λ_ _ _ _ _ _ _ h=>by
 obtain⟨_,_,_,_,_,_,_,_,_,_,z⟩:=h;show z.elim
def zN:mD mF:=["ta","b","t2","zug"]
def Po:∀n∈zN,X7 n:=by unfold X7;decide +kernel
set_option genInjectivity false in
set_option genSizeOf false in
structure KY where
 tr:Addr
 ps:List Zh
 js:List (Zh×Zh)
 sg:List (Str×Str×Str)
set_option genInjectivity false in
set_option genSizeOf false in
structure tI where
 F:Addr->Prop
 dx:Addr
 ld:Addr
 sd:Addr
 nd:Addr
 pd:Addr
 es:List (Str×Addr)
set_option genInjectivity false in
set_option genSizeOf false in
structure KC where
 st:List (Str×Bool)
 lw:List (Str×Str)
 val:Str->List Yi
 ln:List (Str×Nat)
def wv(ln:mD (mF×Nat)):mD (om×V):=Z0 (λn:Nat=>V.int (n:Int)) ln
def Sj(ad:tI)(y:mG):HO:=.ins T.ay ad.dx [("tracks",.ref y),("lie_of",.ref ad.ld),("stiff_ones",.ref ad.sd),("length_of",.ref ad.nd),("path_of",.ref ad.pd)]
structure rP(y:KY)(p:List S4):Prop where
 st:∀q∈p,qH y.ps q
 nd:(p.map fst).Nodup
 ch:xR y.js p
 en:∀q∈p.getLast?,uq y.sg q=true
def rP.nil:rP y []:=#[(λ_ z=>nomatch z),.nil,(λ_ _ _ z=>nomatch z),λ_ z=>nomatch z]
structure KX(y:KY)(ct:KC):Prop where
 lnd:(ct.ln.map fst).Nodup
 ok:∀p∈ct.ln,p.1∈zN/\1<=p.2/\p.2<=4
 sdn:(ct.st.map fst).Nodup
 sok:∀p∈ct.st,(("points",p.1):Zh)∈y.ps/\p.2=true
 lwd:(ct.lw.map fst).Nodup
 lok:∀p∈ct.lw,p.2∈uO
 lpt:∀n,n∈ct.lw.map fst↔(("points",n):Zh)∈y.ps
 pok:∀t,rP y (ct.val t)
 pne:∀t∈ct.ln.map fst,ct.val t≠[]
 pdj:∀t∈ct.ln.map fst,∀u∈ct.ln.map fst,t≠u->∀q∈ct.val t,∀r∈ct.val u,q.1≠r.1
 pli:∀t∈ct.ln.map fst,∀q∈ct.val t,q.2.2.2≠ ""->(q.1,q.2.2.2)∈ct.lw
def BO(o:HO):Prop:=(∀y,o≠.tup y)/\∀y,o≠.lst y
def BO.dk:BO (.dK k):=#[(λ_ z=>nomatch z),λ_ z=>nomatch z]
def BO.ins:BO (.ins a b c):=#[(λ_ z=>nomatch z),λ_ z=>nomatch z]
def pM(ad:tI)(b:mG):Prop:=ad.F b\/b=ad.ld\/b=ad.sd\/b∈ad.es.map snd
structure oG(T:Tx K mg)(H0 H:Hp)(x:Addr)(y:KY)(ad:tI)(ct:KC):Prop where
 obj:H x=some (Sj T ad y.tr)
 lies:H ad.ld=some (.dK<|Z0 V.str ct.lw)
 sti:H ad.sd=some (.dK<|Z0 V.bl ct.st)
 lens:H ad.nd=some (.dK<|wv ct.ln)
 pth:Ye H ad.pd ad.es ct.val
 nm:ad.es.map fst=ct.ln.map fst
 fx:ad.F x
 fn:ad.F ad.nd
 fp:ad.F ad.pd
 ne:ad.nd≠ad.pd
 nl:¬ad.F ad.ld
 ns:¬ad.F ad.sd
 sl:ad.sd≠ad.ld
 s0:H0 ad.sd=none
 l0:H0 ad.ld=none
 p0:∀e∈ad.es,H0 e.2=none
 free:∀b,ad.F b->H0 b=none
 same:nH H0 H
 live:∀b,ad.F b->∃o,H b=some o/\BO o
 trk:Yh T H0 y.tr y.ps y.js y.sg
 yv:Xq y.ps y.js y.sg
 tb:sv T H0
 kx:KX y ct
def oG.keep(h:oG U u H x y ad l)(e:∀b o,H b=some o->(pM ad b\/∃xs,o=.tup xs)->q b=some o)(s:nH u q):oG U u q x y ad l :=
 #[e _ _ h.obj<|.inl<|.inl h.fx,e _ _ h.lies<|.inl<|.inr<|.inl rfl,e _ _ h.sti<|.inl<|.inr<|.inr<|.inl rfl,e _ _ h.lens<|.inl<|.inl h.fn,#[e _ _ h.pth.1<|.inl<|.inl h.fp,λp n=>let⟨j,i,g⟩:=h.pth.2 p n;#[j,e _ _ i<|.inl<|.inr<|.inr<|.inr<|oh.mpr #[p,n,rfl],oA g λ_ _ r=>e _ _ r<|.inr #[_,rfl]]],h.nm,h.fx,h.fn,h.fp,h.ne,h.nl,h.ns,h.sl,h.s0,h.l0,h.p0,h.free,s,(λb f=>let⟨o,z,n⟩:=h.live b f;#[o,e _ _ z<|.inl<|.inl f,n]),h.trk,h.yv,h.tb,h.kx]
def oG.mono(e:nH H u)(h:oG U s H x y ad r):oG U s u x y ad r:=h.keep (λ_ _ z _=>e.at z)<|h.same.trans e
section
variable {U:Tx K mg} {y:KY} {ad:tI} {ct:KC}
def oG.ni(h:oG U q H x y ad ct)(u:e∈ad.es):¬ad.F e.2:=λf=>by
 obtain⟨p,s,_⟩:=h.pth.2 e u;obtain⟨o,r,n⟩:=h.live _ f;show n.2 _<|pI<|r.symm.trans s
def oG.tk(h:oG U u H x y ad ct):Yh U H y.tr y.ps y.js y.sg:=h.trk.mono h.same
def KX.nv(h:KX y ct)(x:n∈ct.ln.map fst):X7 n:=by
 obtain⟨p,u,rfl⟩:=oh.mp x;show Po _ (h.ok p u).1
def KX.len(h:KX y ct):ct.ln.length<=4:=by
 have:=BR (m:=zN) h.lnd λn x=>by
  obtain⟨p,u,rfl⟩:=oh.mp x;show(h.ok p u).1
 rwa[nQ]at this
def oG.esl(h:oG U u H x y ad ct):ad.es.length<=4:=by
 have:=pO List.length h.nm;rw[nQ,nQ]at this;show this ▸ h.kx.len
def rP.len{p:mD S4}(h:rP y p)(x:Xq y.ps y.js y.sg):p.length<=40:=by
 have:=BR h.nd λn u=>by
  obtain⟨q,s,rfl⟩:=oh.mp u;show(h.st q s).nm
 simp only[nQ]at this;show oU this x.len
def oG.vl(h:oG U u H x y ad ct)(t:mF):(ct.val t).length<=100:=oU ((h.kx.pok t).len h.yv) (by lk)
def QJ(x:Xq y.ps y.js y.sg){l:mD mF}(u:l.Nodup)(h:∀n∈l,(("points",n):Zh)∈y.ps):l.length<=40:=by
 have:=BR (m:=y.ps.map snd) u λn s=>oh.mpr #[_,h n s,rfl]
 rw[nQ]at this;show oU this x.len
def oG.stl(h:oG U r H x y ad ct):ct.st.length<=40:=by
 have:=QJ h.yv h.kx.sdn λn u=>by
  obtain⟨p,s,rfl⟩:=oh.mp u;show(h.kx.sok p s).1
 rwa[nQ]at this
def oG.lwl(h:oG U s H x y ad ct):ct.lw.length<=40:=by
 have:=QJ h.yv h.kx.lwd λn u=>(h.kx.lpt n).mp u
 rwa[nQ]at this
def oG.xn(h:oG U u H x y ad ct):x≠ad.nd:=λz=>by have:=h.obj;rw[z,h.lens]at this;cases this
def oG.xp(h:oG U u H x y ad ct):x≠ad.pd:=λz=>by have:=h.obj;rw[z,h.pth.1]at this;cases this
def oG.neF(h:oG U u H x y ad ct)(z:H b=none):¬ad.F b:=λf=>by
 obtain⟨o,e,_⟩:=h.live b f;rw[z]at e;cases e
end
inductive Jh:Sp
 | mk (H0 x dx) (y:KY):vs=[.ref x,.ref y.tr]->H0 x=none->nH H0 H->H x=some (.ins T.ay dx [])->Yh T H0 y.tr y.ps y.js y.sg->Xq y.ps y.js y.sg->sv T H0->(∀(H':Hp)(ad:tI)(ct:KC),oG T H0 H' x y ad ct->Q .non H')->Jh vs H Q E
def PU:T.bd.O P w mg nI 5 (Jh T):=by
 refine T.bd.F.okA ?_;rfl'
 ·obtain⟨i,x,dx,y,rfl,h0,B,hx,ht,yv,tb,q⟩:=h;intro X D;have up:∀{Y:Hp}{o:HO},nH i Y->nH i (nO Y x o):=λs b o e=>by rw[Zd (Zf e h0)];show s.at e
  refine nR (Wm (pv 0) (pv 1) rfl) #[hx,T.ae,T.az,by simp,?_];refine nR (Wm (pv 0) (Zv (TL T) hr<|Zb (pv 1) Za) rfl) #[y.tr,y.ps,y.js,y.sg,rfl,ht.mono<|up B,yv,λgs gnd hg p ld Y s1 n1 U=>SF.mk (fs:=[("tracks",.ref y.tr)]) (s1.at Zc) T.ae T.br (by simp) ?_];have m1:nH i Y:=(up B).trans s1;refine nR (Wm (pv 0) ye rfl) λN H2 c M e2=>SF.mk (fs:=[("tracks",.ref y.tr),("lie_of",.ref ld)]) (c.at Zc) T.ae T.aX (by simp) ?_
  have m2:nH i H2:=(up m1).trans c;refine nR (Wm (pv 0) ye rfl) λL H3 g J e3=>SF.mk (fs:=[("tracks",.ref y.tr),("lie_of",.ref ld),("stiff_ones",.ref N)]) (g.at Zc) T.ae T.bf (by simp) ?_
  have m3:nH i H3:=(up m2).trans g;refine nU (Wm (pv 0) ye rfl) λpd H4 a d e4=>SF.mk (fs:=[("tracks",.ref y.tr),("lie_of",.ref ld),("stiff_ones",.ref N),("length_of",.ref L)]) (a.at Zc) T.ae T.ag (by simp) ?_
  have m4:nH i H4:=(up m3).trans a;have I:∀{G:Hp}{b:mG}{o:HO},nO G x o b=none->b≠x:=λh z=>by rw[z,Zc]at h;cases h
  have r:∀{G G':Hp}{b:mG}{o u:HO},G b=some u->b≠x->nH (nO G x o) G'->G' b=some u:=λh n s=>s.at (by rw[Zd n];show h)
  have l:=I n1;have j:=I M;have C:=I J;have px:=I d;have l4:=r (r (r U l c) l g) l a;have d4:=r (r e2 j g) j a;have k4:=r e3 C a;have hm:(gs.map λn:mF=>(n,("left":mF))).map fst=gs:=by rw[qj];show List.map_id _
  refine q _ #[λb=>b=x\/b=L\/b=pd,dx,ld,N,L,pd,[]] #[[],gs.map λn=>(n,("left":mF)),λ_=>[],[]] #[Zc,by rw[Zd l];show l4,by rw[Zd j];show d4,by rw[Zd C];show k4,#[by rw[Zd px];show e4,λ_ z=>nomatch z],rfl,.inl rfl,.inr<|.inl rfl,.inr<|.inr rfl,λz=>?_,?_,?_,λz=>?_,(up m1).free M,(up B).free n1,(λ_ z=>nomatch z),?_,up m4,?_,ht,yv,tb,#[.nil,(λ_ z=>nomatch z),.nil,(λ_ z=>nomatch z),by rw[hm];show gnd.1,λp hp=>?_,λn=>by rw[hm];show hg n,λ_=>.nil,(λ_ z=>nomatch z),(λ_ z=>nomatch z),λ_ z=>nomatch z]]
  ·have z:L=pd:=z;rw[<-z,Zd C,e3]at d;cases d
  ·rintro(z|z|z)
   ·show l z
   ·have:=J;rw[<-z,Zd l,r U l c]at this;cases this
   ·have:=d;rw[<-z,Zd l,r (r U l c) l g]at this;cases this
  ·rintro(z|z|z)
   ·show j z
   ·have:=J;rw[<-z,Zd j,e2]at this;cases this
   ·have:=d;rw[<-z,Zd j,r e2 j g]at this;cases this
  ·have z:N=ld:=z;rw[z,Zd l,U]at M;cases M
  ·rintro b (rfl|rfl|rfl)
   ·show h0
   ·show(up m2).free J
   ·show(up m3).free d
  ·rintro b (rfl|rfl|rfl)
   ·show#[_,Zc,.ins]
   ·show#[.dK _,by rw[Zd C];show k4,.dk]
   ·show#[.dK _,by rw[Zd px];show e4,.dk]
  ·obtain⟨n,p,rfl⟩:=oh.mp hp;change("left":mF)∈uO
   decide +kernel
def II:mD V->Hp->VK->Prop:=λs H Q=>∃y:KY,s=[.ref y.tr]/\Yh T H y.tr y.ps y.js y.sg/\Xq y.ps y.js y.sg/\sv T H/\∀(x:mG)(u:Hp)(ad:tI)(r:KC),H x=none->oG T H u x y ad r->Q (.ref x) u
def Ku:∀vs H Q,II T vs H Q->
  ∀x u,H x=none->H u=none->u≠x->Jh T (.ref x ::(vs++[])) (nO (nO H u<|.own x) x<|.ins T.ay u []) (λv p=>v=.non/\Q (.ref x) p) E0:=by
 rintro vs H Q ⟨y,rfl,n,l,j,q⟩ x u s r d;refine#[H,x,u,y,rfl,s,λb o e=>?_,Zc,n,l,j,λi ad g h=>#[rfl,q x i ad g s h]];rw[Zd (Zf e s),Zd<|Zf e r];show e
inductive PY:Sp
 | mk (H0 x y ad ct):vs=[.ref x]->oG T H0 H x y ad ct->(∀ss:mD mF,ss.Perm (ct.ln.map fst)->PyProof.Rows.sortedS ss=true->qv H (.lst<|ss.map V.str) Q)->PY vs H Q E
def SA{y:Type}{f:y->V}(l:mD (mF×y)):((Z0 f l).map λp=>kV p.1)=(l.map fst).map V.str:=by
 rw[show Z0 f l=l.map λq=>(Sum.inr q.1,f q.2)from rfl,qj,qj]
 rfl
def Yz:T.aw.O P w mg nI 1 (PY T):=by
 refine T.aw.F.okA ?_;rfl'
 ·obtain⟨o,x,y,ad,p,rfl,u,q⟩:=h;intro X D;have n:=u.kx.len;refine nU (Zl<|Z5 (r:=CV) (Iy rfl) (by rfl) T.cQ yn<|Zb (Z2 (pv 0) rfl) Za) #[u.obj,T.ae,T.ag,rfl,ad.pd,_,p.ln.map fst,rfl,.inl u.pth.1,?_,by rw[nQ];lia,q];have:=SA (f:=V.ref) ad.es;rw[u.nm]at this;show this
inductive Me:Sp
 | mk (H0 x y ad ct) (nm:mF):vs=[.ref x,.str nm]->oG T H0 H x y ad ct->(∀H',nH H H'->nm∈ct.ln.map fst->Q .non H')->(nm∉ct.ln.map fst->∀H',nH H H'->E (.ref T.ar) none H')->Me vs H Q E
def Xt:T.ax.X P w mg nI 2 (Me T):=by
 refine T.ax.F.okX Zcs ?_;rfl'
 ·obtain⟨j,x,y,ad,u,nm,rfl,r,q,i⟩:=h;intro X D;refine nU (Zx (wA hr (pv 1)<|Yf (pv 0) T.ae T.aJ (Yz T) hr.m T.aw.b .nil Z4) Zq Zk) #[r.obj,rfl,j,x,y,ad,u,rfl,r,λe p d l o n c g=>.inl #[.inl<|nS g,rfl,Wa _,?_]];rw[og rfl,W3]
  by_cases z:nm∈u.ln.map fst
  ·rw[oO (p.mem_iff.mpr z)];show q o n z
  ·rw[pj λy=>z<|p.mem_iff.mp y];show(nU (yf T.iy wP rfl<|Zb Zg Za) #[nV,i z o n])
def oG.get{T:Tx K mg}{y:KY}{ad:tI}{u:KC}{nm:mF}(h:oG T p H x y ad u)(r:nm∈u.ln.map fst):∃l,(nm,l)∈ad.es/\Y0 (Z0 V.ref ad.es) (Xd nm)=some (.ref l)/\Yr H l (u.val nm):=by
 rw[<-h.nm]at r;obtain⟨⟨n,l⟩,s,rfl⟩:=oh.mp r;have q:(ad.es.map fst).Nodup:=by rw[h.nm];show h.kx.lnd
 show#[l,s,Wh q s,h.pth.2 _ s]
inductive NI:Sp
 | mk (H0 x y ad ct) (nm:mF):vs=[.ref x,.str nm]->oG T H0 H x y ad ct->(∀l H',nm∈ct.ln.map fst->nH H H'->H l=none->Yr H' l (ct.val nm)->Q (.ref l) H')->(nm∉ct.ln.map fst->∀H',nH H H'->E (.ref T.ar) none H')->NI vs H Q E
def X5:T.aM.X P w mg nI 3 (NI T):=by
 refine T.aM.F.okX Zlw ?_;rfl'
 ·obtain⟨j,x,y,ad,i,nm,rfl,u,q,g⟩:=h;intro X D;refine nR (Zt<|Z6 (pv 0) T.ae T.bh (Xt T) hr.m T.ax.b .nil Wi<|Zb (pv 1) Za) #[u.obj,rfl,j,x,y,ad,i,nm,rfl,u,λl p n=>?_,g];have o:=u.mono p;obtain⟨l,Y,e,d,c,a⟩:=o.get n;show nU (Zl<|Xa (r:=EG K) Jk (by rfl) T.gK Eu<|Zb (Xy (Xb hr) (Z2 (pv 0) rfl) (pv 1) λ_ _=>rfl) Za) #[o.obj,T.ae,T.ag,rfl,by rw[<-e];show rn (k:=Xd nm) o.pth.1,.inl<|nS c,λY U l N M=>q Y U n (p.trans l) (p.free N) #[d,M,a.mono l]]
inductive QF:Sp
 | mk (H0 x y ad ct) (p:mF×Nat):vs=[.ref x,.str p.1]->oG T H0 H x y ad ct->p∈ct.ln->(∀H',nH H H'->Q (.int (p.2:Int)) H')->QF vs H Q E
def NL:T.bx.X P w mg nI 3 (QF T):=by
 refine T.bx.F.okX SK ?_;rfl'
 ·obtain⟨j,x,y,ad,r,p,rfl,u,o,q⟩:=h;intro X D;refine nR (Zt<|Z6 (pv 0) T.ae T.bh (Xt T) hr.m T.ax.b .nil Wi<|Zb (pv 1) Za) #[u.obj,rfl,j,x,y,ad,r,p.1,rfl,u,λi n _=>?_,λz=>absurd (oh.mpr #[p,o,rfl]) z];have l:=u.mono n;have g:Y0 (wv r.ln) (Xd p.1)=some (.int (p.2:Int)):=Wh u.kx.lnd o;show nU (Zl<|Xy (Xb hr) (Z2 (pv 0) rfl) (pv 1) λ_ _=>rfl) #[l.obj,T.ae,T.bf,rfl,yO.mk (v:=.int (p.2:Int)) (by rw[<-g];show rn (k:=Xd p.1) l.lens)<|q i n]
def KC.gd(y:KC)(x:mD (mF×Bool)):Gd:=#[y.lw,y.st,y.val,x]
inductive Rs:Sp
 | mk (H0 x dt y ad ct td):vs=[.ref x,.ref dt]->oG T H0 H x y ad ct->H dt=some (.dK<|Z0 V.bl td)->(∀g H',nH H H'->H g=none->tF T H' g ad.es (ct.gd td) ad.ld ad.sd ad.pd dt->Q (.ref g) H')->Rs vs H Q E
def Gz:T.ba.O P w mg nI 3 (Rs T):=by
 refine T.ba.F.okA ?_;rfl'
 ·obtain⟨p,x,r,y,ad,o,n,rfl,u,hd,q⟩:=h;intro X D;show nU (Zl<|wJ (Rt T) T.iH (ZH T) hr.m rfl T.iX T.bG.b .nil Z4 (ZA T)<|Zb (Z2 (pv 0) rfl)<|Zb (Z2 (pv 0) rfl)<|Zb (Z2 (pv 0) rfl)<|Zb (pv 1) Za) #[u.obj,T.ae,T.br,rfl,u.obj,T.ae,T.aX,rfl,u.obj,T.ae,T.ag,rfl,ad.ld,ad.sd,ad.pd,r,rfl,λg x y o n=>q g x y o #[n,#[y.at u.lies,y.at u.sti,u.pth.mono y,y.at hd],u.vl,(λp z=>(u.kx.sok p z).2),by rw[u.nm];show u.kx.lnd,oU u.esl (by lk),λe l=>zQ (u.kx.nv (by rw[<-u.nm];show oh.mpr #[e,l,rfl]))]]
inductive Li:Sp
 | mk (H0 x y ad ct):vs=[.ref x]->oG T H0 H x y ad ct->(∀ss D j8 H',ss.Perm (ct.ln.map fst)->PyProof.Rows.sortedS ss=true->nH H H'->H D=none->Ye H' D j8 ct.val->j8.map fst=ss->(∀e∈j8,H e.2=none)->Q (.ref D) H')->Li vs H Q E
def EN:T.aW.O P w mg nI 4 (Li T):=by
 refine T.aW.F.okA ?_;rfl'
 ·obtain⟨Y,x,y,ad,g,rfl,u,q⟩:=h;intro X D;have G:=u.kx.len;refine nU (Zl<|Xa (r:=Dr) (Js rfl) (by rfl) T.eK Ab<|Zb (qh ["train","self"] (pF 1 [0] rfl) (Yd<|Yf (pv 0) T.ae T.aJ (Yz T) hr.m T.aw.b .nil Z4) (pc 0) X8 (Zi<|Zb (pv 0)<|Zb (Z6 (pv 1) T.ae T.bE (X5 T) hr.m T.aM.b .nil yY<|Zb (pv 0) Za) Za)) Za) #[u.obj,rfl,Y,x,y,ad,g,rfl,u,λp o C l n j e U=>#[nS U,λD N=>Yp (xs:=p.map V.str) (wz n n D p g.val) (.nil N) ?_ ?_ ?_]]
  ·rintro i M n _ b;show nS<|b.same.at U
  ·rintro i v M B d b;rw[oF]at d;obtain⟨n,l,rfl⟩:=oN.mp d;have E6:i<p.length:=(pT.mp l).1;have M8:p.length<=4:=by rw[o.length_eq,nQ];show G
   have J:=b.len;have c:=u.mono<|j.trans b.same;unfold ro;show#[pE rfl,c.obj,rfl,Y,x,y,ad,g,n,rfl,c,λl4 H4 _ a L I=>#[nV,λt H5 e n5 e5=>#[e.at<|a.at b.at',Zo (by lia),b.step N l (a.trans e) (b.same.free L) L (I.mono e) e5]],λz=>absurd (o.mem_iff.mp<|qf l) z]
  ·rintro M B b;obtain⟨n,L,rfl,l,J,c⟩:=b.all;rw[nQ,pQ]at l;show#[D,n,Z0 V.ref L,rfl,b.at',c,OX<|l ▸ o.nodup_iff.mpr u.kx.lnd,λd H3 I n3 e3=>q p d L H3 o C (j.trans<|b.same.trans I) (j.free<|b.same.free n3) #[e3,λe a=>(J e a).2.2.mono I] l λe a=>j.free (J e a).1]
def Fk(H:Hp)(y:mJ mG):Prop:=∀d,y=some d->∃fs,H d=some (.xd fs)
def vc(K:mK):mD V->Hp->VK->Prop:=λx H Q=>∃e C y c b,x=[.ref e,c]/\H e=some (rE e C y)/\Fk H y/\XG K C/\((∃n,c=.ty n/\kitOne K (.ref C) (.type n)=some b)\/(∃a,c=.ref a/\kitOne K (.ref C) (.ref a)=some b))/\Q (.bl b) H
def Wk:Y7 X (.builtin "isinstance") (vc X.K):=by
 rintro x s y H u p Q I r ⟨e,C,l,c,b,o,n,j,g,k,q⟩;cases l with
 | none=>show UP x s y H u p Q I r #[e,C,c,b,o,n,g,k,q]
 | some d =>
  obtain⟨fs,hd⟩:=j d rfl;show Zx8 x s y H u p Q I r #[e,C,d,fs,c,b,o,n,hd,g,k.imp id .inl,q]
def ug(r:Nat):mG:=[T.au,T.aB,T.ar,T.aD,T.aE,T.aU,T.bi].getD r T.aK
def xA(r:Nat):Nat:=if r<2 then r else r+1
def vH(r:Nat):mF:=[("name":mF),"end","train","way","turn","held","taken"].getD r "stiff"
structure K9(T:Tx K mg)(C:Addr)(b:Nat->Bool):Prop where
 g:XG K C
 i0:kB K C T.au (b 0)
 i1:kB K C T.aB (b 1)
 i2:kB K C T.bt (b 2)
 i3:kB K C T.ar (b 3)
 i4:kB K C T.aD (b 4)
 i5:kB K C T.aE (b 5)
 i6:kB K C T.aU (b 6)
 i7:kB K C T.bi (b 7)
 i8:kB K C T.aK (b 8)
 v:kitOne K (.ref C) (.type "ValueError")=some true
theorem k9:∀r,r<8->K9 T (ug T r) (λi=>decide<|i=xA r)/\PySem.W.kitCls K (.ref<|ug T r) (.ref T.ap)=some true
 | 0,_=>#[#[T.iA,T.ku,T.ky,T.kz,T.kE,T.kF,T.kG,T.kH,T.kI,T.kJ,T.v0],T.c0]
 | 1,_=>#[#[T.iP,T.jk,T.jF,T.jp,T.iT,T.iD,T.jY,T.kh,T.jZ,T.ke,T.v1],T.c1]
 | 2,_=>#[#[T.iC,T.jG,T.kK,T.kL,T.kM,T.kN,T.kO,T.kP,T.kQ,T.kR,T.v2],T.c2]
 | 3,_=>#[#[T.iQ,T.kS,T.kT,T.kU,T.kW,T.kX,T.kY,T.kZ,T.lu,T.ly,T.v3],T.c3]
 | 4,_=>#[#[T.iR,T.lz,T.lB,T.lC,T.lD,T.lE,T.lF,T.lG,T.lH,T.lI,T.v4],T.c4]
 | 5,_=>#[#[T.jH,T.lJ,T.lK,T.lL,T.lM,T.lN,T.lO,T.lP,T.lQ,T.lR,T.v5],T.c5]
 | 6,_=>#[#[T.jI,T.lS,T.lT,T.lU,T.lV,T.lW,T.lX,T.lY,T.lZ,T.ma,T.v6],T.c6]
 | 7,_=>#[#[T.je,T.md,T.me,T.mf,T.mh,T.mi,T.ki,T.mj,T.mn,T.jJ,T.v7],T.c7]
 | _+8,h=>absurd h (by lia)
def vC(H:Hp)(y:mJ mG):mJ mF->Prop
 | none=>y=none
 | some p=>∃d,y=some d/\H d=some (.xd [("part",.str p)])
def vC.mono(e:nH H x)(h:vC H u y):vC x u y:=by
 cases y with
 | none=>show h
 | some p=>obtain⟨d,s,r⟩:=h;show#[d,s,e.at r]
def vC.xd(h:vC H y x):Fk H y:=λd e=>by
 cases x with
 | none=>rw[show y=none from h]at e;cases e
 | some p=>obtain⟨r,u,s⟩:=h;rw[u]at e;cases e;show#[_,s]
def Uv(r:Nat)(h:r<8)(b:Nat->Bool)(y:b=λi=>decide<|i=xA r):[b 0,b 1,b 2,b 3,b 4,b 5,b 6,b 7,b 8][xA r]? =some true/\(∀i,i<xA r->[b 0,b 1,b 2,b 3,b 4,b 5,b 6,b 7,b 8][i]? ≠some true)/\[b 0,b 1,b 2,b 3,b 4,b 5,b 6,b 7,b 8].countP (λx=>x ==true)=1/\[V.str "name",V.str "end",V.str "many",V.str "train",V.str "way",V.str "turn",V.str "held",V.str "taken",V.str "stiff"][xA r]? =some (.str<|vH r)/\sR (vH r) 1=vH r/\(vH r).length<=10/\xA r<10/\ue (.str<|vH r) [.str "held",.str "taken",.str "stiff"]=decide (5<=r):=by
 subst y;revert r
 decide +kernel
inductive EO(P:mS)(w:mP)(nI:mO)(T:Tx K mg):Sp
 | mk (f):vs=[.ref f]->xF H f->Iq P w K mg nI 10 f H (λ_ H'=>Q (.str "done") H') (λcls dx H'=>∃r po,r<8/\cls=.ref (ug T r)/\vC H' dx po/\(po.isSome=decide (5<=r))/\∀v A2,nH H' A2->Q v A2)->EO P w nI T vs H Q E
def Wt:T.ak.O P w mg nI 11 (EO P w nI T):=by
 refine T.ak.F.okW Xj ?_;rfl'
 ·obtain⟨f,rfl,hf,hd⟩:=h;intro X D;let J:IC:=λ_ l=>Q (.str "done") l
  refine qk J (WS.tryAs (x :="YardError") (n :="e") (B:=T.ap) (i:=1) (Ex:=λcls o l=>∃r j,r<8/\cls=.ref (ug T r)/\vC l o j/\(j.isSome=decide (5<=r))/\∀v y,nH l y->Q v y) (R:=λC o l=>∃r j,r<8/\C=ug T r/\vC l o j/\(j.isSome=decide (5<=r))/\∀v y,nH l y->Q v y) T.ic (Zvk T.mo rfl) rfl Xj.nd rfl rfl rfl rfl rfl rfl rfl ?_ ?_ ?_) ?_
  ·rintro cls o l ⟨r,j,u,rfl,y⟩;show#[_,rfl,(k9 T r u).2,r,j,u,rfl,y]
  ·intro q p y;show nU (Zt<|Yb3 (k:=10) hr (pv 0) y) #[f,rfl,hf,hd]
  ·rintro y C o σ' M hl ⟨r,j,u,rfl,U,T6,q⟩ hn;obtain⟨k,p⟩:=k9 T r u;obtain⟨b,hb⟩:∃b:Nat->Bool,b=λi=>decide (i=xA r):=#[_,rfl]
   rw[<-hb]at k;obtain⟨p,o1,o2,o3,o4,rfl⟩:=Ykc hl;have g:(nO M y<|rE y (ug T r) o) y=some (rE y (ug T r) o):=Zc;have I:nH M (nO M y<|rE y (ug T r) o):=pP hn;generalize nO M y (rE y (ug T r) o)=H2 at g I;have N:=(U.mono I).xd;have G:∀{H3:Hp},nH H2 H3->Fk H3 o:=λs d e=>let⟨fs,z⟩:=N d e;#[fs,s.at z]
   refine nR (oj 2 Xj<|Zn<|Zb (Z5 (r:=vc K) Wk (by rfl) T.aj tw<|Zb (pv 1)<|Zb (X2 (v:=.ref T.au) (by rfl) T.iI rfl) Za)<|Zb (Z5 (r:=vc K) Wk (by rfl) T.aj tw<|Zb (pv 1)<|Zb (X2 (v:=.ref T.aB) (by rfl) T.iY rfl) Za)<|Zb (Z5 (r:=vc K) Wk (by rfl) T.aj tw<|Zb (pv 1)<|Zb (X2 (v:=.ref T.bt) (by rfl) T.iJ rfl) Za)<|Zb (Z5 (r:=vc K) Wk (by rfl) T.aj tw<|Zb (pv 1)<|Zb (X2 (v:=.ref T.ar) (by rfl) T.iK rfl) Za) Za) #[y,_,_,_,_,rfl,g,N,k.g,.inr<|qC rfl k.i0,y,_,_,_,_,rfl,g,N,k.g,.inr<|qC rfl k.i1,y,_,_,_,_,rfl,g,N,k.g,.inr<|qC rfl k.i2,y,_,_,_,_,rfl,g,N,k.g,.inr<|qC rfl k.i3,nV,λp H3 s3 n3 e3=>?_];have c:=s3.at g;have a:=G s3;refine nR (oj 2 Xj<|Zr W0 (pv 2)<|Zn<|Zb (Z5 (r:=vc K) Wk (by rfl) T.aj tw<|Zb (pv 1)<|Zb (X2 (v:=.ref T.aD) (by rfl) T.iZ rfl) Za)<|Zb (Z5 (r:=vc K) Wk (by rfl) T.aj tw<|Zb (pv 1)<|Zb (X2 (v:=.ref T.aE) (by rfl) T.ja rfl) Za)<|Zb (Z5 (r:=vc K) Wk (by rfl) T.aj tw<|Zb (pv 1)<|Zb (X2 (v:=.ref T.aU) (by rfl) T.iw rfl) Za)<|Zb (Z5 (r:=vc K) Wk (by rfl) T.aj tw<|Zb (pv 1)<|Zb (X2 (v:=.ref T.bi) (by rfl) T.jh rfl) Za) Za) #[y,_,_,_,_,rfl,c,a,k.g,.inr<|qC rfl k.i4,y,_,_,_,_,rfl,c,a,k.g,.inr<|qC rfl k.i5,y,_,_,_,_,rfl,c,a,k.g,.inr<|qC rfl k.i6,y,_,_,_,_,rfl,c,a,k.g,.inr<|qC rfl k.i7,nV,λl4 H4 s4 n4 p=>.inr<|.inr #[s4.at e3,p,nV,λl5 H5 s5 n5 e5=>?_]];have M7:=s3.trans<|s4.trans s5;refine nR (oj 2 Xj<|Zr W0 (pv 2)<|Zn<|Zb (Z5 (r:=vc K) Wk (by rfl) T.aj tw<|Zb (pv 1)<|Zb (X2 (v:=.ref T.aK) (by rfl) T.iL rfl) Za) Za) #[y,_,_,_,_,rfl,M7.at g,G M7,k.g,.inr<|qC rfl k.i8,nV,λl6 H6 s6 n6 p=>.inr<|.inr #[s6.at e5,p,nV,λl7 H7 s7 n7 e7=>?_]];refine nR (oj 3 Xj<|Zn<|Zb Zg<|Zb Zg<|Zb Zg<|Zb Zg<|Zb Zg<|Zb Zg<|Zb Zg<|Zb Zg<|Zb Zg Za) #[nV,λp H8 s8 n8 e8=>?_];have Y:=M7.trans<|s6.trans<|s7.trans s8;have L:=s8.at e7;let bs:mD Bool:=[b 0,b 1,b 2,b 3,b 4,b 5,b 6,b 7,b 8]
   obtain⟨a1,a2,a3,a4,a5,p,a7,a8⟩:=Uv r u b hb;refine nR (oj 4 Xj<|Zr LN (oi (pv 3)<|yb vX PySem.F.slot_list_index PySem.F.type_list_index Zy3 (pv 2)<|Zb rK Za)<|Xa So (by rfl) T.iM HZ<|Zb (zT (Bz Qv (yb vX PySem.F.slot_list_count PySem.F.type_list_count Zyf (pv 2)<|Zb rK Za) Ze<|Yv _)<|yZ<|Z5 (r:=vc K) Wk (by rfl) T.aj tw<|Zb (pv 1)<|Zb (PK (v:=.ty "ValueError") (by rfl) T.gL ZS rfl) Za) Za) #[.inl #[rfl,_,nS L],l7,bs,true,xA r,rfl,rfl,L,by lia,a1,a2,.inl #[nS e8,Zm a4,.inl #[rfl,_,nS L],l7,bs,true,rfl,rfl,L,?_]];rw[a3];refine#[rfl,#[y,_,_,_,_,rfl,Y.at g,G Y,k.g,.inl #[_,rfl,k.v],.inr #[_,rfl,vH r,1,rfl,rfl,by lia,by lia,?_]]];rw[a5];refine nR (Zx (Yg (r:=AT K false) Pj (pv 4) (Zi<|Zb Zg<|Zb Zg<|Zb Zg Za)<|by with_unfolding_all rfl) Zq Zk) #[nV,λl9 H9 s9 n9 p=>#[.inr<|nX p,rfl,rfl,?_]];rw[show(if false=true then !ue (V.str<|vH r) [V.str "held",V.str "taken",V.str "stiff"]else ue (V.str<|vH r) [V.str "held",V.str "taken",V.str "stiff"])=decide (5<=r)from a8,<-T6];have N3:=I.trans<|Y.trans s9;cases j with
   | none=>show(nU (Zl<|pv 4)<|q _ H9 N3)
   | some p =>
    obtain⟨d,rfl,hd9⟩:=U.mono N3;obtain⟨fI,xi⟩:∃fI,XI K (ug T r) T.ap fI "part":=by
     have:=show 5<=r from by simpa using T6
     obtain rfl|rfl|rfl:r=5\/r=6\/r=7:=by lia
     ·show#[_,T.dS]
     ·show#[_,T.fO]
     ·show#[_,T.ez]
    show(nU (Zl<|Zi<|Zb (pv 4)<|Zb (Ycj (pv 1) rfl) Za) #[y,_,_,d,_,_,rfl,(Y.trans s9).at g,hd9,xi.cls,xi.xa,xi.na,rfl,nV,λt HA sA nA eA=>q _ HA<|N3.trans sA])
  ·intro y l z;show nU (Zl Zg) z
structure Bk(H H' H3:Hp):Prop where
 old:∀b u o,H b=some u->H' b=some o->H3 b=some o
 soft:∀b o,H' b=some o->(∀ob,o≠Fz ob)->H3 b=some o
def Yr.soft(y:∀b o,H b=some o->(∀x,o≠Fz x)->u b=some o)(h:Yr H l ss):Yr u l ss :=
 let⟨s,q,p⟩:=h;#[s,y _ _ q (λ_ z=>nomatch z),oA p λ_ _ r=>y _ _ r λ_ z=>nomatch z]
def oG.back(h:oG U u H x y ad l)(b:Bk G H r)(s:nH u G):oG U u r x y {ad with F:=λa=>ad.F a/\∃o,H a=some o/\r a=some o} l :=
 have k:=b.soft _ _ h.obj λ_ z=>nomatch z
 have q:=b.soft _ _ h.lens λ_ z=>nomatch z
 have p:=b.soft _ _ h.pth.1 λ_ z=>nomatch z
 #[k,b.soft _ _ h.lies (λ_ z=>nomatch z),b.soft _ _ h.sti (λ_ z=>nomatch z),q,#[p,λe n=>(h.pth.2 e n).soft b.soft],h.nm,#[h.fx,_,h.obj,k],#[h.fn,_,h.lens,q],#[h.fp,_,h.pth.1,p],h.ne,λz=>h.nl z.1,λz=>h.ns z.1,h.sl,h.s0,h.l0,h.p0,λa z=>h.free a z.1,λa o e=>b.old a o o (s.at e)<|h.same.at e,(λa z=>let⟨o,j,i⟩:=z.2;#[o,i,let⟨g,y,n⟩:=h.live a z.1;pI (y.symm.trans j) ▸ n]),h.trk,h.yv,h.tb,h.kx]
def WE.imp(h:WE X e y H Q)(i:∀v x,Q v x->p v x):WE X e y H p:=#[λo s I=>oK (h.run o s I) λu n ⟨v,x,J,r,q⟩=>#[v,x,J,r,i _ _ q]]
def Zs5(cl:Clo H Pt J B la lb g h)
  (hp:Paired (λx v=>∃(i:Nat)(a:mG),X.N[i]? =some x/\y[i]? =some (some v)/\X.env.scope.names.lookup x=some .cell/\X.env.cells.lookup x=some a/\g.names.lookup x=some .free/\h.lookup x=some a) fs fvs) (w4:∀p∈h,p.1∈fs) (one:(h.map fst).Nodup) (apart:(h.map snd).Nodup)
  (hb:∀(pm c8 B6:mH),bindArgs (PySem.W.kla_fn "<lambda>" B la lb g h pm c8 B6) #[[],[]]=pure []) (A3:∀u∈g.names,u.2=.free->u.1∈fs) (hnc:∀u∈g.names,u.2≠.cell)
  (hk:g.kind=.function) (T8:g.isCoroutine=false) (K6:g.isGenerator=false)
  (body:∀(G:Hp)(c:mG)(A:mT)(nG:mD Env)(s:mI)(E:XK),nH H G->(∀r I dx Y,r<8->I.isSome=decide (5<=r)->nH G Y->vC Y dx I->(∀v d,nH H d->Q v d)->E (.ref<|ug T r) dx Y)->Y2 9 (A.deeper<|PySem.W.envX B g #v[s] J (.ref c) h)->WE (AH P w K mg nI fs B g J (.ref c) h A nG s G E) lb (fvs.map some) G (λ_ Y=>∀d,Bk H Y d->Q (.str "done") d)) :
  CT X y H (λD Q2=>EO P w nI T [.ref J] D Q2 E0) Q:=by
 intro D s2 cs;have nn:∀p∈h,H p.2=none:=λp C=>by
  obtain⟨j,hj,e⟩:=Ca<|w4 p C;obtain⟨v,_,i,a,h1,h2,h3,h4,h5,N⟩:=pG hp (i:=j) (a:=p.1) (by rw[pJ hj,e]);rw[Xi one C]at N;cases N;show(cs i _ _ _ h1 h2 h3 h4).1
 have L:sL D g h fs fvs:=#[oA hp λx v ⟨i,a,h1,h2,h3,h4,h5,N⟩=>#[h5,a,N,(cs i _ _ _ h1 h2 h3 h4).2],w4,one,apart]
 have sG:nH H (offL D h):=λb o e=>by
  rw[uL]
  ·show s2.at e
  ·intro z;obtain⟨p,C,rfl⟩:=oh.mp z;rw[nn p C]at e;cases e
 refine#[J,rfl,(cl.mono s2).fn,SO (cl.mono s2) L hb A3 hnc hk T8 K6 λc A nG s hr=>WE.imp (body _ c A nG s _ sG (λr I dx Y N l s' hd ht A2 M _=>#[r,I,N,rfl,hd.mono M,l,λv H5 s5 d _ U _=>ht v d λb q z=>U b q q z<|(sG.trans<|s'.trans<|M.trans s5).at z]) hr) λv Y n A2 M _ d _ U soft=>n d #[λb q o z u=>U b q o z<|M.at u,λb o u l=>soft b o (M.at u) l]]
def Su(c y:KC):Prop:=∀p∈c.st.map fst,∀l,(p,l)∈c.lw->(p,l)∈y.lw
def uk(r:Hp)(x:mG)(y:KY)(q:KC)(Q:VK):Prop:=∀v u p s,oG T r u x y p s->Su q s->Q v u
def vL(H:Hp)(E:XK):Prop:=∀r x u y,r<8->x.isSome=decide (5<=r)->nH H y->vC y u x->E (.ref<|ug T r) u y
def vL.mono(h:vL U H E)(s:nH H y):vL U y E:=λr x u q a b p=>h r x u q a b<|s.trans p
def vD(a:mJ (mF×mF)):Prop:=∀z,a=some z->∃r,5<=r/\r<8/\z.1=vH r
def Bf:vD none:=λ_ z=>nomatch z
def Hn(r:Nat)(h:5<=r)(k:r<8):vD (some (vH r,p)):=λz e=>#[r,h,k,by cases e;rfl]
def GL{l:mD (mJ<|mF×mF)}:(∀a∈l,vD a)->vD (yM l):=by
 induction l with
 | nil=>show λ_=>Bf
 | cons a l y =>
  intro h;cases a with
  | none=>show y λb x=>h b (pV _ x)
  | some z=>show h _ pK
def GJ{l:mD (mJ<|mF×mF)}:yM l=none->∀a∈l,a=none:=by
 induction l with
 | nil=>show λ_ _ z=>nomatch z
 | cons a l y =>
  intro h b x;cases a with
  | none=>show(oM.mp x).elim id (y h b)
  | some z=>cases h
def Ho:vD (vF y g x):=by
 unfold vF;split
 ·show Hn 5 (by lk) (by lk)
 ·show Bf
def GZ:vD (xD g x):=by
 unfold xD;split
 ·show Hn 6 (by lk) (by lk)
 ·show Bf
def LH:vD (wG g x):=by
 unfold wG;split
 ·show Hn 7 (by lk) (by lk)
 ·show Bf
def Sg{y:mD mF}{g:Gd}{x:mF}(h:vF y g x=none):∀t∈y,∀q∈g.val t,q.1≠x:=λt u q s e=>by
 unfold vF at h;rw[og #[t,u,oh.mpr #[q,s,e]]]at h;cases h
def Rx{g:Gd}{x:mF}(u:∀p∈g.stiff,p.2=true)(s:(g.stiff.map fst).Nodup)(h:wG g x=none):x∉g.stiff.map fst:=λz=>by
 obtain⟨⟨n,b⟩,y,rfl⟩:=oh.mp z;unfold wG at h;rw[Xi s y,u _ y,og (show(some true).getD false=true from rfl)]at h;cases h
def Zjx:T.bw.O P w mg nI 1 (xf T.bi "part"):=by
 refine T.bw.F.okA ?_;rfl'
 ·obtain⟨e,t,v,rfl,y,q⟩:=h;intro X D;show nU (GE (pv 0) (pv 1) rfl) #[e,T.bi,T.ap,t,rfl,y,T.fO.cls,T.fO.sa,T.fO.na,q]
def WM(h:1<=k:=by lk):T.bw.O P w mg nI k (xf T.bi "part"):=(Zjx T).mono h
def Ziq:T.bn.O P w mg nI 1 (xf T.aK "part"):=by
 refine T.bn.F.okA ?_;rfl'
 ·obtain⟨e,t,v,rfl,y,q⟩:=h;intro X D;show nU (GE (pv 0) (pv 1) rfl) #[e,T.aK,T.ap,t,rfl,y,T.ez.cls,T.ez.sa,T.ez.na,q]
def Vc(h:1<=k:=by lk):T.bn.O P w mg nI k (xf T.aK "part"):=(Ziq T).mono h
inductive Oh:Sp
 | mk (v a):vs=[v]->yy H v a->vD a->(a=none->Q .non H)->vL T H E->Oh vs H Q E
def EZ:T.aq.X P w mg nI 3 (Oh T):=by
 refine T.aq.F.okX Zhz ?_;rfl'
 ·obtain⟨v,a,rfl,p,o,q,n⟩:=h;intro X D;cases a with
  | none =>
   cases(show v=.non from p);show nR (Zx (Yg Hs (pv 0) vS<|Yv _) Zq Zk) #[rfl,nU Ydk<|q rfl]
  | some z =>
   obtain⟨r,l,i,e⟩:=o z rfl;obtain⟨t,rfl,y⟩:=p;rw[e]at y;have u:∀x,H x=none->E (.ref<|ug T r) (some x) (nO H x<|.xd [("part",.str z.2)]):=λx g=>n r (some z.2) (some x) _ i (oO l).symm (pP g) #[x,rfl,Zc]
   refine nR (Zx (Yg Hs (pv 0) vS<|Yv _) Zq Zk) #[rfl,?_];obtain rfl|rfl|rfl:r=5\/r=6\/r=7:=by lia
   ·show nR (Zx (pY hr (oi (pv 0) Ze) Zg) Zq Zk)<|.inr<|.inl #[nX y,Zm (j:=0) rfl,.inl #[rfl,oB.t (by left)<|nU (BM T.dS T.cI (HW T) T.aQ.b hr rfl T.iw<|Zb (oi (pv 0) Ze) Za)<|.inr<|.inl #[nX y,Zm (j:=1) rfl,_,rfl,u]]]
   all_goals refine nR (Zx (pY hr (oi (pv 0) Ze) Zg) Zq Zk)<|.inr<|.inl #[nX y,Zm (j:=0) rfl,.inl #[rfl,oB.f (by left) ?_]]
   ·show nR (Zx (pY hr (oi (pv 0) Ze) Zg) Zq Zk)<|.inr<|.inl #[nX y,Zm (j:=0) rfl,.inl #[rfl,oB.t (by left)<|nU (BM T.fO T.cI (WM T) T.bw.b hr rfl T.jh<|Zb (oi (pv 0) Ze) Za)<|.inr<|.inl #[nX y,Zm (j:=1) rfl,_,rfl,u]]]
   ·refine nR (Zx (pY hr (oi (pv 0) Ze) Zg) Zq Zk)<|.inr<|.inl #[nX y,Zm (j:=0) rfl,.inl #[rfl,oB.f (by left) ?_]];show nU (BM T.ez T.cI (Vc T) T.bn.b hr rfl T.iL<|Zb (oi (pv 0) Ze) Za)<|.inr<|.inl #[nX y,Zm (j:=1) rfl,_,rfl,u]
def FR:T.dh.O P w mg nI 4 (GO T "points"):=by
 refine T.dh.F.okA ?_;rfl'
 ·obtain⟨x,g,y,u,r,rfl,p,o,n,q⟩:=h;intro X D;refine nU (Zx (wA hr (pv 1)<|Zv (Nm T) hr<|Zb (pv 0) Za) Zq Zk) #[x,y,u,r,rfl,p,o,λc a j Y l i e U d=>.inl #[.inl<|nS d,rfl,Wa _,?_]];rw[og rfl,W3,oO<|(j g).mpr n];show(q i e)
def Ye.offC{val:mF->mD Yi}(h:Ye H d es val)(hd:d≠c)(x:∀e∈es,e.2≠c)(s:H c=some u)(r:∀xs,u≠.tup xs):Ye (nO H c o) d es val :=
 #[by rw[Zd hd];show h.1,λe z=>(h.2 e z).off (x e z) λxs y=>r xs<|pI<|s.symm.trans y]
def oG.put{T:Tx K mg}{y:KY}{ad:tI}{q:KC}(s:oG T j H x y ad q)(l:c=ad.ld\/c=ad.sd)(h:nO H c u ad.ld=some (.dK<|Z0 V.str lw))(g:nO H c u ad.sd=some (.dK<|Z0 V.bl st))(d:KX y #[st,lw,q.val,q.ln]):oG T j (nO H c u) x y ad #[st,lw,q.val,q.ln]:=by
 have p:∀{b:mG},ad.F b->b≠c:=λf z=>by rw[z]at f;show l.elim (λe=>s.nl<|e ▸ f) λe=>s.ns<|e ▸ f
 have a:j c=none:=l.elim (λe=>e ▸ s.l0) λe=>e ▸ s.s0
 obtain⟨k,i⟩:∃k,H c=some (.dK k):=l.elim (λe=>#[_,e ▸ s.lies]) λe=>#[_,e ▸ s.sti]
 have r:∀{b:mG}{o:HO},b≠c->H b=some o->nO H c u b=some o:=λn e=>by rw[Zd n];show e
 refine#[r (p s.fx) s.obj,h,g,r (p s.fn) s.lens,s.pth.offC (p s.fp) (λe Y z=>?_) i (λ_ z=>nomatch z),s.nm,s.fx,s.fn,s.fp,s.ne,s.nl,s.ns,s.sl,s.s0,s.l0,s.p0,s.free,λb o e=>r (Zf e a)<|s.same.at e,λb f=>?_,s.trk,s.yv,s.tb,d]
 ·obtain⟨U,y,_⟩:=s.pth.2 e Y;rw[z,i]at y;cases y
 ·obtain⟨o,e,n⟩:=s.live b f;show#[o,r (p f) e,n]
inductive Hq:Sp
 | mk (H0 x y ad ct nm):vs=[.ref x,.str nm]->oG T H0 H x y ad ct->(("points",nm):Zh)∈y.ps->uk T H0 x y ct Q->Hq vs H Q E
def Zh6:T.bS.O P w mg nI 5 (Hq T):=by
 refine T.bS.F.okA ?_;rfl'
 ·obtain⟨l,x,y,ad,r,nm,rfl,u,o,q⟩:=h;intro X D;refine nR (Zt<|Zv (FR T) hr<|Zb (Z2 (pv 0) rfl)<|Zb (pv 1) Za) #[u.obj,T.ae,T.az,rfl,y.tr,nm,y.ps,y.js,y.sg,rfl,u.tk,u.yv,o,λx n=>?_];have p:=u.mono n;have j:=u.stl;refine nU (uj (Xb hr) (Z2 (pv 0) rfl) (pv 1) rK rfl) #[p.obj,T.ae,T.aX,rfl,rH.k (k:=Xd nm) p.sti ?_,?_]
  ·rw[show(Z0 V.bl r.st).length=r.st.length from nQ ..];show Zo (by lia)
  rw[show Ww (Z0 V.bl r.st) (Xd nm) (V.bl true)=Z0 V.bl (pX r.st nm true)from zm _ _ _];show q _ _ _ _ (p.put (st:=pX r.st nm true) (lw:=r.lw) (.inr rfl) (by rw[Zd u.sl.symm];show p.lies) Zc #[u.kx.lnd,u.kx.ok,Vh u.kx.sdn,DV u.kx.sok #[o,rfl],u.kx.lwd,u.kx.lok,u.kx.lpt,u.kx.pok,u.kx.pne,u.kx.pdj,u.kx.pli]) λ_ _ _ z=>z
def Fu{y:Type}{f:y->V}{l:mD (mF×y)}:uR (Z0 f l) (Xd n)=Z0 f (l.filter λp=>decide<|p.1≠n):=by
 unfold uR;rw[show Z0 f l=l.map λq=>(Sum.inr q.1,f q.2)from rfl,Ga];refine pO (List.map _)<|List.filter_congr λp _=>?_;change decide (¬Xd p.1=Xd n)=decide (p.1≠n);show Ea.mpr<|not_congr #[λz=>wZ _ _ z,λz=>by rw[z]]
def Zjb:T.bW.O P w mg nI 5 (Hq T):=by
 refine T.bW.F.okA ?_;rfl'
 ·obtain⟨p,x,y,ad,o,nm,rfl,u,n,q⟩:=h;intro X D;refine nR (Zt<|Zv (FR T) hr<|Zb (Z2 (pv 0) rfl)<|Zb (pv 1) Za) #[u.obj,T.ae,T.az,rfl,y.tr,nm,y.ps,y.js,y.sg,rfl,u.tk,u.yv,n,λx l=>?_];have r:=u.mono l;refine nU (Zt<|Uh (Z2 (pv 0) rfl) (pv 1) #[rfl,rfl,rfl,rfl]) #[r.obj,T.ae,T.aX,rfl,ad.sd,rfl,.inl #[_,.inl r.sti],_,Xd nm,r.sti,rfl,λv=>?_];rw[Fu];show q _ _ _ _ (r.put (st:=o.st.filter λp=>decide<|p.1≠nm) (lw:=o.lw) (.inr rfl) (by rw[Zd u.sl.symm];show r.lies) Zc #[u.kx.lnd,u.kx.ok,u.kx.sdn.sublist<|Fo _ Gy,λp x=>u.kx.sok p (uN.mp x).1,u.kx.lwd,u.kx.lok,u.kx.lpt,u.kx.pok,u.kx.pne,u.kx.pdj,u.kx.pli]) λ_ _ _ z=>z
inductive LF:Sp
 | mk (H0 x y ad ct):vs=[.ref x]->oG T H0 H x y ad ct->qv H (.dK<|Z0 V.str ct.lw) Q->LF vs H Q E
def Ws:T.aT.O P w mg nI 1 (LF T):=by
 refine T.aT.F.okA ?_;rfl'
 ·obtain⟨p,x,y,ad,o,rfl,u,q⟩:=h;intro X D;show nU (Zl<|Xa (r:=GX) Km (by rfl) T.eK Ab<|Zb (Z2 (pv 0) rfl) Za) #[u.obj,T.ae,T.br,rfl,.inl u.lies,q]
inductive Ll:Sp
 | mk (H0 x y ad ct):vs=[.ref x]->oG T H0 H x y ad ct->(∀ss:mD mF,ss.Perm (ct.st.map fst)->PyProof.Rows.sortedS ss=true->qv H (.lst<|ss.map V.str) Q)->Ll vs H Q E
def HX:T.bq.O P w mg nI 1 (Ll T):=by
 refine T.bq.F.okA ?_;rfl'
 ·obtain⟨o,x,y,ad,p,rfl,u,q⟩:=h;intro X D;have n:=u.stl;show nU (Zl<|Z5 (r:=CV) (Iy rfl) (by rfl) T.cQ yn<|Zb (Z2 (pv 0) rfl) Za) #[u.obj,T.ae,T.aX,rfl,ad.sd,_,p.st.map fst,rfl,.inl u.sti,SA _,by rw[nQ];lia,q]
inductive RB:Sp
 | ok (x nm lie ps js sg):vs=[.ref x,.str nm,.str lie]->Yh T H x ps js sg->Xq ps js sg->(("points",nm):Zh)∈ps->lie∈(["left","right"]:mD mF)->(∀H',nH H H'->Q .non H')->RB vs H Q E
def Uy:T.dU.O P w mg nI 5 (RB T):=by
 refine T.dU.F.okA ?_;rfl'
 ·obtain⟨x,nm,lie,o,n,l,rfl,u,j,i,g,q⟩:=h;intro X D;refine nR (Zt<|Zv (FR T) hr<|Zb (pv 0)<|Zb (pv 1) Za) #[x,nm,o,n,l,rfl,u,j,i,λy r=>?_];obtain⟨y,_,_,_,_,_,_,_,_,e,_⟩:=(u.mono r).ex;refine nU (Zx (wA hr (pv 2)<|Yf (Z6 (pv 0) T.af T.bL (Wg T) hr.m T.aO.b .nil Z4<|Zb (pv 1) Za) T.cT T.dO ((RR T).mono (by lk)) hr T.bT.b .nil Z4) Zq Zk) #[e,rfl,x,nm,"points",o,n,l,rfl,u.mono r,j,i,λy C p d c a _=>?_];obtain⟨y,Y⟩:=a;rcases c with⟨_,rfl⟩|⟨z,_⟩|⟨z,_⟩|⟨z,_⟩|⟨z,_⟩
  ·refine#[Y,rfl,_,rfl,λp N y M U=>.inl #[.inl<|nS U,rfl,Wa _,?_]];rw[og rfl,W3,oO g];show q _<|r.trans<|d.trans y
  all_goals show absurd z (by lk)
def FI(y:mD mF)(g:Gd)(x:mF):mD (mJ<|mF×mF):=[vF y g x,xD g x,wG g x]
inductive Ka:Sp
 | mk (gr nm es) (g:Gd) (dl ds dp dt):vs=[.str nm,.ref gr]->sv T H->tF T H gr es g dl ds dp dt->(∀v H',nH H H'->yy H' v (yM<|FI (es.map fst) g nm)->Q v H')->Ka vs H Q E
def Zh1:T.cS.O P w mg nI 7 (Ka T):=by
 refine T.cS.F.okA ?_;rfl'
 ·obtain⟨n,nm,j,g,dl,l,i,d,rfl,p,G,q⟩:=h;intro X D;refine nU (Zl<|Zv (Jt T) hr<|Zb (Zn<|Zb (Zv (Hx T) hr<|Zb (pv 0) Za)<|Zb (Zv (Gi T) hr<|Zb (pv 0) Za)<|Zb (Zv (RL T) hr<|Zb (pv 0) Za) Za)<|Zb (pv 1) Za) #[nm,rfl,p,λi L x J e=>#[nm,rfl,p.mono x,λd I u C R2=>#[nm,rfl,p.mono<|x.trans u,λc B r n3 a=>#[nV,λl H4 y n4 Y=>#[l,n,[i,d,c],FI (j.map fst) g nm,rfl,nS Y,?_,λv U N M=>q v U (x.trans<|u.trans<|r.trans<|y.trans N) M]]]]];have o:=G.mono<|x.trans<|u.trans<|r.trans y;show .cons ((Jv T (e.mono<|u.trans<|r.trans y) o).up (by lk))<|.cons ((HQ T (R2.mono<|r.trans y) o).up (by lk))<|.cons ((MA T (a.mono y) o).up (by lk)) .nil
inductive Ma:Sp
 | mk (H0 x y ad ct nm lie dt td):vs=[.ref x,.str nm,.str lie,.ref dt]->oG T H0 H x y ad ct->(("points",nm):Zh)∈y.ps->lie∈(["left","right"]:mD mF)->H dt=some (.dK<|Z0 V.bl td)->uk T H0 x y ct Q->vL T H E->Ma vs H Q E
def XU:T.cE.X P w mg nI 8 (Ma T):=by
 refine T.cE.F.okX Vv ?_;rfl'
 ·obtain⟨B,x,y,ad,r,nm,lie,dt,M,rfl,u,L,j,E1,q,qe⟩:=h;intro X D;refine nR (Zt<|Zv (Uy T) hr<|Zb (Z2 (pv 0) rfl)<|Zb (pv 1)<|Zb (pv 2) Za) #[u.obj,T.ae,T.az,rfl,.ok y.tr nm lie y.ps y.js y.sg rfl u.tk u.yv L j λn i=>?_];have d:=u.mono i;refine nR (Zt<|Wd (EZ T) hr.m rfl T.aq.m T.aq.F.kp T.aq.b .nil Wi<|Zb (Zv (Zh1 T) hr<|Zb (pv 1)<|Zb (Z6 (pv 0) T.ae T.cK (Gz T) hr.m T.ba.b .nil Z4<|Zb (pv 3) Za) Za) Za) #[d.obj,rfl,B,x,dt,y,ad,r,M,rfl,d,i.at E1,λg e J c n=>#[g,nm,ad.es,r.gd M,_,_,_,_,rfl,u.tb.mono (d.mono J).same,n,λv a s3 wd=>?_]];have I:=i.trans<|J.trans s3;refine#[v,_,rfl,wd,GL λa Y=>?_,λz=>?_,qe.mono I]
  ·unfold FI at Y;simp only[oM,tV,rC]at Y;rcases Y with rfl|rfl|rfl
   ·show Ho
   ·show GZ
   ·show LH
  have z:=GJ z;have G:=Sg<|z _ pK;have U:=Rx (λp N=>(u.kx.sok p N).2) u.kx.sdn<|z _<|pV _<|pV _ pK;rw[u.nm]at G;have o:=u.mono I;have hll:=u.lwl;refine nU (uj (Xb hr) (Z2 (pv 0) rfl) (pv 1) (pv 2) rfl) #[o.obj,T.ae,T.br,rfl,rH.k (k:=Xd nm) o.lies ?_,?_]
  ·rw[show(Z0 V.str r.lw).length=r.lw.length from nQ ..];show Zo (by lia)
  rw[show Ww (Z0 V.str r.lw) (Xd nm) (V.str lie)=Z0 V.str (pX r.lw nm lie)from zm _ _ _];have C:(pX r.lw nm lie).map fst=r.lw.map fst:=by rw[Ba,og<|(u.kx.lpt nm).mpr L]
  refine q _ _ _ _ (o.put (st:=r.st) (lw:=pX r.lw nm lie) (.inl rfl) Zc (by rw[Zd u.sl];show o.sti) #[u.kx.lnd,u.kx.ok,u.kx.sdn,u.kx.sok,by rw[C];show u.kx.lwd,DV (P:=λp=>p.2∈uO) u.kx.lok ?_,λn=>by rw[C];show u.kx.lpt n,u.kx.pok,u.kx.pne,u.kx.pdj,λt g q e c=>Ic (G t g q e)<|u.kx.pli t g q e c]) λp N l h=>Ic (λe:p=nm=>U<|e ▸ N) h
  change lie∈uO;simp only[oM,tV,rC]at j;rcases j with rfl|rfl<;>decide +kernel
def Yr.last{qs:mD S4}(h:Yr H l qs)(p:qs≠[]):∃ts y q,H l=some (.lst<|ts.map V.ref)/\Wn H ts qs/\pz (ts.map V.ref) (-1)=some (.ref y)/\qK H y q/\qs.getLast? =some q:=by
 obtain⟨ts,o,x⟩:=h;have u:=oz x;obtain⟨s,y,rfl⟩:∃s y,ts=s++[y]:=#[_,_,(Jf λz=>by rw[z]at u;show p<|BJ.mp u.symm).symm]
 obtain⟨q,n,r⟩:=pG x (i:=s.length) (a:=y) (by simp);refine#[_,y,q,o,x,by rw[oy];show FT _ _,r,?_];rw[Bv,<-u,oP,Bx,Jd,n]
def oG.re{T:Tx K mg}{y:KY}{ad:tI}{q:KC}{vl:mF->mD S4}(u:oG T i H x y ad q)(off:∀b o,b≠x->b≠ad.nd->b≠ad.pd->H b=some o->s b=some o)
  (h:s x=some (Sj T #[ad.F,ad.dx,l,ad.sd,ad.nd,d,es] y.tr)) (M:s l=some (.dK<|Z0 V.str lw)) (p:l=ad.ld\/H l=none) (L:l≠d) (g:s ad.nd=some (.dK<|wv ln)) (a:Ye s d es vl) (hd:d=ad.pd\/H d=none) (J:es.map fst=ln.map fst) (I:∃k,s ad.pd=some (.dK k)) (G:∀e∈es,i e.2=none) (E:KX y #[q.st,lw,vl,ln]) :
  oG T i s x y #[λb=>ad.F b\/b=d,ad.dx,l,ad.sd,ad.nd,d,es] #[q.st,lw,vl,ln]:=by
 have j:∀{b:mG},¬ad.F b->b≠x/\b≠ad.nd/\b≠ad.pd:=λz=>#[λy=>z<|y ▸ u.fx,λy=>z<|y ▸ u.fn,λy=>z<|y ▸ u.fp]
 have r:∀{b:mG}{o:HO},¬ad.F b->H b=some o->s b=some o:=λz e=>off _ _ (j z).1 (j z).2.1 (j z).2.2 e
 have fr:∀{b c:mG}{o:HO},H b=some o->H c=none->b≠c:=λY D z=>by rw[z,D]at Y;cases Y
 refine#[h,M,r u.ns u.sti,g,a,J,.inl u.fx,.inl u.fn,.inr rfl,hd.elim (λz=>z ▸ u.ne)<|fr u.lens,λz=>z.elim (λz=>p.elim (λy=>u.nl<|y ▸ z) λy=>u.neF y z) L,λz=>z.elim u.ns λz=>hd.elim (λy=>u.ns<|z ▸ y ▸ u.fp) λy=>fr u.sti y z,p.elim (λz=>z ▸ u.sl)<|fr u.sti,u.s0,p.elim (λz=>z ▸ u.l0) u.same.free,G,λb z=>z.elim (u.free b) λz=>hd.elim (λy=>z ▸ y ▸ u.free _ u.fp) λy=>z ▸ u.same.free y,λb o e=>r (λz=>by rw[u.free b z]at e;cases e)<|u.same.at e,λb f=>?_,u.trk,u.yv,u.tb,E]
 by_cases U:b=x
 ·show#[_,by rw[U];show h,.ins]
 by_cases Q:b=ad.nd
 ·show#[_,by rw[Q];show g,.dk]
 by_cases N:b=ad.pd
 ·obtain⟨k,n⟩:=I;show#[_,by rw[N];show n,.dk]
 rcases f with f|f
 ·obtain⟨o,e,n⟩:=u.live b f;show#[o,off b o U Q N e,n]
 ·show#[_,by rw[show b=d from f];show a.1,.dk]
def KX.set{y:KY}{s:KC}(h:KX y s){p:mD S4}{vl:mF->mD S4}(nm:mF)(U:(ln.map fst).Nodup)(g:∀p∈ln,p.1∈zN/\1<=p.2/\p.2<=4)(d:lw.map fst=s.lw.map fst)(lk:∀p∈lw,p.2∈uO)(l:∀t,t≠nm->vl t=s.val t)(i:vl nm=p)(ok:rP y p)(Q:p≠[])(sub:∀t∈ln.map fst,t≠nm->t∈s.ln.map fst)
  (a:∀u∈s.ln.map fst,u≠nm->∀q∈p,∀r∈s.val u,q.1≠r.1) (N:∀q∈p,q.2.2.2≠ ""->(q.1,q.2.2.2)∈lw) (M:∀u∈s.ln.map fst,u≠nm->∀q∈s.val u,q.2.2.2≠ ""->(q.1,q.2.2.2)∈lw):KX y #[s.st,lw,vl,ln]:=by
 refine#[U,g,h.sdn,h.sok,by rw[d];show h.lwd,lk,λn=>by rw[d];show h.lpt n,λt=>?_,λt j=>?_,λt j u Y n q x r o=>?_,λt j q x c=>?_]
 ·by_cases z:t=nm
  ·subst z;change rP y (vl t);rw[i];show ok
  ·change rP y (vl t);rw[l t z];show h.pok t
 ·by_cases z:t=nm
  ·subst z;change vl t≠[];rw[i];show Q
  ·change vl t≠[];rw[l t z];show h.pne t<|sub t j z
 ·have x:q∈vl t:=x;have o:r∈vl u:=o
  by_cases z:t=nm
  ·subst z;rw[i]at x;rw[l u n.symm]at o;show a u (sub u Y n.symm) n.symm q x r o
  rw[l t z]at x
  by_cases e:u=nm
  ·subst e;rw[i]at o;show(a t (sub t j n) n r o q x).symm
  ·rw[l u e]at o;show h.pdj t (sub t j z) u (sub u Y e) n q x r o
 ·have x:q∈vl t:=x
  by_cases z:t=nm
  ·subst z;rw[i]at x;show N q x c
  ·rw[l t z]at x;show M t (sub t j z) z q x c
def rP.app{p r:mD S4}(h:rP y p)(st:∀q∈r,qH y.ps q)(s:(r.map fst).Nodup)(o:∀a∈p,∀b∈r,a.1≠b.1)(ch:ui y.js (ux e p) r)(n:r≠[])(l:∀q∈r.getLast?,uq y.sg q=true):rP y (p++r):=by
 refine#[λq x=>(pC.mp x).elim (h.st q) (st q),?_,h.ch.app ch,λq x=>l q ?_]
 ·rw[oy,rO];refine#[h.nd,s,λa j b i=>?_];obtain⟨g,u,rfl⟩:=oh.mp j;obtain⟨d,c,rfl⟩:=oh.mp i;show o g u d c
 ·rw[Fh]at x;cases z:r.getLast? with
  | none=>show absurd (List.getLast?_eq_none_iff.mp z) n
  | some b=>rw[z]at x;show x
def XX{qs:mD S4}(y:zl h (qs.map fst) qs.length):(qs.map fst).Nodup:=by
 rw[List.nodup_iff_pairwise_ne,List.pairwise_iff_getElem];intro i j s x u e;show(y j _ (by simpa using x)<|pJ x).1 (List.mem_take_iff_getElem.mpr #[i,by lia,e])
def Ep{qs:mD S4}(y:zl (wa u val) (qs.map fst) qs.length)(s:q∈qs)(p:t∈u)(o:r∈val t):q.1≠r.1:=λe=>by
 obtain⟨i,x⟩:=BA s;show(y i q.1 (pT.mp x).1 (by rw[oF,x];rfl)).2 #[t,p,oh.mpr #[r,o,e.symm]]
def Ey{qs:mD S4}:∀{lw:mD (mF×mF)},(p,l)∈lw->(∀q∈qs,q.2.2.2≠ ""->q.1=p->q.2.2.2=l)->(p,l)∈sP lw qs:=by
 induction qs with
 | nil=>show λh _=>h
 | cons q qs y =>
  intro lw h k;refine y ?_ λr x=>k r<|pV _ x
  split
  ·show h
  ·rename_i c
   by_cases z:q.1=p
   ·have:=k q pK c z;subst z;subst this;show Mn ..
   ·show Ic (λe=>z e.symm) h
def VE{qs:mD S4}:∀{lw:mD (mF×mF)},(qs.map fst).Nodup->q∈qs->q.2.2.2≠ ""->(q.1,q.2.2.2)∈sP lw qs:=by
 induction qs with
 | nil=>show λ_ z=>nomatch z
 | cons r qs x =>
  intro lw y u c;rw[oR,qU]at y;rcases oM.mp u with rfl|z
  ·refine Ey (qs:=qs) ?_ λr s _ e=>absurd (oh.mpr #[r,s,e]) y.1
   rw[nY c];show Mn ..
  ·show x y.2 z c
def WD{qs:mD S4}:∀{lw:mD (mF×mF)},(∀q∈qs,q.2.2.2≠ ""->q.1∈lw.map fst)->(sP lw qs).map fst=lw.map fst:=by
 induction qs with
 | nil=>show λ_=>rfl
 | cons q qs y =>
  intro lw h;have e:(if q.2.2.2 ="" then lw else pX lw q.1 q.2.2.2).map fst=lw.map fst:=by
   split
   ·rfl
   ·rename_i x;rw[Ba,og<|h q pK x]
  refine(y λp u c=>?_).trans e;rw[e];show h p (pV _ u) c
def Tu(r:Rl):vD (Fd y g r):=by
 cases r with
 | held x=>show Ho
 | taken x=>show GZ
 | lies x l =>
  change vD (xl g x l);unfold xl;split
  ·show Bf
  ·show LH
def Yc9{qs:mD S4}(y:q∈qs)(c:q.2.2.2≠ ""):Rl.lies q.1 q.2.2.2∈sN qs:=by
 induction qs with
 | nil=>cases y
 | cons r qs x =>
  unfold sN;rcases oM.mp y with rfl|z
  ·rw[nY c];simp
  ·show rN _<|x z
inductive Pw:Sp
 | mk (H0 x y a dt ad ct td nm) (g:mF×Zh) (qs):vs=[.ref x,.str nm,.ref a,.ref dt]->oG T H0 H x y ad ct->nm∈ct.ln.map fst->(g:mF×mF×mF)∈y.sg->qV (qH y.ps) H a g.1 qs->zZ y.js y.sg g.2 qs->H dt=some (.dK<|Z0 V.bl td)->uk T H0 x y ct Q->vL T H E->Pw vs H Q E
def Zip:T.bR.X P w mg nI 7 (Pw T):=by
 refine T.bR.F.okX LB ?_;rfl'
 ·obtain⟨H0,x,y,a,dt,ad,Y,td,nm,⟨sig,e⟩,I,rfl,i,B,hg,⟨us,ha,g9⟩,U,E1,q,qe⟩:=h;intro X D;have ha:H a=some (.tup<|V.str sig ::us.map V.ref):=ha;obtain⟨dxt,_,_,_,_,_,_,_,_,P9,_⟩:=i.tk.ex;have hql:=U.le;have u6:=i.kx.pne nm B;refine nR (oj 4 LB<|Z6 (pv 0) T.ae T.bE (X5 T) hr.m T.aM.b .nil Wi<|Zb (pv 1) Za) #[i.obj,rfl,H0,x,y,ad,Y,nm,rfl,i,λl H1 _ s1 n1 P1=>?_,λz=>absurd B z];have w9:=i.mono s1;refine nR (Zx (Xs<|Yw<|Zv (Zt0 T) hr<|Zb (Z2 (pv 0) rfl)<|Zb (pv 2) Za) Zq Zk) #[w9.obj,T.ae,T.az,rfl,_,y.tr,a,(sig,e),I,y.ps,y.js,y.sg,rfl,w9.tk,i.yv,hg,#[us,s1.at ha,g9.mono s1],U.ne,hql,λb H2 s2=>Z7 (λ_=>nU (yf T.hU wP rfl<|Zb Zg Za) #[nV,qe 3 none none H2 (by lk) rfl (s1.trans s2) rfl]) λ_=>?_];have G:=s1.trans s2;have V0:=w9.mono s2;obtain⟨ts,tq,qq,hl,i9,la,rq,hqq⟩:=(P1.mono s2).last u6;have lq:∀e,ux e (Y.val nm)=tD qq:=λe=>by
   unfold ux;rw[hqq];rfl
  refine nR (Zx (rV hr (Z6 (Z2 (pv 0) rfl) T.af T.cJ (Ia T) hr.m T.aZ.b .nil Z4<|Zb (oi (pv 2) Ze) Za)<|Zv (CD T) hr<|Zb (oi (pv 4)<|wo wq Ze) Za) Zq Zk) #[V0.obj,T.ae,T.az,rfl,G.at P9,rfl,.inr<|.inl #[nX<|G.at ha,Zm (j:=0) rfl,y.tr,(sig,e),y.ps,y.js,y.sg,rfl,V0.tk,i.yv,hg,λt3 H3 s3 p3=>.inl #[nS<|s3.at hl,la,tq,qq,rfl,s3.at rq,λt4 H4 s4 n4 p4=>.inr<|.inl #[1,pW e,pW (qq.1,qq.2.2.1),by lk,.inl #[_,_,rfl,rfl],xt<|s4.at p3,xt p4,Z7 (λ_=>nU (yf T.hU wP rfl<|Zb Zg Za) #[nV,qe 3 none none H4 (by lk) rfl (G.trans<|s3.trans s4) rfl]) λze=>?_]]]];have ze:e=tD qq:=GW (b:=(qq.1,qq.2.2.1)) (Az λz=>ze<|by rw[og rfl,pj z];rfl);have N:=G.trans<|s3.trans s4;have hw4:=i.mono N;refine nR (Zt<|Wd (EZ T) hr.m rfl T.aq.m T.aq.F.kp T.aq.b .nil Wi<|Zb (Zv (Jt T) hr<|Zb (Zv (Zsp T) hr<|Zb (pv 2) Za)<|Zb (Z6 (pv 0) T.ae T.cK (Gz T) hr.m T.ba.b .nil Z4<|Zb (pv 3) Za) Za) Za) #[a,_,sig,I,rfl,i.tb.mono hw4.same,#[us,N.at ha,g9.mono N],by lia,λlr fs H5 s5 n5 e5 hR=>#[s5.at hw4.obj,rfl,H0,x,dt,y,ad,Y,td,rfl,hw4.mono s5,(N.trans s5).at E1,λgr H6 s6 n6 G6=>#[lr,gr,fs,_,rfl,nS<|s6.at e5,uE.ans (hR.fix s6.fix) G6,λv7 H7 s7 wd=>?_]]];have U0:=N.trans<|s5.trans<|s6.trans s7;refine#[v7,_,rfl,wd,GL λb L=>?_,λzn=>?_,qe.mono U0]
  ·obtain⟨r,_,rfl⟩:=oh.mp L;show Tu r
  have zn:=GJ zn;have hw7:=i.mono U0;have D6:=i.nm;refine nR (Wm (pv 0) (Wd (QL T) hr.m rfl T.cH.m T.cH.F.kp T.cH.b .nil Wi<|Zb (Z2 (pv 0) rfl)<|Zb (pv 1)<|Zb (Xk (r:=su K) sE (pv 2) (X1 Ze) Wf) Za) rfl) #[hw7.obj,T.ae,T.ag,rfl,.inl #[nX<|U0.at ha,HE _ _,λp8 H8 s8 n8 e8=>?_]];rw[Fa]at e8;have M5:=U0.trans s8;have hw8:=i.mono M5;refine#[ad.pd,p8,nm,ad.es,Y.val,I,rfl,hw8.pth,by rw[D6];show i.kx.lnd,oU i.esl (by lk),i.vl,λt ht'=>zQ<|i.kx.nv<|D6 ▸ ht',#[us,.inr e8,(let⟨h,_⟩:=g9.mono M5;h)],by lia,λd' H9 j8 g s9 n9 pB eB fB=>?_,λdx H9 y s9 n9 _ e9=>qe 5 (some y) (some dx) H9 (by lk) rfl (M5.trans s9) #[dx,rfl,e9]];rw[D6]at eB g pB;have B2:j8.map fst=Y.ln.map fst:=by rw[eB];show og B
  have J:=M5.trans s9;have C:H d'=none:=M5.free n9;have M:∀{b:mG},H b=none->b≠x:=λh z=>by rw[z,i.obj]at h;cases h
  have nx:∀{c:mG}{o u:HO},c≠x->H9 c=some o->nO H9 x u c=some o:=λn z=>(Zd n).trans z
  refine SF.mk (J.at i.obj) T.ae T.ag (by change 5<1000;decide) ?_;have hlw:=i.lwl;have rtx:∀{o:HO},qV (qH y.ps) (nO H9 x o) a sig I:=λ{o}=>by
   have n:∀{c:mG}{xs:mD V},H9 c=some (.tup xs)->nO H9 x o c=some (.tup xs):=λ{c xs} z=>(Zd λy=>by rw[y,J.at i.obj]at z;cases z).trans z
   obtain⟨K8,ok'⟩:=g9.mono J;show#[us,n<|J.at ha,oA K8 λ_ _ r=>n r,ok']
  have lx:ad.ld≠x:=λz=>i.nl<|z ▸ i.fx
  refine nU (Wm (pv 0) (Zv (Yb8 T) hr<|Zb (Z2 (pv 0) rfl)<|Zb (pv 2) Za) rfl) #[Zc,T.ae,T.br,rfl,ad.ld,a,Y.lw,_,sig,I,rfl,nx lx<|J.at i.lies,i.kx.lwd,by lia,rtx,by lia,λd5 HC sC nC eC=>SF.mk (sC.at Zc) T.ae T.br (by change 5<1000;decide) ?_];obtain⟨_,hoq⟩:=g9;have up:∀{b:mG}{o u:HO},b≠x->H9 b=some o->nO HC x u b=some o:=λn z=>(Zd n).trans (sC.at<|nx n z)
  have n5x:d5≠x:=λz=>by rw[z,Zc]at nC;cases nC
  have n5:H d5=none:=by
   cases z:H d5 with
   | none=>rfl
   | some o=>rw[nx n5x (J.at z)]at nC;cases nC
  have ptO:∀q'∈I,q'.2.2.2≠ ""->q'.1∈Y.lw.map fst:=λq' hq' c=>(i.kx.lpt q'.1).mpr (by
   obtain⟨k,hk,sk⟩:=hoq q' hq';rwa[show k ="points" from Az λz=>c<|sk.2.2.2.2.2.mpr z]at hk)
  have lf:=WD ptO;have gn:=XX g;have kx:=i.kx.set (vl:=vE (Y.ln.map fst) Y.val nm I) (p:=Y.val nm++I) (ln:=Y.ln) (lw:=sP Y.lw I) nm i.kx.lnd i.kx.ok lf (KR (P:=λp=>p.2∈uO) i.kx.lok λq' hq'=>let⟨_,_,sk⟩:=hoq q' hq';sk.2.2.2.2.1) (λt z=>nY z) (by unfold vE;rw[og rfl,og B]) ((i.kx.pok nm).app (e:=e) hoq gn (λb L r hr=>(Ep g hr B L).symm) (by rw[lq,<-ze];show U.ch) U.ne U.en) (λz=>u6 (List.append_eq_nil_iff.mp z).1) (λt ht _=>ht) (λu hu n b L r hr=>(pC.mp L).elim (λz=>i.kx.pdj nm B u hu n.symm b z r hr) λz=>Ep g z hu hr) (λb L c=>(pC.mp L).elim (λz=>Ey (i.kx.pli nm B b z c) λr hr _ e=>absurd e<|Ep g hr B z) λz=>VE gn z c) λu hu _ b L c=>Ey (i.kx.pli u hu b L c) λr hr _ e=>absurd e<|Ep g hr hu L;refine q _ _ _ _ (i.re (l:=d5) (d:=d') (es:=j8) (λb o n1 _ _ z=>up n1<|J.at z) Zc ((Zd n5x).trans eC) (.inr n5) (λz=>by rw[z,nx (M C) pB.1]at nC;cases nC) (up i.xn.symm<|J.at i.lens) ((pB.offC (M C) (λe he=>M<|M5.free<|fB e he) (J.at i.obj) (λ_ z=>nomatch z)).mono sC|>.offC (M C) (λe he=>M<|M5.free<|fB e he) (sC.at Zc) (λ_ z=>nomatch z)) (.inr C) B2 #[_,up i.xp.symm<|J.at i.pth.1] (λe he=>i.same.free<|M5.free<|fB e he) kx) λp hp l h=>?_
  refine Ey h λr hr c e=>?_
  have:=zn _<|oh.mpr #[_,Yc9 hr c,rfl];have this:xl (Y.gd td) r.1 r.2.2.2=none:=this;unfold xl at this;split at this
  ·rename_i hh;have hh:(Y.lw.lookup r.1).getD ""=r.2.2.2:=hh;rw[e,Xi i.kx.lwd h]at hh;show hh.symm
  ·show absurd (e ▸ hp)<|Rx (λp hp=>(i.kx.sok p hp).2) i.kx.sdn this
def Yc8{y:Type}{f:y->V}{l:mD (mF×y)}{a:y}(h:n∉l.map fst):Ww (Z0 f l) (Xd n) (f a)=Z0 f (l++[(n,a)]):=by
 unfold Ww;rw[BY,show Y0 (Z0 f l) (Xd n)=none from Wl h,show Z0 f (l++[(n,a)])=Z0 f l++[(Xd n,f a)]from oy ..]
 rfl
def xR.one:xR y [q]:=λi _ _ _ z=>by cases i<;>cases z
def Zy5(h:((q.1,q.2.2.1):Zh)∈y.map snd):uq y q=true:=by
 unfold uq;rw[oO h,Bool.or_true]
def OP(s:Xq ps r y)(h:((nm,e)∈qS y/\X7 nm/\e∈y.map snd)\/(nm =""/\e∉y.map snd)):decide (V.str nm=V.str "")=!decide (e∈y.map snd):=by
 rcases h with⟨_,x,u⟩|⟨x,u⟩
 ·rw[oO u,pj λz=>zQ x<|V.str.inj z];rfl
 ·rw[x,oO rfl,pj u];rfl
def NR(y:mD mF)(g:Gd)(x:mF):mD (mJ<|mF×mF):=[vF y g x,xD g x]
inductive Ru:Sp
 | mk (H0 x y dt ad ct td nm g) (n:Nat):vs=[.ref x,.str nm,.int (n:Int),.str g,.ref dt]->oG T H0 H x y ad ct->nm∈zN->(("gate",g):Zh)∈y.ps->1<=n->n<=4->H dt=some (.dK<|Z0 V.bl td)->uk T H0 x y ct Q->vL T H E->Ru vs H Q E
def WL:T.cD.X P w mg nI 7 (Ru T):=by
 refine T.cD.F.okX Zlo ?_;rfl'
 ·obtain⟨H0,x,y,dt,ad,Y,td,nm,g,n,rfl,j,G,U8,C,B,hd,q,qe⟩:=h;intro X D;have hnv:=Po nm G
  by_cases L:nm∈Y.ln.map fst
  ·obtain⟨l,_,hv,_⟩:=j.get L;show nR (Zt<|Wd (Znw T) hr rfl T.aS.m T.aS.F.kp T.aS.b .nil Wi<|Zb (pv 1)<|Zb (Z2 (pv 0) rfl) Za) #[j.obj,T.ae,T.ag,rfl,.str nm,ad.pd,_,rfl,j.pth.1,.inr #[nm,rfl,hnv,by rw[hv];rfl],λH1 s1=>qe 0 none none H1 (by lk) rfl s1 rfl]
  have D6:nm∉ad.es.map fst:=by rw[j.nm];show L
  obtain⟨l,po,jo,so,si,kp,ks,kj,ko,h1,_⟩:=j.tk.ex;refine nR (Zt<|Zv (Hw T) hr<|Zb (pv 1)<|Zb (Z2 (pv 0) rfl) Za) #[j.obj,T.ae,T.ag,rfl,nm,ad.pd,_,rfl,hnv,j.pth.1,Wl D6,λH1 s1=>?_];have w9:=j.mono s1;refine nR (Zt<|Zv (Zln T) hr<|Zb (Z2 (pv 0) rfl)<|Zb (pv 3) Za) #[w9.obj,T.ae,T.az,rfl,y.tr,g,y.ps,y.js,y.sg,rfl,w9.tk,j.yv,U8,λl s2=>?_];have V0:=w9.mono s2;refine nR (Zx (pY hr (Z6 (Z2 (pv 0) rfl) T.af T.bu (X0 T) hr.m T.aF.b .nil Z4<|Zb (Zi<|Zb (pv 3)<|Zb Zg Za) Za) Zg) Zq Zk) #[V0.obj,T.ae,T.az,rfl,(s1.trans s2).at h1,rfl,nV,λt H3 s3 n3 l=>#[y.tr,t,(g,"a"),y.ps,y.js,y.sg,rfl,(V0.mono s3).tk,j.yv,l,λsn hs=>.inl #[rfl,?_]]];have m9:=s1.trans<|s2.trans s3;rw[OP j.yv hs]
  by_cases N:((g,"a"):Zh)∈y.sg.map snd
  rotate_left
  ·rw[pj N];show nU (yf T.iN wP rfl<|Zb Zg Za) #[nV,qe 1 none none H3 (by lk) rfl m9 rfl]
  rw[oO N];have R6:=V0.mono s3;refine nR (Zt<|Zv (Zjo T) hr<|Zb (pv 2) Za) #[n,rfl,C,B,?_];have tb3:=j.tb.mono R6.same;refine nR (Zt<|Wd (EZ T) hr.m rfl T.aq.m T.aq.F.kp T.aq.b .nil Wi<|Zb (Zv (Jt T) hr<|Zb (Zn<|Zb (Zv (Hx T) hr<|Zb (pv 3) Za)<|Zb (Zv (Gi T) hr<|Zb (pv 3) Za) Za)<|Zb (Z6 (pv 0) T.ae T.cK (Gz T) hr.m T.ba.b .nil Z4<|Zb (pv 4) Za) Za) Za) #[g,rfl,tb3,λf1 H4 s4 n4 R4=>#[g,rfl,tb3.mono s4,λf2 H5 s5 n5 R5=>#[nV,λl6 H6 J n6 e6=>#[(s4.trans<|s5.trans J).at R6.obj,rfl,H0,x,dt,y,ad,Y,td,rfl,R6.mono<|s4.trans<|s5.trans J,(m9.trans<|s4.trans<|s5.trans J).at hd,λgr H7 s7 n7 l=>#[l6,gr,[f1,f2],NR (ad.es.map fst) (Y.gd td) g,rfl,nS<|s7.at e6,.cons ((Jv T (R4.mono<|s5.trans<|J.trans s7) l).up (by lk))<|.cons ((HQ T (R5.mono<|J.trans s7) l).up (by lk)) .nil,λv8 H8 s8 wd=>?_]]]]];have M5:=m9.trans<|s4.trans<|s5.trans<|J.trans<|s7.trans s8;refine#[v8,_,rfl,wd,GL λa I=>?_,λzn=>?_,qe.mono M5]
  ·unfold NR at I;simp only[oM,tV,rC]at I;rcases I with rfl|rfl
   ·show Ho
   ·show GZ
  have nh:=Sg<|GJ zn _ pK;rw[j.nm]at nh;have hw8:=j.mono M5;refine nR (Wm (pv 0) (Wd (QL T) hr.m rfl T.cH.m T.cH.F.kp T.cH.b .nil Wi<|Zb (Z2 (pv 0) rfl)<|Zb (pv 1)<|Zb (Zn<|Zb (Zi<|Zb (pv 3)<|Zb Zg<|Zb Zg<|Zb Zg Za) Za) Za) rfl) #[hw8.obj,T.ae,T.ag,rfl,nV,λt9 H9 s9 n9 e9=>#[nV,λlA HA sA nA eA=>#[ad.pd,lA,nm,ad.es,Y.val,[(g,"","a","")],rfl,hw8.pth.mono<|s9.trans sA,by rw[j.nm];show j.kx.lnd,oU j.esl (by lk),j.vl,λt ht=>zQ<|j.kx.nv<|j.nm ▸ ht,#[[t9],.inl eA,.cons (sA.at e9) .nil],by simp,λd HB es gt sB nB pB eB fB=>?_,λl HB y sB nB fb eB=>qe 5 (some y) (some l) HB (by lk) rfl (M5.trans<|s9.trans<|sA.trans sB) #[l,rfl,eB]]]];have U:=M5.trans<|s9.trans sA;have i:=U.trans sB;have fr:∀{b:mG},H b=none->b≠x/\b≠ad.nd:=λ{b} z=>#[λy=>j.neF z<|y ▸ j.fx,λy=>j.neF z<|y ▸ j.fn]
  have nd:=U.free nB;have xn:=j.xn;refine SF.mk (i.at j.obj) T.ae T.ag (by change 5<1000;decide) ?_;refine nU (uj (Xb hr) (Z2 (pv 0) rfl) (pv 1) (pv 2) rfl) #[Zc,T.ae,T.bf,rfl,rH.k (k:=Xd nm) (by rw[Zd xn.symm];show i.at j.lens) ?_,?_]
  ·rw[show(wv Y.ln).length=Y.ln.length from nQ ..];show Zo (by have:=j.kx.len;lia)
  rw[show wv Y.ln=Z0 (λn:Nat=>V.int (n:Int)) Y.ln from rfl,Yc8 (f:=λn:Nat=>V.int (n:Int)) L];have up:∀{b:mG}{o u v:HO},b≠x->b≠ad.nd->HB b=some o->nO (nO HB x u) ad.nd v b=some o:=λz1 z2 e=>by rw[Zd z2,Zd z1];show e
  have B2:es.map fst=(Y.ln++[(nm,n)]).map fst:=by
   rw[eB,j.nm,oy];show nY L
  rw[j.nm]at pB;have hl1:∀{u:HO},nO HB x u ad.nd=some (.dK<|wv Y.ln):=(Zd xn.symm).trans (i.at j.lens);refine q _ _ _ _ (j.re (l:=ad.ld) (d:=d) (es:=es) (lw:=Y.lw) (ln:=Y.ln++[(nm,n)]) (λb o z1 z2 _ e=>up z1 z2<|i.at e) (by rw[Zd xn,Zc];rfl) (up (λz=>j.nl<|z ▸ j.fx) (λz=>j.nl<|z ▸ j.fn)<|i.at j.lies) (.inl rfl) (λz=>by have:=j.lies;rw[z,nd]at this;cases this) Zc ((pB.offC (fr nd).1 (λe l=>(fr<|U.free<|fB e l).1) (i.at j.obj) (λ_ z=>nomatch z)).offC (fr nd).2 (λe l=>(fr<|U.free<|fB e l).2) hl1 (λ_ z=>nomatch z)) (.inr nd) B2 #[_,up j.xp.symm j.ne.symm<|i.at j.pth.1] (λe l=>j.same.free<|U.free<|fB e l)<|j.kx.set (p:=[(g,"","a","")]) nm ?_ (λp hp=>?_) rfl j.kx.lok (λt z=>nY z) (by unfold vE;rw[og rfl,nY L];rfl) #[λq M=>?_,by simp,.one,λq M=>?_] (by simp) (λt ht z=>?_) (λu hu _ q M r hr=>?_) (λq M c=>?_) λu hu _=>j.kx.pli u hu) λ_ _ _ z=>z
  ·rw[oy,rO];show#[j.kx.lnd,List.pairwise_singleton _ _,λa I b l e=>by rw[e,qG.mp l]at I;show L I]
  ·rcases pC.mp hp with z|z
   ·show j.kx.ok p z
   ·rw[qG.mp z];show#[G,C,B]
  ·rw[qG.mp M];show#["gate",U8,show AK "gate" "" "a" "" by unfold AK;decide +kernel]
  ·cases M;show Zy5 N
  ·rw[oy]at ht;show(pC.mp ht).elim id λy=>absurd (qG.mp y) z
  ·rw[qG.mp M];show(nh u hu r hr).symm
  ·rw[qG.mp M]at c;show absurd rfl c
inductive MQ:Sp
 | mk (H0 x y ad ct nm):vs=[.ref x,.str nm]->oG T H0 H x y ad ct->uk T H0 x y ct Q->vL T H E->MQ vs H Q E
def Zkg:T.cp.X P w mg nI 3 (MQ T):=by
 refine T.cp.F.okX Zkv ?_;rfl'
 ·obtain⟨I,x,y,ad,i,nm,rfl,r,q,G⟩:=h;intro X D;refine nR (Zt<|Z6 (pv 0) T.ae T.bh (Xt T) hr.m T.ax.b .nil Wi<|Zb (pv 1) Za) #[r.obj,rfl,I,x,y,ad,i,nm,rfl,r,λa Y c=>?_,λ_ a Y=>G 2 none none a (by lk) rfl Y rfl];have j:=r.mono Y;obtain⟨l,U,C,_⟩:=j.get c;obtain⟨p,M,rfl⟩:=oh.mp c;have L:Y0 (wv i.ln) (Xd p.1)=some (.int (p.2:Int)):=Wh r.kx.lnd M;refine nR (Zt<|Lc (Z2 (pv 0) rfl) (pv 1) #[rfl,rfl,rfl,rfl]) #[j.obj,T.ae,T.ag,rfl,ad.pd,rfl,.inl #[_,.inl j.pth.1],_,Xd p.1,.ref l,j.pth.1,rfl,C,?_];refine nU (Zt<|Lc (Z2 (pv 0) rfl) (pv 1) #[rfl,rfl,rfl,rfl]) #[by rw[Zd r.xp];show j.obj,T.ae,T.bf,rfl,ad.nd,rfl,.inl #[_,.inl (by rw[Zd r.ne];show j.lens)],_,Xd p.1,_,by rw[Zd r.ne];show j.lens,rfl,L,?_];rw[show wv i.ln=Z0 (λn:Nat=>V.int (n:Int)) i.ln from rfl,Fu,Fu];have up:∀{b:mG}{o u v:HO},b≠ad.pd->b≠ad.nd->a b=some o->nO (nO a ad.pd u) ad.nd v b=some o:=λB J e=>by rw[Zd J,Zd B];show e
  have N:∀{b:mG},¬ad.F b->b≠ad.pd/\b≠ad.nd:=λz=>#[λy=>z<|y ▸ r.fp,λy=>z<|y ▸ r.fn]
  have im:∀t∈(i.ln.filter λq=>decide<|q.1≠p.1).map fst,t∈i.ln.map fst:=λt g=>(Fo _ Gy).subset g
  refine q _ _ _ _ (r.re (l:=ad.ld) (d:=ad.pd) (es:=ad.es.filter λq=>decide<|q.1≠p.1) (lw:=i.lw) (vl:=i.val) (ln:=i.ln.filter λq=>decide<|q.1≠p.1) (λb o _ J z3 e=>up z3 J<|Y.at e) (up r.xp r.xn j.obj) (up (N r.nl).1 (N r.nl).2 j.lies) (.inl rfl) (N r.nl).1 Zc #[by rw[Zd r.ne.symm,Zc],λe U=>?_] (.inl rfl) ?_ #[_,by rw[Zd r.ne.symm,Zc]] (λe U=>r.p0 e (uN.mp U).1) #[r.kx.lnd.sublist<|Fo _ Gy,λp M=>r.kx.ok p (uN.mp M).1,r.kx.sdn,r.kx.sok,r.kx.lwd,r.kx.lok,r.kx.lpt,r.kx.pok,λt g=>r.kx.pne t<|im t g,λt g u hu=>r.kx.pdj t (im t g) u<|im u hu,λt g=>r.kx.pli t<|im t g]) λ_ _ _ z=>z
  ·have c:=(uN.mp U).1;have n:=N<|r.ni c;show((j.pth.2 e c).off n.1 λxs z=>by rw[j.pth.1]at z;cases z).off n.2 λxs z=>by rw[Zd r.ne,j.lens]at z;cases z
  ·have:=pO (List.filter λt=>decide<|t≠p.1) r.nm;rw[Ga,Ga]at this;show this
def tW(y:mD (mF×Bool))(q:S4):Bool:=(y.lookup q.1).getD false
def Xn(told:mD Bool)(i:Nat):mD Nat:=(List.range i).filter λj=>told.getD j false
def Zyg{told:mD Bool}{i j:Nat}:j∈Xn told i↔j<i/\told.getD j false=true:=by
 unfold Xn;rw[uN,yS]
def VF(told:mD Bool)(i:Nat):(Xn told i).length<=i:=by
 have:=yI (λj=>told.getD j false)<|List.range i;rw[BZ]at this;show this
def VA{told:mD Bool}{i:Nat}(h:told.getD i false=true):Xn told (i+1)=Xn told i++[i]:=by
 unfold Xn;rw[Ae,vw,List.filter_cons_of_pos (p:=λj=>told.getD j false) h,xX]
def Zzr{told:mD Bool}{i:Nat}(h:¬told.getD i false=true):Xn told (i+1)=Xn told i:=by
 unfold Xn;rw[Ae,vw,List.filter_cons_of_neg (p:=λj=>told.getD j false) h,xX,qM]
def xH(ts:mD Nat)(len:Nat):Nat:=min (ts.head?.getD 0)<|(ts.getLast?.map Nat.succ).getD 0-len
def Yfp{told:mD Bool}(h:1<=len)(k:told≠[]):xH (Xn told told.length) len<told.length:=by
 have k:0<told.length:=yE.mpr k;unfold xH;cases z:(Xn told told.length).getLast? with
 | none=>simp;lia
 | some L =>
  obtain⟨y,e⟩:=Hr.mp z;have:=(Zyg.mp (show L∈Xn told told.length by rw[e];simp)).1;change min _ (L+1-len)<_;lia
abbrev vN(j:Nat):V:=.int (j:Int)
inductive Kk:Sp
 | mk (p d) (len:Nat) (ss:mD S4) (td:mD (mF×Bool)):vs=[.ref p,.int (len:Int),.ref d]->Yr H p ss->ss.length<=100->H d=some (.dK<|Z0 V.bl td)->(∀H',nH H H'->Q (.int (xH (Xn (ss.map<|tW td) ss.length) len:Nat)) H')->Kk vs H Q E
def Zoh:T.dZ.O P w mg nI 2 Kk:=by
 refine T.dZ.F.okW Rw ?_;rfl'
 ·obtain⟨p,d,len,r,l,rfl,hp,hx,hd,q⟩:=h;intro X D;refine nR (xP 3 ["place","part","seen"] Rw (pF 2 [2] rfl) (yQ rfl T.bM<|Zb (Zv (DL T) hr<|Zb (pv 0) Za) Za) (xB (K:=K) (n:=2) rfl rfl<|Zu (pc 0)<|Zu (pc 1) Y5) (sO<|Yw<|Bc (Xb hr) (pv 2) (pv 1) rK #[rfl,rfl,rfl,rfl]) (pv 0)) #[p,_,rfl,hp.seq,hx,λx y J u I=>#[nS I,λD G=>Zy7 (xs:=(r.map fst).map V.str) (λi g U=>g=(Xn (r.map<|tW l) i).map vN/\U D=some (.lst g)/\nH y U) #[rfl,Zc,pP G] ?_ ?_ ?_]]
  ·rintro i g U _ ⟨_,_,c⟩;show nS<|c.at I
  ·rintro i v g U L ⟨rfl,C,c⟩ t H3 a n3 e3;rw[oF,oF]at L;obtain⟨y,hy,rfl⟩:=oN.mp L;obtain⟨x,Y,rfl⟩:=oN.mp hy;have B:=J.trans<|c.trans a;have u:(r.map<|tW l).getD i false=tW l x:=by rw[ub,oF,Y];rfl
   have N:(Y0 (Z0 V.bl l)<|Sum.inr x.1).getD (.bl false)=.bl (tW l x):=by
    rw[yA];unfold tW;cases l.lookup x.1<;>rfl
   refine#[nX e3,rfl,rfl,(pE rfl).trans (pE rfl),d,rfl,.inl #[_,.inl<|B.at hd],_,rn (k:=Sum.inr x.1)<|B.at hd,oB.of N<|Z7 (λM=>?_) λM=>?_]
   ·refine#[a.at C,?_,?_,Zc,λb o e=>?_]
    ·rw[nQ];have y:i<r.length:=(pT.mp Y).1;show sz (by have:=VF (r.map<|tW l) i;lia)
    ·rw[VA (u.trans M),oy]
     rfl
    ·rw[Zd (Zf e G)];show a.at<|c.at e
   ·refine#[?_,a.at C,c.trans a];rw[Zzr (by rw[u];show M)]
  ·rintro g Y ⟨rfl,y,s2⟩;have N:=J.trans s2;have u:((r.map fst).map V.str).length=(r.map<|tW l).length:=by rw[nQ,nQ,nQ]
   rw[u]at y;rw[nQ]at y;cases o:Xn (r.map<|tW l) r.length with
   | nil =>
    rw[o]at y q;show nR (Zx (Xs<|Hg (pv 3) λ_=>rfl) Zq Zk) #[_,.inl #[_,nS y,rfl],Z7 (λ_=>nU (Zl Ze)<|q Y N) λh=>absurd rfl h]
   | cons f x =>
    obtain⟨M,L,a⟩:∃M L,f ::x=M++[L]:=#[(f ::x).dropLast,(f ::x).getLast (by simp),(Jf<|by simp).symm]
    rw[o]at y q;have C:pz ((f ::x).map vN) 0=some (vN f):=Zm (j:=0) rfl;have B:pz ((f ::x).map vN) (-1)=some (vN L):=by rw[a,oy];show FT _ _
    refine nR (Zx (Xs<|Hg (pv 3) λ_=>rfl) Zq Zk) #[_,.inl #[_,nS y,rfl],Z7 (λh=>absurd h<|by simp) λ_=>?_];refine nU (Zl<|Z5 (JI rfl) (by rfl) T.ji PQ<|Zb Ze<|Zb (Z5 (Oc rfl) (by rfl) T.jj Ph<|Zb (oi (pv 3) Ze)<|Zb (Zr W0 (Zr wl (oi (pv 3)<|wo wq Ze)<|pv 1) Ze) Za) Za)<|.inl #[nS y,C,.inl #[nS y,B,.inl #[_,_,rfl,_,_,rfl,?_]]];have e:xH (f ::x) len=min f (L+1-len):=by unfold xH;rw[show(f ::x).getLast? =some L by rw[a,Fh];rfl];rfl
    rw[e]at q;have e2:(if(if(L:Int)-len+1<f then(L:Int)-len+1 else f)>0 then(if(L:Int)-len+1<f then(L:Int)-len+1 else f)else 0)=((min f (L+1-len):Nat):Int):=by
     clear y C B a o q e;split<;>split<;>lia
    rw[e2];show q Y N
def TV{H:Hp}{d e:mG}{u:HO}(h:H d=some u)(n:H e=none):e≠d:=λz=>by rw[z,h]at n;cases n
structure uK(H Hf:Hp)(d':Addr)(names:List Str)(z9:Str->List Yi)(i:Nat)(j8:List (Str×Addr))(H':Hp):Prop where
 same:nH Hf H'
 fsts:j8.map fst=names.take i
 at':H' d'=some (.dK<|Z0 V.ref j8)
 all:∀e∈j8,H e.2=none/\Yr H' e.2 (z9 e.1)
def uK.start{H y:Hp}{d d':mG}{u:HO}{f:HO}{names:mD mF}{x:mF->mD Yi}(hd:H d=some u)(s:nH H y)(r:H d'=none)(q:y d'=some (.dK [])):uK H (nO H d f) d' names x 0 [] (nO y d f):=by
 refine#[λb u e=>?_,rfl,?_,by simp]
 ·by_cases z:b=d
  ·rw[z,Zc]at e ⊢;show e
  ·rw[Zd z]at e ⊢;show s.at e
 ·rw[Zd (pH<|Zf hd r)];show q
def uK.len{H x u:Hp}{d':mG}{names:mD mF}{s:mF->mD Yi}{i:Nat}{y:mD (mF×mG)}(b:uK H x d' names s i y u):(Z0 V.ref y).length<=i:=by
 have:=pO List.length b.fsts;rw[nQ,oZ]at this;rw[show(Z0 V.ref y).length=y.length from nQ ..];lia
def uK.step{H j s:Hp}{d d' l:mG}{u f:HO}{names:mD mF}{g:mF->mD Yi}{i:Nat}{o:mD (mF×mG)}{x:mF}(hd:H d=some u)(Y:H d'=none)(E:names.Nodup)(b:uK H (nO H d f) d' names g i o j)(U:names[i]? =some x)
  (r:nH j s) (D:j l=none) (Q:Yr s l (g x)):uK H (nO H d f) d' names g (i+1) (o++[(x,l)]) (nO s d'<|.dK<|Ww (Z0 V.ref o) (Sum.inr x)<|.ref l):=by
 obtain⟨N,M,L,C⟩:=b;have B:x∉o.map fst:=by
  rw[M];have n:(names.take<|i+1).Nodup:=Nv (Eg (i+1) _) E;rw[oW,U,rO]at n;show λA=>n.2.2 x A x (by simp) rfl
 have e:d'≠d:=pH<|Zf hd Y;have q:∀c J,s c=some (.lst J)->c≠d':=λc J h z=>by rw[z,r.at L]at h;cases h
 have p:∀I,s d'≠some (.tup I):=λI z=>by rw[r.at L]at z;cases z
 refine#[λb u z=>?_,?_,?_,?_]
 ·by_cases y:b=d'
  ·rw[y,Zd e,Y]at z;cases z
  ·rw[Zd y];show r.at<|N.at z
 ·rw[oy,M,oW,U];rfl
 ·rw[Oq B];show Zc
 ·intro e5 a;rcases pC.mp a with z|z
  ·obtain⟨h0,G⟩:=C e5 z;have n:=G.mono r;obtain⟨_,h3,_⟩:=n;show#[h0,(G.mono r).off (q _ _ h3) p]
  ·simp at z;subst z;refine#[?_,Q.off (q _ _ Q.choose_spec.1) p];have:=N.free D
   by_cases y:l=d
   ·rw[y,Zc]at this;cases this
   ·rw[Zd y]at this;show this
def uK.done{H s:Hp}{d d':mG}{o:Obj}{u:HO}{names:mD mF}{q:mF->mD Yi}{y:mD (mF×mG)}(hd:H d=some u)(l:H d'=none)(b:uK H (nO H d<|.frz o u) d' names q names.length y s) :
  nH H (nO s d u)/\Ye (nO s d u) d' y q/\y.map fst=names/\∀e∈y,H e.2=none:=by
 obtain⟨p,n,j,r⟩:=b;rw[pQ]at n;refine#[xK hd p,#[by rw[Zd (pH<|Zf hd l)];show j,λe x=>(r e x).2.off (TV hd (r e x).1) λi z=>?_],n,λe x=>(r e x).1];rw[p.at Zc]at z;cases z
def EC(ln:mD (mF×Nat))(t:mF):Nat:=(ln.lookup t).getD 0
def wO(y:mD (mF×Bool))(ln:mD (mF×Nat))(val:mF->mD Yi)(t:mF):mD Yi:=(val t).drop (xH (Xn ((val t).map (tW y)) (val t).length)<|EC ln t)
def QS{ln:mD (mF×Nat)}{p:mF×Nat}(x:(ln.map fst).Nodup)(h:p∈ln):EC ln p.1=p.2:=by
 have y:=Wh (f:=λn:Nat=>V.int (n:Int)) x h;rw[yA]at y;obtain⟨n,u,s⟩:=oN.mp y;unfold EC;rw[u];show CO<|V.int.inj s
def YF{y x:Type}{R:y->x->Prop}{xs:mD y}{u:mD x}(h:Paired R xs u):∀m,Paired R (xs.drop m) (u.drop m):=by
 induction h with
 | nil=>intro m;rw[List.drop_nil,List.drop_nil];show .nil
 | cons r t s=>intro m;cases m with
  | zero=>show .cons r t
  | succ m=>show s m
inductive QD:Sp
 | mk (d dl ds es ln td) (val:mF->mD Yi):vs=[.ref d,.ref dl,.ref ds]->Ye H d es val->(es.map fst).Nodup->es.length<=100->(∀t,(val t).length<=100)->H dl=some (.dK<|wv ln)->es.map fst=ln.map fst->d≠ds->d≠dl->H ds=some (.dK<|Z0 V.bl td)->
  (∀d' H' j8,nH H H'->H d'=none->Ye H' d' j8 (wO td ln val)->j8.map fst=es.map fst->(∀e∈j8,H e.2=none)->Q (.ref d') H')->QD vs H Q E
def Zqy:T.eM.O P w mg nI 3 QD:=by
 refine T.eM.F.okW EL ?_;rfl'
 ·obtain⟨d,dl,ds,es,N,M,val,rfl,g,x,u,J5,I,G,C,B,hds,q⟩:=h;intro X D;refine nR (oj 3 EL ye) λd' H1 s1 L e1=>?_
  refine nR (Ao<|Y9 qo rfl (yk<|pv 0) (tN rfl<|Zu (oY 4 EL)<|Zu (oY 5 EL) Y5) Zq) #[s1.at g.1,λo nf=>EX (λi y H'=>(∃o4 o5,y=[some (.ref d),some<|.ref dl,some<|.ref ds,some<|.ref d',o4,o5])/\∃c,uK H (nO H d<|.frz o<|.dK<|Z0 V.ref es) d' (es.map fst) (wO M N val) i c H') #[#[none,none,rfl],[],uK.start g.1 s1 L e1] ?_ ?_ ?_]
  ·rintro i y H' _ ⟨_,c,b⟩;show b.same.at Zc
  ·rintro i kv y H2 hi ⟨⟨o4,o5,rfl⟩,c,b⟩ tp a j n2' e2';obtain⟨e,K4,he,hfi,rfl⟩:=EV hi;have bs:=b.same.trans j;obtain⟨T9,hg⟩:=g.read x bs K4;obtain⟨⟨_,n⟩,hn,rfl⟩:∃p∈N,p.1=e.1:=by
    have:e.1∈N.map fst:=G ▸ Qm K4;obtain⟨p,h1,h2⟩:=oh.mp this;show#[p,h1,h2]
   obtain⟨ts,i9,A4⟩:=id T9;have Y:∀{b:mG}{u:HO},b≠d->H b=some u->a b=some u:=λnb z=>bs.at (by rw[Zd nb];show z)
   have hgl:Xp a dl (.str e.1) (some<|.int (n:Int)):=by
    rw[<-Wh (f:=λn:Nat=>V.int (n:Int)) (q:=(e.1,n)) (G ▸ x) hn];show rn (k:=Sum.inr e.1)<|Y B.symm I
   refine#[nX e2',rfl,rfl,?_];refine nU (uj (Xb hr) (pv 3) (pv 4) (Xk (r:=su K) sE (pv 5) (X1<|Zv (Zoh T) hr<|Zb (pv 5)<|Zb (Xy (Xb hr) (pv 1) (pv 4) λ_ _=>rfl)<|Zb (pv 2) Za) Wf) rfl) #[hgl,e.2,ds,n,val e.1,M,rfl,T9,J5 e.1,Y C.symm hds,λH3 U=>(.inr<|.inl #[nS<|U.at i9,λl H4 s4 n4 J=>#[rH.k (k:=Sum.inr e.1) (s4.at<|U.at<|j.at b.at') (Zo (by have:=b.len;have:=(pT.mp he).1;lia)),#[_,_,rfl],_,b.step g.1 L x hfi (j.trans<|U.trans s4) (j.free<|U.free n4) ?_]])];have J:H4 l=some (.lst<|rf (ts.map V.ref) (some ((xH (Xn ((val e.1).map (tW M)) (val e.1).length) n:Nat):Int)) none):=J;rw[yP,<-Cd]at J;change Yr H4 l ((val e.1).drop (xH (Xn ((val e.1).map (tW M)) (val e.1).length)<|EC N e.1));rw[QS (G ▸ x) hn];show#[_,J,(Wn.mono (U.trans s4)<|YF A4 _)]
  ·rintro y H2 ⟨⟨o4,o5,rfl⟩,c,b⟩;rw[IW]at b;obtain⟨h1,h2,u,p⟩:=b.done g.1 L;show#[d,o,_,b.same.at Zc,nf,nU (Zl<|pv 3)<|q d' _ c h1 L h2 u p]
def Yi8{y x:Type}{R:y->x->Prop}{xs:mD y}{u:mD x}(h:Paired R xs u):∀m,Paired R (xs.take m) (u.take m):=by
 induction h with
 | nil=>intro m;rw[HI,HI];show .nil
 | cons r t s=>intro m;cases m with
  | zero=>show .nil
  | succ m=>show .cons r<|s m
inductive Kb:Sp
 | mk (da db es j8) (val z9:mF->mD Yi):vs=[.ref da,.ref db]->Ye H da es val->(es.map fst).Nodup->da≠db->Ye H db j8 z9->j8.map fst=es.map fst->(∀t,(z9 t).length<=(val t).length)->(∀t,(val t).length<=100)->((es.map fst).flatMap val).length<64->(∀r H',nH H H'->Q (.ref r) H')->Kb vs H Q E
def YS:T.gm.O P w mg nI 2 Kb:=by
 refine T.gm.F.okW CB ?_;rfl'
 ·obtain⟨p,db,n,j8,val,L,rfl,j,M3,nd,K8,D6,C0,J5,l,q⟩:=h;intro X D;refine nR (oj 2 CB<|Zn Za) #[nV,λd H1 G C e1=>?_];have a:p≠d:=λz=>by have:=j.1;rw[z,C]at this;cases this
  refine nR (Ao<|Y9 qo rfl (yk<|pv 0) (tN rfl<|Zu (oY 3 CB)<|Zu (oY 4 CB) Y5) Zq) #[G.at j.1,λo nf=>EX (λi y B=>(∃o3 o4,y=[some (.ref p),some<|.ref db,some<|.ref d,o3,o4])/\(∀b u,b≠d->nO H1 p (.frz o<|.dK<|Z0 V.ref n) b=some u->B b=some u)/\∃Y:mD mF,B d=some (.lst<|Y.map V.str)/\Y.length<=(((n.map fst).take i).flatMap val).length) #[#[none,none,rfl],λ_ _ _ z=>z,[],by rw[Zd a.symm];show e1,sY _] ?_ ?_ ?_]
  ·rintro i y B _ ⟨_,z,_⟩;show z p _ a Zc
  ·rintro i kv y H2 hi ⟨⟨o3,o4,rfl⟩,U,Y,h0,hz⟩ tp N c n3 e3;obtain⟨e,K4,he,hfi,rfl⟩:=EV hi;have bs:nH (nO H p<|.frz o<|.dK<|Z0 V.ref n) N:=λb u z=>c.at (U b u (λx=>by
     rw[x,Zd a.symm,C]at z;cases z) (by
     by_cases x:b=p
     ·rw[x,Zc]at z ⊢;show z
     ·rw[Zd x]at z ⊢;show G.at z))
   obtain⟨ts,J,h2⟩:=(j.read M3 bs K4).1;obtain⟨g,l,M⟩:∃g∈j8,g.1=e.1:=by
    have:e.1∈j8.map fst:=D6 ▸ Qm K4;show oh.mp this
   have hP:Yr N g.2 (L g.1):=by
    have:=K8.2 g l;obtain⟨_,x,_⟩:=id this;show(this.off (o:=.frz o<|.dK<|Z0 V.ref n) (λz=>by rw[z,j.1]at x;cases x) λxs z=>by rw[j.1]at z;cases z).mono bs
   rw[M]at hP;obtain⟨D9,h1',h2'⟩:=hP;have hgb:Xp N db (.str e.1) (some<|.ref g.2):=by
    rw[<-M,<-Wh (f:=V.ref) (D6 ▸ M3) l];show rn (k:=Sum.inr g.1) (bs.at (by rw[Zd nd.symm];show K8.1))
   have l1:=oz h2;have l2:=oz h2';have hl:=C0 e.1;have hm:Y.length+((val e.1).take ((val e.1).length-(L e.1).length)).length<=(((n.map fst).take (i+1)).flatMap val).length:=by
    rw[oW,hfi,wI,oP,oZ];change _<=_+([e.1].flatMap val).length;rw[List.flatMap_singleton];lia
   have h6:(((n.map fst).take (i+1)).flatMap val).length<=((n.map fst).flatMap val).length:=by
    conv=>rhs;rw[<-wj (i+1) (n.map fst)]
    rw[wI,oP];show Nat.le_add_right ..
   refine#[nX e3,rfl,rfl,?_];refine nU (Zt<|yb vX Lb PySem.F.type_list_extend Zyi (pv 2)<|Zb (Zv (DL T) hr<|Zb (Xk (r:=su K) sE (pv 4) Wf<|X1<|Zr wl (qt T.aY<|pv 4)<|qt T.aY<|Xy (Xb hr) (pv 1) (pv 3) λ_ _=>rfl) Za) Za) #[.inl #[rfl,_,nS<|c.at h0],.inl #[.inl<|nS J,hgb,.inl #[.inl<|nS h1',.inr<|.inl #[nS J,λl5 H5 s5 n5 I=>#[l5,(val e.1).take ((val e.1).length-(L e.1).length),rfl,#[ts.take<|(val e.1).length-(L e.1).length,.inl ?_,?_],?_,λp6 H6 s6 n6 e6=>#[d,p6,_,_,rfl,rfl,s6.at<|s5.at<|c.at h0,e6,sz ?_,#[_,_,rfl],λb u nb z=>by rw[Zd nb];show s6.at<|s5.at<|c.at<|U b u nb z,_,by rw[Zc,<-oy],by rw[oP,nQ];show hm]]]]]]
   ·have I:H5 l5=some (.lst<|rf (ts.map V.ref) none<|some<|((ts.map V.ref).length:Int)-((D9.map V.ref).length:Int)):=I;rw[nQ,nQ,l1,l2,<-Int.ofNat_sub hl,BV,<-vU]at I;show I
   ·show oA (Yi8 h2 _) λ_ _ r=>s5.at r
   ·rw[oZ];have:=J5 e.1;lia
   ·rw[nQ,nQ,nQ];lia
  ·rintro y H2 ⟨⟨o3,o4,rfl⟩,U,Y,J,hz⟩;have l:=U p _ a Zc;have g:nH H (nO H2 p<|.dK<|Z0 V.ref n):=λb u z=>by
    by_cases x:b=p
    ·rw[x,Zc,<-j.1,<-x];show z
    ·rw[Zd x];show U b u (λw=>by rw[w,C]at z;cases z) (by rw[Zd x];show G.at z)
   rw[IW,pQ]at hz;show#[p,o,_,l,nf,nU (Zl<|Z5 (r:=Rv K) WX (by rfl) T.cQ yn<|Zb (pv 2) Za) #[d,_,rfl,nS (by rw[Zd a.symm];show J),by lia,λe j M r N c n3 e3=>q r N<|g.trans c]]
def Sn{y:KY}{s:KC}(h:KX y s):(((s.ln.map fst).flatMap s.val).map fst).Nodup:=by
 rw[FV];unfold List.Nodup;rw[List.pairwise_flatMap];refine#[λt _=>(h.pok t).nd,List.Pairwise.imp_of_mem (λ{t u} p o n x l y j=>?_) h.lnd];obtain⟨q,i,rfl⟩:=oh.mp l;obtain⟨r,g,rfl⟩:=oh.mp j;show h.pdj t p u o n q i r g
def Fp{y:KY}{x:KC}(h:KX y x)(u:Xq y.ps y.js y.sg):((x.ln.map fst).flatMap x.val).length<=40:=by
 have:=BR (m:=y.ps.map snd) (Sn h) λn s=>?_
 ·simp only[nQ]at this;show oU this u.len
 ·obtain⟨q,r,rfl⟩:=oh.mp s;obtain⟨t,_,p⟩:=uD.mp r;show((h.pok t).st q p).nm
def rP.drop{p:mD S4}(h:rP y p)(m:Nat):rP y (p.drop m):=by
 refine#[λq x=>h.st q<|IZ x,by rw[Cd];show h.nd.sublist<|List.drop_sublist ..,λi q r x u=>?_,λq x=>h.en q ?_]
 ·rw[List.getElem?_drop]at x u;show h.ch _ q r x (by rw[<-u];congr 1)
 ·rw[List.getLast?_drop]at x;split at x
  ·cases x
  ·show x
inductive Lp:Sp
 | mk (H0 x y dt ad ct td):vs=[.ref x,.ref dt]->oG T H0 H x y ad ct->¬ad.F dt->H dt=some (.dK<|Z0 V.bl td)->uk T H0 x y ct Q->Lp vs H Q E
def Uz:T.cF.O P w mg nI 4 (Lp T):=by
 refine T.cF.F.okW Jw ?_;rfl'
 ·obtain⟨p,x,y,dt,ad,i,a,rfl,j,nF,E1,q⟩:=h;intro X D;have I:=j.nm;have M3:(ad.es.map fst).Nodup:=by rw[I];show j.kx.lnd
  refine nR (oj 2 Jw<|Z2 (pv 0) rfl) #[j.obj,T.ae,T.ag,rfl,?_];refine nR (Wm (pv 0) (Zv (Zqy T) hr<|Zb (pv 2)<|Zb (Z2 (pv 0) rfl)<|Zb (pv 1) Za) rfl) #[j.obj,T.ae,T.bf,rfl,ad.pd,ad.nd,dt,ad.es,i.ln,a,i.val,rfl,j.pth,M3,oU j.esl (by lk),j.vl,j.lens,I,λz=>nF<|z ▸ j.fp,j.ne.symm,E1,λd N C g G M L B=>#[g.at j.obj,T.ae,T.ag,(by change 5<1000;decide),?_]];have Y:∀{b:mG}{u o:HO},b≠x->N b=some u->nO N x o b=some u:=λn z=>by rw[Zd n];show z
  have P2:∀{c:mG}{ss:mD Yi}{o:HO},Yr N c ss->Yr (nO N x o) c ss:=λ{c ss o} z=>z.off (λy=>by obtain⟨_,w,_⟩:=z;rw[y,g.at j.obj]at w;cases w) λxs y=>by rw[g.at j.obj]at y;cases y
  have ndx:d≠x:=λz=>by have:=j.obj;rw[<-z,G]at this;cases this
  have pN:∀{o:HO},Ye (nO N x o) d C (wO a i.ln i.val):=#[Y ndx M.1,λe J=>P2<|M.2 e J]
  have hm:∀{t:mF}{r:S4},r∈wO a i.ln i.val t->r∈i.val t:=λh=>IZ h
  have k1:=j.re (l:=ad.ld) (d:=d) (es:=C) (lw:=i.lw) (ln:=i.ln) (λb o p _ _ e=>Y p<|g.at e) Zc (Y (λz=>j.nl<|z ▸ j.fx)<|g.at j.lies) (.inl rfl) (λz=>by have:=j.lies;rw[z,G]at this;cases this) (Y j.xn.symm<|g.at j.lens) pN (.inr G) (L.trans I) #[_,Y j.xp.symm<|g.at j.pth.1] (λe J=>j.same.free<|B e J) #[j.kx.lnd,j.kx.ok,j.kx.sdn,j.kx.sok,j.kx.lwd,j.kx.lok,j.kx.lpt,λt=>(j.kx.pok t).drop _,λt U=>?_,λt U u hu n q p r hr=>j.kx.pdj t U u hu n q (hm p) r<|hm hr,λt U q p=>j.kx.pli t U q<|hm p]
  ·refine nU (Zl<|Zv (YS T) hr<|Zb (pv 2)<|Zb (Z2 (pv 0) rfl) Za) #[Zc,T.ae,T.ag,rfl,ad.pd,d,ad.es,C,i.val,wO a i.ln i.val,rfl,#[Y j.xp.symm<|g.at j.pth.1,λe J=>P2<|(j.pth.2 e J).mono g],M3,(λz=>by have:=j.pth.1;rw[z,G]at this;cases this),pN,L,λt=>?_,j.vl,?_,λr p s2=>q _ p _ _ (k1.mono s2) λ_ _ _ z=>z]
   ·unfold wO;rw[xY];show Nat.sub_le ..
   ·rw[I];have:=Fp j.kx j.yv;lia
  ·obtain⟨p,hp,rfl⟩:=oh.mp U;have:=Yfp (told:=(i.val p.1).map (tW a)) (j.kx.ok p hp).2.1 λz=>j.kx.pne _ U<|GY.mp z
   rw[nQ]at this;change wO a i.ln i.val p.1≠[];unfold wO;rw[QS j.kx.lnd hp];show λz=>absurd (List.drop_eq_nil_iff.mp z) (by lia)
def uH(q:S4):S4:=(q.1,q.2.2.1,q.2.1,q.2.2.2)
inductive NH:Sp
 | mk (t) (q:S4):vs=[.ref t]->qK H t q->(∀t' H',nH H H'->H t'=none->qK H' t' (uH q)->Q (.ref t') H')->NH vs H Q E
def Kr:T.fi.O P w mg nI 1 NH:=by
 refine T.fi.F.okA ?_;rfl'
 ·obtain⟨t,x,rfl,y,q⟩:=h;intro X D;show nU (Zl<|Zi<|Zb (oi (pv 0) Ze)<|Zb (oi (pv 0) Ze)<|Zb (oi (pv 0) Ze)<|Zb (oi (pv 0) Ze) Za)<|.inr<|.inl #[nX y,Zm (j:=0) rfl,.inr<|.inl #[nX y,Zm (j:=2) rfl,.inr<|.inl #[nX y,Zm (j:=1) rfl,.inr<|.inl #[nX y,Zm (j:=3) rfl,nV,q]]]]
def qK.off{xs:mD V}(h:qK H t q)(y:H c=some (.lst xs)):qK (nO H c o) t q:=(Zd λz=>by rw[qK,z,y]at h;cases h).trans h
inductive MN:Sp
 | mk (l) (ss:mD S4):vs=[.ref l]->Yr H l ss->ss.length<=100->(∀l' H',nH H H'->H l'=none->Yr H' l' (ss.reverse.map uH)->Q (.ref l') H')->MN vs H Q E
def XQ:T.dI.O P w mg nI 2 MN:=by
 refine T.dI.F.okA ?_;rfl'
 ·obtain⟨l,a,rfl,⟨Y,U,N⟩,r,q⟩:=h;intro X D;have I:=oz N;have e:Paired (qK H) Y.reverse a.reverse:=Px N;refine nU (Zl<|qh ["step"] (pF 1 [] rfl) (Vp rfl T.ig<|Zb (pv 0) Za) (pc 0) X8 (Zv (Kr T) hr<|Zb (pv 0) Za)) #[l,_,rfl,nS U,λD d=>Yb0 (K:=K) (xs:=Y.map V.ref) (λi x j=>(∃y:mD mG,x=y.map V.ref/\Paired (qK j) y ((a.reverse.take i).map uH))/\j D=some (.lst x)/\nH H j) #[#[[],rfl,.nil],Zc,pP d] ?_ ?_ ?_]
  ·rintro i x j _ ⟨_,_,r⟩;show nS<|r.at U
  ·rintro i v x M L ⟨⟨y,rfl,u⟩,p,g⟩;rw[<-Jg,oF]at L;obtain⟨t,G,rfl⟩:=oN.mp L;obtain⟨J,C,c⟩:=pG e G;have B:=oz u;rw[nQ,oZ,wS]at B;refine#[pE rfl,t,J,rfl,c.mono g,λr H2 n n2 e2=>#[n.at p,by rw[nQ];show Zo (by lia),#[y++[r],by rw[oy];rfl,?_],Zc,λb o z=>?_]]
   ·rw[oW,C,oy];show qc (oA u λ_ _ r=>(r.mono n).off (n.at p))<|.cons (qK.off (q:=uH J) e2<|n.at p) .nil
   ·rw[Zd (Zf z d)];show n.at<|g.at z
  ·rintro x M ⟨⟨y,rfl,u⟩,p,g⟩;rw[nQ,I,<-wS,pQ]at u;show q D M g d #[y,p,u]
def GI(val:mF->mD Yi)(nm:mF):mF->mD Yi:=open Classical in λt=>if t=nm then(val nm).reverse.map uH else val t
def SU{y:mD (Zh×Zh)}(h:(a,b)∈qJ y):(b,a)∈qJ y:=by
 obtain⟨j,u,x⟩:=uD.mp h;refine uD.mpr #[j,u,?_];simp only[oM,tV,rC]at x ⊢;rcases x with e|e<;>cases e
 ·show .inr rfl
 ·show .inl rfl
def rP.rev{p:mD S4}(h:rP y p)(u:∀q∈p.head?,uq y.sg (uH q)=true):rP y (p.reverse.map uH):=by
 refine#[λq x=>?_,?_,λi q r x l=>?_,λq x=>?_]
 ·obtain⟨o,n,rfl⟩:=oh.mp x;obtain⟨k,r,s⟩:=h.st o<|List.mem_reverse.mp n;show#[k,r,s.2.1,s.1,s.2.2.2.1,s.2.2.1,s.2.2.2.2]
 ·rw[qj];change(p.reverse.map fst).Nodup;rw[Jg];show List.pairwise_reverse.mpr<|h.nd.imp pH
 ·rw[oF]at x l;obtain⟨a,s,rfl⟩:=oN.mp x;obtain⟨b,u,rfl⟩:=oN.mp l;have r:=(pT.mp u).1;rw[wS]at r;rw[Nn (by lia)]at s u;show SU (h.ch (p.length-1-(i+1)) b a u<|by rw[<-s];congr 1;lia)
 ·rw[List.getLast?_map,List.getLast?_reverse]at x;obtain⟨o,n,rfl⟩:=oN.mp x;show u o n
inductive JV:Sp
 | mk (H0 x y ad ct nm):vs=[.ref x,.str nm]->oG T H0 H x y ad ct->uk T H0 x y ct Q->vL T H E->JV vs H Q E
def SM:T.cm.X P w mg nI 6 (JV T):=by
 refine T.cm.F.okX MS ?_;rfl'
 ·obtain⟨H0,x,y,ad,g,nm,rfl,p,q,qe⟩:=h;intro X D;refine nR (oj 2 MS<|Z6 (pv 0) T.ae T.bE (X5 T) hr.m T.aM.b .nil Wi<|Zb (pv 1) Za) #[p.obj,rfl,H0,x,y,ad,g,nm,rfl,p,λl H1 L Y n1 C=>?_,λ_ H1 Y=>qe 2 none none H1 (by lk) rfl Y rfl];have w9:=p.mono Y;have B:=C;cases J:g.val nm with
  | nil=>show absurd J (p.kx.pne nm L)
  | cons q0 Zs =>
  rw[J]at C;obtain⟨ts,hl,i9⟩:=C;cases i9 with
  | @cons t0 _ D9 _ r0 hts' =>
  refine nR (Zx (Xs<|Yw<|Zv (Ju T) hr<|Zb (Z2 (pv 0) rfl)<|Zb (Zv (Kr T) hr<|Zb (oi (pv 2) Ze) Za) Za) Zq Zk) #[w9.obj,T.ae,T.az,rfl,.inl #[nS hl,Zm (j:=0) rfl,t0,q0,rfl,r0,λt2 H2 I n2 e2=>#[y.tr,t2,uH q0,y.ps,y.js,y.sg,rfl,(w9.mono I).tk,p.yv,e2,λH3 s3=>Z7 (λz=>nU (yf T.iO wP rfl<|Zb Zg Za) #[nV,qe 4 none none H3 (by lk) rfl (Y.trans<|I.trans s3) rfl]) λz=>?_]]];have C5:=Y.trans<|I.trans s3;refine nU (uj (Xb hr) (Z2 (pv 0) rfl) (pv 1) (Zv (XQ T) hr<|Zb (pv 2) Za) rfl) #[l,g.val nm,rfl,B.mono<|I.trans s3,p.vl nm,λl4 H4 s4 n4 e4=>?_];have U:=C5.trans s4;have i:=p.mono U;refine#[i.obj,T.ae,T.ag,rfl,rH.k (k:=Xd nm) i.pth.1 ?_,?_]
  ·rw[show(Z0 V.ref ad.es).length=ad.es.length from nQ ..];show Zo (by have:=p.esl;lia)
  rw[show Ww (Z0 V.ref ad.es) (Xd nm) (V.ref l4)=Z0 V.ref (pX ad.es nm l4)from zm _ _ _];have G:∀{b:mG},¬ad.F b->b≠ad.pd:=λz y=>z<|y ▸ p.fp
  have u:∀{b:mG}{o v:HO},b≠ad.pd->H4 b=some o->nO H4 ad.pd v b=some o:=λn z=>by rw[Zd n];show z
  have nt:∀xs,H4 ad.pd≠some (.tup xs):=λxs z=>by rw[i.pth.1]at z;cases z
  have tv:GI g.val nm nm=(g.val nm).reverse.map uH:=og rfl;have mb:∀{r:S4},r∈(g.val nm).reverse.map uH->∃a∈g.val nm,r=uH a:=λh=>by
   obtain⟨a,N,rfl⟩:=oh.mp h;show#[a,List.mem_reverse.mp N,rfl]
  refine q _ _ _ _ (p.re (l:=ad.ld) (d:=ad.pd) (es:=pX ad.es nm l4) (lw:=g.lw) (vl:=GI g.val nm) (ln:=g.ln) (λb o _ _ z3 e=>u z3<|U.at e) (u p.xp i.obj) (u (G p.nl) i.lies) (.inl rfl) (G p.nl) (u p.ne i.lens) #[Zc,λe he=>?_] (.inl rfl) ?_ #[_,Zc] (DV (P:=λe=>H0 e.2=none) p.p0<|p.same.free<|C5.free n4)<|p.kx.set nm p.kx.lnd p.kx.ok rfl p.kx.lok (λt z=>nY z) tv ((p.kx.pok nm).rev λr hr=>?_) (by rw[J];simp) (λt M _=>M) (λt M n r hr r2 h2=>?_) (λr hr c=>?_) λt M _=>p.kx.pli t M) λ_ _ _ z=>z
  ·rcases Fq he with rfl|⟨z,y⟩
   ·rw[tv];show e4.off (G<|p.neF<|C5.free n4) nt
   ·rw[show GI g.val nm e.1=g.val e.1 from nY y];show(i.pth.2 e z).off (G<|p.ni z) nt
  ·rw[Ba,og (by rw[p.nm];show L)];show p.nm
  ·rw[J]at hr;cases hr;simpa using z
  ·obtain⟨a,N,rfl⟩:=mb hr;show p.kx.pdj nm L t M n.symm a N r2 h2
  ·obtain⟨a,N,rfl⟩:=mb hr;show p.kx.pli nm L a N c
def Lx(xs:mD V):rf xs none (some (-1))=xs.dropLast:=by
 unfold rf;rw[HT.sIx_none,Jp,Nat.sub_zero,List.dropLast_eq_take];change xs.take (if(-1:Int)<0 then(-1+(xs.length:Int)).toNat else min (-1:Int).toNat xs.length)=_;rw[og (by lk)];congr 1;lia
def Pi(y:mD mF)(val:mF->mD Yi)(e:Zh):Prop:=∃t∈y,e∈(val t).dropLast.map tD
inductive Ni:Sp
 | mk (H0 x y ad ct) (g:mF×Zh):vs=[.ref x,.str g.1]->oG T H0 H x y ad ct->(g:mF×mF×mF)∈y.sg->(∀(b:Bool) H',nH H H'->(b=true->Pi (ct.ln.map fst) ct.val g.2)->Q (.bl b) H')->Ni vs H Q E
def Vz:T.cq.O P w mg nI 4 (Ni T):=by
 refine T.cq.F.okW Gb ?_;rfl'
 ·obtain⟨H0,x,u,ad,ct,g,rfl,l,hg,q⟩:=h;intro X D
  ·obtain⟨dxt,_,_,_,_,_,_,_,_,P9,_⟩:=l.tk.ex;refine nR (oj 2 Gb<|Z6 (Z2 (pv 0) rfl) T.af T.cJ (Ia T) hr.m T.aZ.b .nil Z4<|Zb (pv 1) Za) #[l.obj,T.ae,T.az,rfl,P9,rfl,u.tr,g,u.ps,u.js,u.sg,rfl,l.tk,l.yv,hg,λt H1 s1 p1=>?_];have w9:=l.mono s1;obtain⟨hd,P8⟩:=w9.pth;refine nR (Ao<|Y9 qo rfl (WP<|Z2 (pv 0) rfl) (oY 3 Gb) Zq) #[w9.obj,T.ae,T.ag,rfl,ad.pd,_,rfl,hd,λo nf=>Yb4 (λi y a=>(∃o3,y=[some (.ref x),some<|.str g.1,some<|.ref t,o3])/\nH (nO H1 ad.pd<|.frz o<|.dK<|Z0 V.ref ad.es) a) #[#[none,rfl],qu _] ?_ ?_ ?_]
   ·rintro i y a _ ⟨_,sm⟩;show sm.at Zc
   ·rintro i kv y H2 hi ⟨⟨o3,rfl⟩,U⟩;rw[show Z0 V.ref ad.es=ad.es.map λq=>(Sum.inr q.1,V.ref q.2)from rfl,oF]at hi;obtain⟨e,he,rfl⟩:=oN.mp hi;have K4:e∈ad.es:=qf he;have hed:e.2≠ad.pd:=λz=>l.ni K4<|z ▸ l.fp
    have J5:=l.vl e.1;obtain⟨ts,hl,i9⟩:Yr H2 e.2 (ct.val e.1):=((P8 e K4).off (o:=.frz o<|.dK<|Z0 V.ref ad.es) hed λxs z=>by rw[hd]at z;cases z).mono U;have G9:=oz i9;have p2:Zp H2 t g.2:=(p1.offD hd).mono U;refine nU (Zx (sX hr (pv 2)<|qh ["step"] (pF 1 [] rfl) (Yd<|Xk (r:=su K) sE (pv 3) Wf<|X1<|wo wq Ze) (pc 0) X8 (Zv (CD T) hr<|Zb (pv 0) Za)) Zq Zk)<|.inr<|.inl<|Ct.mk (nS hl) λl3 H3 s3 n3 M=>?_;have M:H3 l3=some (.lst<|rf (ts.map V.ref) none<|some (-1)):=M;rw[Lx,<-List.map_dropLast]at M;refine#[nS M,λD hD=>Yp (K:=K) (xs:=ts.dropLast.map V.ref) (λi L a=>(∃N:mD mG,L=N.map V.ref/\Paired (Zp a) N (((ct.val e.1).dropLast.map tD).take i))/\a D=some (.lst L)/\nH H3 a) #[#[[],rfl,.nil],Zc,pP hD] ?_ ?_ ?_]
    ·rintro j L a _ ⟨_,_,sm⟩;show nS<|sm.at M
    ·rintro j v L H4 hj ⟨⟨N,rfl,J⟩,G,I⟩;rw[oF]at hj;obtain⟨t0,d,rfl⟩:=oN.mp hj;rw[Db]at d;split at d
     ·rename_i d8;obtain⟨q4,hq,hq4⟩:=pG i9 d;have D1:=oz J;rw[oZ,nQ,wc]at D1;refine#[pE rfl,t0,q4,rfl,(s3.trans I).at hq4,λt5 H5 C n5 e5=>#[C.at G,by rw[nQ];show Zo (by lia),#[N++[t5],by rw[oy];rfl,?_],Zc,λb o z=>?_]]
      ·rw[oW,oF,Db,og (by lia),hq];have off:∀{c:mG}{p:Zh}{r:HO},Zp H5 c p->Zp (nO H5 D r) c p:=λ{c p r} z=>(Zd λu=>by rw[Zp,u,C.at G]at z;cases z).trans z
       show qc (oA J λ_ _ n=>off<|n.mono C)<|.cons (off e5) .nil
      ·rw[Zd (Zf z hD)];show C.at<|I.at z
     ·cases d
    ·rintro L H4 ⟨⟨N,rfl,J⟩,G,I⟩;rw[tX (by rw[nQ,nQ,wc,wc];lia)]at J;have Y:=U.trans<|s3.trans I;refine .inr<|.inr<|.inr #[D,1,pW g.2,_,N,rfl,nS G,by lk,xt<|p2.mono<|s3.trans I,EW J,?_];refine Z7 (λB=>?_) λB=>?_
     ·have B:pW g.2∈((ct.val e.1).dropLast.map tD).map pW:=pA B;obtain⟨e',T3,h'⟩:=oh.mp B;rw[GW h']at T3;show nU (Zl rK) #[ad.pd,o,_,Y.at Zc,nf,q true _ (s1.trans<|xK hd Y) λ_=>#[e.1,by rw[<-l.nm];show oh.mpr #[e,K4,rfl],T3]]
     ·show#[#[_,rfl],Y]
   ·rintro y H2 ⟨⟨o3,rfl⟩,U⟩;show#[ad.pd,o,_,U.at Zc,nf,nU (Zl rK) (q false _ (s1.trans<|xK hd U) λz=>nomatch z)]
def KG(e:nH H s)(h:Rp H d v):Rp s d v:=Rp.rec (motive_1:=λd v _=>Rp s d v) (motive_2:=λx r _=>uC s x r) (λx=>.str x) (λb=>.bl b) (λi=>.int i) (λy _ u=>.lst (e.at y) u) (λy _ u=>.tup (e.at y) u) (λy _ u=>.dk (e.at y) u) .nil (λ_ _ a b=>.cons a b) h
def Yb(n k:Nat)(d:PyData):Prop:=d.showable=true/\d.leavesShort 8=true/\d.depth<=k/\d.weight<=n
def Yb.shown(h:Yb n k d)(y:n<=100000):d.shown.length<=sizeLine:=by
 have:=PyData.shown_le 8 (by lk) d h.2.1;have:=h.2.2.2;have e:sizeLine=16777216:=rfl;lia
def Yb.str(y:x.cps.toList.all qL=true)(u:x.length<=6):Yb 6 0 (.str x):=by
 refine#[by simp[PyData.showable],?_,by simp[PyData.depth],by simp only[PyData.weight];show u];simp only[PyData.leavesShort,xx,zw];show λc s=>vd (QA<|xx.mp y c s) (by lk)
theorem Yb.all:∀{y:mD PyData},(∀d∈y,Yb n k d)->PyData.showableAll y=true/\PyData.leavesShortAll 8 y=true/\PyData.depthAll y<=k/\PyData.weightAll y<=(n+1) * y.length
 | [],_=>#[by simp[PyData.showableAll],by simp[PyData.leavesShortAll],by simp[PyData.depthAll],by simp[PyData.weightAll]]
 | d ::y,h=>by
  obtain⟨x,u,p,o⟩:=h d pK;obtain⟨s,r,p,o⟩:=Yb.all λc q=>h c<|pV _ q
  refine#[by simp[PyData.showableAll,x,s],by simp[PyData.leavesShortAll,u,r],by simp only[PyData.depthAll];lia,?_];simp only[PyData.weightAll,qr,Nat.mul_add];lia
theorem Yb.kv:∀{u:mD (PyData×PyData)},(∀d∈u,Yb n k d.1/\Yb n k d.2)->PyData.showableKv u=true/\PyData.leavesShortKv 8 u=true/\PyData.depthKv u<=k/\PyData.weightKv u<=(2 * n+2) * u.length
 | [],_=>#[by simp[PyData.showableKv],by simp[PyData.leavesShortKv],by simp[PyData.depthKv],by simp[PyData.weightKv]]
 | (x,y) ::u,h=>by
  obtain⟨⟨q,p,o,s⟩,l,j,i,r⟩:=h (x,y) pK;obtain⟨g,e,a,U⟩:=Yb.kv λc Y=>h c<|pV _ Y
  refine#[by simp[PyData.showableKv,show x.showable=true from q,show y.showable=true from l,g],by simp[PyData.leavesShortKv,show x.leavesShort 8=true from p,show y.leavesShort 8=true from j,e],by simp only[PyData.depthKv];show Nat.max_le.mpr #[Nat.max_le.mpr #[o,i],a],?_];simp only[PyData.weightKv,qr,Nat.mul_add];have s:x.weight<=n:=s;have r:y.weight<=n:=r;lia
def Yb.list(h:∀d∈y,Yb n k d)(x:y.length<=m):Yb ((n+1) * m) (k+1) (.list y):=by
 obtain⟨u,s,q,r⟩:=Yb.all h;show#[by simp only[PyData.showable];show u,by simp only[PyData.leavesShort];show s,by simp only[PyData.depth];lia,by simp only[PyData.weight];show oU r<|Go _ x]
def Yb.tuple(h:∀d∈y,Yb n k d)(x:y.length<=m):Yb ((n+1) * m) (k+1) (.tuple y):=by
 obtain⟨u,s,q,r⟩:=Yb.all h;show#[by simp only[PyData.showable];show u,by simp only[PyData.leavesShort];show s,by simp only[PyData.depth];lia,by simp only[PyData.weight];show oU r<|Go _ x]
def Yb.dict(h:∀d∈y,Yb n k d.1/\Yb n k d.2)(x:y.length<=m):Yb ((2 * n+2) * m) (k+1) (.dict y):=by
 obtain⟨u,s,q,r⟩:=Yb.kv h;show#[by simp only[PyData.showable];show u,by simp only[PyData.leavesShort];show s,by simp only[PyData.depth];lia,by simp only[PyData.weight];show oU r<|Go _ x]
def Yb.up(h:Yb n k d)(y:n<=m)(x:k<=j):Yb m j d:=#[h.1,h.2.1,oU h.2.2.1 x,oU h.2.2.2 y]
def d4(q:Yi):PyData:=.tuple [.str q.1,.str q.2.1,.str q.2.2.1,.str q.2.2.2]
def Ci(ss:mD mF)(val:mF->mD Yi):PyData:=.dict<|(ss.map PyData.str).zip (ss.map λt=>.list<|(val t).map d4)
def Wn.rps(h:Paired (λt (q:Yi)=>Ix H t q.1 q.2) ts ss):uC H (ss.map d4) (ts.map V.ref):=by
 induction h with
 | nil=>show .nil
 | cons z _ y=>show .cons (.tup z<|.cons (.str _)<|.cons (.str _)<|.cons (.str _)<|.cons (.str _) .nil) y
def Ye.rp{val:mF->mD Yi}(h:Ye H d es val):Rp H (Ci (es.map fst) val) (.ref d):=by
 have r:uC H (es.map λe=>.list<|(val e.1).map d4) ((Z0 V.ref es).map snd):=by
  have y:=h.2;clear h
  induction es with
  | nil=>show .nil
  | cons e es u =>
   obtain⟨x,s,q⟩:=y e pK;show .cons (.lst s<|Wn.rps q)<|u λx p=>y x<|pV _ p
 have:=Rp.dk h.1 r;rw[show(Z0 V.ref es).map (λp=>kD p.1)=(es.map fst).map PyData.str from by rw[show Z0 V.ref es=es.map λq=>(Sum.inr q.1,V.ref q.2)from rfl,qj,qj];rfl]at this;unfold Ci;rw[show(es.map fst).map (λt=>PyData.list<|(val t).map d4)=es.map λe=>.list ((val e.1).map d4)from by rw[qj];rfl];show this
def Yb.half(h:Yb n k d)(y:n<=100000):d.shown.length<=1000008:=by
 have:=PyData.shown_le 8 (by lk) d h.2.1;have:=h.2.2.2;lia
def RU:∀x∈uO,x.cps.toList.all qL=true/\x.length<=6:=by left
def CQ(h:x∈uO):Yb 6 0 (.str x):=.str (RU _ h).1 (RU _ h).2
def ES{x:mF}(z:X7 x):Yb 6 0 (.str x):=.str z.2.2.2 z.2.1
def YO:∀n<5,(PyData.int ((n:Nat):Int)).showable=true/\(PyData.int ((n:Nat):Int)).leavesShort 8=true/\(PyData.int ((n:Nat):Int)).depth<=0/\(PyData.int ((n:Nat):Int)).weight<=6:=by left
def RV{ss:mD mF}{m:Nat}(h:∀x∈ss,X7 x)(y:ss.length<=m):Yb (7 * m) 1 (.list<|ss.map PyData.str):=Yb.list (n:=6) (k:=0) (λd hd=>by
 obtain⟨x,u,rfl⟩:=oh.mp hd;show ES<|h x u) (by rw[nQ];show y)
def Rq{y:KY}{s:KC}{ss:mD mF}(p:ss.Perm (s.ln.map fst))(h:KX y s)(o:Xq y.ps y.js y.sg):Yb 24000 3 (Ci ss s.val):=by
 refine(Yb.dict (n:=1160) (k:=2) (m:=10) (λd hd=>?_) (by rw[List.length_zip,nQ,nQ,p.length_eq,nQ];have:=h.len;lia)).up (by lk) (by lk);obtain⟨a,b⟩:=d;obtain⟨l,j⟩:=ul hd;obtain⟨t,i,rfl⟩:=oh.mp l;obtain⟨u,a,rfl⟩:=oh.mp j;refine#[(ES<|h.nv<|p.mem_iff.mp i).up (by lk) (by lk),Yb.list (n:=28) (k:=1) (m:=40) (λc x=>?_) (by rw[nQ];show(h.pok u).len o)];obtain⟨q,g,rfl⟩:=oh.mp x;obtain⟨k,e,r⟩:=(h.pok u).st q g;refine Yb.tuple (n:=6) (k:=0) (m:=4) (λc x=>?_)<|oq 4;simp only[oM,tV,rC]at x;rcases x with rfl|rfl|rfl|rfl
 ·show ES<|o.name _ e
 ·show CQ r.2.2.1
 ·show CQ r.2.2.2.1
 ·show CQ r.2.2.2.2.1
def MZ{y:KY}{u:KC}{ss:mD mF}(s:ss.Perm (u.ln.map fst))(h:KX y u):Yb 28 1 (.list<|ss.map PyData.str):=RV (λx r=>h.nv<|s.mem_iff.mp r) (by rw[s.length_eq,nQ];show h.len)
def EJ(ss:mD mF)(lw:mD (mF×mF))(y:mD mF)(val:mF->mD Yi):PyData:=.list [.list (ss.map PyData.str),.dict<|(lw.map λp=>PyData.str p.1).zip (lw.map λp=>PyData.str p.2),.list<|y.map PyData.str,Ci ss val]
def Fv(ln:mD (mF×Nat))(ss:mD mF):PyData:=.list<|ss.map λt=>.int (((ln.lookup t).getD 0:Nat):Int)
def Eh(y:KC)(z:mF):Prop:=∃x u,x.Perm (y.ln.map fst)/\PyProof.Rows.sortedS x=true/\u.Perm (y.st.map fst)/\PyProof.Rows.sortedS u=true/\z=(EJ x y.lw u y.val).shown++(Fv y.ln x).shown
def Eh.one(h:Eh x z)(h':Eh x u):z=u:=by
 obtain⟨y,i,s,r,q,p,rfl⟩:=h;obtain⟨i,y,o,n,l,j,rfl⟩:=h';rw[Ac r n (s.trans o.symm),Ac p j<|q.trans l.symm]
def De{ss:mD mF}(h:H l=some (.lst<|ss.map V.str)):Rp H (.list<|ss.map PyData.str) (.ref l):=by
 refine .lst h ?_;clear h
 induction ss with
 | nil=>show .nil
 | cons x ss y=>show .cons (.str x) y
def SS{f:mF->Int}{ss:mD mF}(h:H l=some (.lst<|ss.map λt=>V.int<|f t)):Rp H (.list<|ss.map λt=>PyData.int<|f t) (.ref l):=by
 refine .lst h ?_;clear h
 induction ss with
 | nil=>show .nil
 | cons x ss y=>show .cons (.int _) y
def YT{lw:mD (mF×mF)}(h:H l=some (.dK<|Z0 V.str lw)):Rp H (.dict<|(lw.map λp=>PyData.str p.1).zip (lw.map λp=>PyData.str p.2)) (.ref l):=by
 have r:uC H (lw.map λp=>PyData.str p.2) ((Z0 V.str lw).map snd):=by
  clear h
  induction lw with
  | nil=>show .nil
  | cons e x y=>show .cons (.str _) y
 have:=Rp.dk h r;rw[show(Z0 V.str lw).map (λp=>kD p.1)=lw.map λp=>PyData.str p.1 from by rw[show Z0 V.str lw=lw.map λq=>(Sum.inr q.1,V.str q.2)from rfl,qj];rfl]at this;show this
open Classical in
def hard(Z:mG->Prop)(H:Hp):Hp:=λb=>if Z b then none else H b
def Wq{Z:mG->Prop}(e:H b=some o)(n:¬Z b):hard Z H b=some o:=(nY n).trans e
def An{Z:mG->Prop}(e:hard Z H b=some o):H b=some o/\¬Z b:=by
 unfold hard at e
 by_cases z:Z b
 ·rw[og z]at e;cases e
 ·rw[nY z]at e;show#[e,z]
inductive Pp:Sp
 | mk (H0 x y ad ct):vs=[.ref x]->oG T H0 H x y ad ct->(∀z H',nH H H'->Eh ct z->Q (.str z) H')->Pp vs H Q E
def Qe(hb:∃mm,nI.Ns sysModules mm):T.ej.O P w mg nI 5 (Pp T):=by
 refine T.ej.F.okW OD ?_;rfl'
 ·obtain⟨I,x,y,ad,g,rfl,l,q⟩:=h;intro X D;have B:∀{c:mD mF},c.Perm (g.ln.map fst)->c.length<=4:=λp=>by rw[p.length_eq,nQ];show l.kx.len
  refine nR (oj 1 OD<|Zn<|Zb (Yf (pv 0) T.ae T.aJ (Yz T) hr.m T.aw.b .nil Z4)<|Zb (Yf (pv 0) T.ae T.bV (Ws T) hr.m T.aT.b .nil Z4)<|Zb (Yf (pv 0) T.ae T.cP (HX T) hr.m T.bq.b .nil Z4)<|Zb (Yf (pv 0) T.ae T.cx (EN T) hr.m T.aW.b .nil Z4) Za) #[l.obj,rfl,I,x,y,ad,g,rfl,l,λc Y p2 u o M j e1=>#[(l.mono M).obj,rfl,I,x,y,ad,g,rfl,l.mono M,λe a G n2 e2=>#[(l.mono<|M.trans G).obj,rfl,I,x,y,ad,g,rfl,l.mono<|M.trans G,λO3 p3 p4 l3 H3 s3 n3 e3=>#[(l.mono<|M.trans<|G.trans s3).obj,rfl,I,x,y,ad,g,rfl,l.mono<|M.trans<|G.trans s3,λN2 l4 j8 H4 p5 p6 s4 n4 e4 f4 _=>#[nV,λl5 H5 s5 n5 e5=>?_]]]]];obtain rfl:=Ac p2 p6<|Y.trans p5.symm;have N6:=M.trans<|G.trans<|s3.trans<|s4.trans s5;have T5:=l.mono N6;have d1:Yb 96004 4 (EJ c g.lw O3 g.val):=by
   unfold EJ;refine Yb.up (Yb.list (n:=24000) (k:=3) (m:=4) (λd hd=>?_) (by show oq 4)) (by lk) (by lk);simp only[oM,tV,rC]at hd;rcases hd with rfl|rfl|rfl|rfl
   ·show(MZ Y l.kx).up (by lk) (by lk)
   ·refine(Yb.dict (n:=6) (k:=0) (m:=40) (λd hd=>?_) (by rw[List.length_zip,nQ,nQ];have:=l.lwl;lia)).up (by lk) (by lk);obtain⟨a,b⟩:=d;obtain⟨o,hb⟩:=ul hd;obtain⟨t,N,rfl⟩:=oh.mp o;obtain⟨u,j,rfl⟩:=oh.mp hb;show#[ES<|l.yv.name _<|(l.kx.lpt t.1).mp (oh.mpr #[t,N,rfl]),CQ<|l.kx.lok u j]
   ·refine(RV (m:=40) (λt N=>?_) (by rw[p3.length_eq,nQ];show l.stl)).up (by lk) (by lk);obtain⟨L,J,rfl⟩:=oh.mp<|p3.mem_iff.mp N;show l.yv.name _ (l.kx.sok L J).1
   ·show Rq Y l.kx l.yv
  have d2:Yb 70 1 (Fv g.ln c):=by
   refine Yb.list (n:=6) (k:=0) (m:=10) (λd hd=>?_) (by rw[nQ];have:=B Y;lia);obtain⟨t,N,rfl⟩:=oh.mp hd;obtain⟨L,J,rfl⟩:=oh.mp<|Y.mem_iff.mp N;rw[Xi l.kx.lnd J];show YO L.2<|Nat.lt_succ_of_le (l.kx.ok L J).2.2
  have z1:=d1.half (by lk);have z2:=d2.half (by lk);have e0:sizeLine=16777216:=rfl;have r1:Rp H5 (EJ c g.lw O3 g.val) (.ref l5):=.lst e5<|.cons (De<|(G.trans<|s3.trans<|s4.trans s5).at e1)<|.cons (YT<|(s3.trans<|s4.trans s5).at e2)<|.cons (De<|(s4.trans s5).at e3)<|.cons (f4 ▸ (e4.mono s5).rp) .nil;refine nU (Zl<|Zr W0 (Z5 (r:=zA) (Bu hb hr.gd hr.units) (by rfl) T.fN BU<|Zb (pv 1) Za)<|Z5 (r:=zA) (Bu hb hr.gd hr.units) (by rfl) T.fN BU<|Zb (qh ["_law_name","_law_keeper"] (pF 1 [0] rfl) (Yd<|Yf (pv 0) T.ae T.aJ (Yz T) hr.m T.aw.b .nil Z4) (pc 0) X8 (Z6 (pv 1) T.ae T.dm (NL T) hr.m T.bx.b .nil yY<|Zb (pv 0) Za)) Za) #[l5,_,rfl,r1,d1.1,oU d1.2.2.1 (by lk),by lia,T5.obj,rfl,I,x,y,ad,g,rfl,T5,λN2 p7 p8 u H6 s6 o e6=>?_];obtain rfl:=Ac p2 p8<|Y.trans p7.symm;refine#[nS e6,λC hC=>Yp (xs:=c.map V.str) (λi ys H'=>ys=((c.take i).map λt=>V.int (((g.ln.lookup t).getD 0:Nat):Int))/\H' C=some (.lst ys)/\nH H6 H') #[rfl,Zc,pP hC] ?_ ?_ ?_]
  ·rintro i ys H' _ ⟨_,_,u⟩;show nS<|u.at e6
  ·rintro j v ys H7 a ⟨rfl,U,s7⟩;rw[oF]at a;obtain⟨t,N,rfl⟩:=oN.mp a;obtain⟨L,J,rfl⟩:=oh.mp<|Y.mem_iff.mp<|qf N;have u:=T5.mono<|s6.trans s7;have M8:=B Y;unfold ro;refine#[pE rfl,u.obj,rfl,I,x,y,ad,g,L,rfl,u,J,λH8 s8=>#[s8.at U,?_,?_,Zc,λb o e=>?_]]
   ·rw[nQ,oZ];show Zo (by lia)
   ·rw[oW,N,oy];change _=_++[V.int (((g.ln.lookup L.1).getD 0:Nat):Int)];rw[Xi l.kx.lnd J]
    rfl
   ·rw[Zd (Zf e hC)];show s8.at<|s7.at e
  ·rintro ys H7 ⟨rfl,U,s7⟩;rw[nQ,pQ]at U;have u:Rp H7 (Fv g.ln c) (.ref C):=SS U;show#[C,_,rfl,u,d2.1,oU d2.2.2.1 (by lk),by lia,.inr<|.inl #[_,_,rfl,rfl,by lia,q _ H7 (N6.trans<|s6.trans s7) #[c,O3,Y,p2,p3,p4,rfl]]]
def BK{u:KY}{ad:tI}{l:KC}(j:oG T h H x u ad l)(q:uk T h x u l Q)(I:Clo H Pt g e D N n o)
  (C:Paired (λx v=>∃(i:Nat)(a:mG),X.N[i]? =some x/\y[i]? =some (some v)/\X.env.scope.names.lookup x=some .cell/\X.env.cells.lookup x=some a/\n.names.lookup x=some .free/\o.lookup x=some a) fs fvs)
  (body:∀(G:Hp)(c:mG)(A:mT)(d:mD Env)(s:mI)(E:XK)(M:VK),nH H G->oG T h G x u ad l->uk T h x u l M->vL T G E->Y2 9 (A.deeper<|PySem.W.envX e n #v[s] g (.ref c) o)->WE (AH P w K mg nI fs e n g (.ref c) o A d s G E) N (fvs.map some) G M) (B:∀p∈o,p.1∈fs:=by simp) (one:(o.map fst).Nodup:=by simp;decide +kernel) (apart:(o.map snd).Nodup:=by simp<;>lia)
  (hb:∀(pm c8 B6:mH),bindArgs (PySem.W.kla_fn "<lambda>" e D N n o pm c8 B6) #[[],[]]=pure []:=by intros;rfl) (A3:∀u∈n.names,u.2=.free->u.1∈fs:=by left) (Y:∀u∈n.names,u.2≠.cell:=by left)
  (hk:n.kind=.function:=by rfl) (T8:n.isCoroutine=false:=by rfl) (K6:n.isGenerator=false:=by rfl) :
  CT X y H (λH2 Q2=>EO P w nI T [.ref g] H2 Q2 E0) Q :=
 Zs5 T I C B one apart hb A3 Y hk T8 K6 λG c A d s E L qe hr=>body G c A d s E _ L (j.mono L) (λv J N4 r k st U bk=>q _ U _ r (k.back bk j.same) st) (λr po dx J h8 T6 s' hd=>qe r po dx J h8 T6 s' hd λv U s3=>q v U ad l (j.mono s3) λ_ _ _ z=>z) hr
def Gk(sn:mF)(qs:mD S4):Tr:=.tup<|.str sn ::qs.map xT
def qV.im{qs:mD S4}(h:qV u H t sn qs):Im K H 2 (Gk sn qs) (.ref t):=by
 obtain⟨s,y,x⟩:=h;show wp (n:=1) (nX y)<|.cons (.str _) x.im
def Yfh{ts:mD mG}{y:mD (mD S4)}(h:Paired (λt ss=>qV u H t sn ss) ts y):Paired (Im K H 2) (y.map<|Gk sn) (ts.map V.ref):=by
 induction h with
 | nil=>show .nil
 | cons r _ x=>show .cons r.im x
inductive Oa:Sp
 | mk (H0 x y dt ad ct td nm) (cell:Int):vs=[.ref x,.ref y.tr,.str nm,.int cell,.ref dt]->oG T H0 H x y ad ct->nm∈ct.ln.map fst->H dt=some (.dK<|Z0 V.bl td)->uk T H0 x y ct Q->Oa vs H Q E
def Ztl:T.dR.O P w mg nI 12 (Oa T):=by
 refine T.dR.F.okL T.eV zy λcdc A nG s H vs Q E hL d h=>?_
 ·obtain⟨H0,x,u,dt,ad,ct,td,nm,cell,rfl,o,hm,E1,q⟩:=h;intro X D;obtain⟨l,_,_,_,_,_,_,_,_,P9,_⟩:=o.tk.ex;have u6:=o.kx.pne nm hm;refine nR (oj 5 zy<|oi (Z6 (pv 0) T.ae T.bE (X5 T) d.m T.aM.b .nil yY<|Zb (pv 2) Za)<|wo wq Ze) #[o.obj,rfl,H0,x,u,ad,ct,nm,rfl,o,λl g _ s1 c P1=>?_,λz=>absurd hm z];obtain⟨l,tq,Y,hl,g,la,rq,_⟩:=P1.last u6;refine .inl #[nS hl,la,?_];refine nR (oj 6 zy<|Z6 (pv 1) T.af T.bu (X0 T) d.m T.aF.b .nil Z4<|Zb (Zi<|Zb (oi (pv 5) Ze)<|Zb (oi (pv 5) Ze) Za) Za) #[s1.at P9,rfl,.inr<|.inl #[nX rq,Zm (j:=0) rfl,.inr<|.inl #[nX rq,Zm (j:=2) rfl,nV,λl c s2 G g=>#[u.tr,l,(Y.1,Y.2.2.1),u.ps,u.js,u.sg,rfl,(o.mono<|s1.trans s2).tk,o.yv,g,λi hn=>?_]]]];refine nR (oj 7 zy<|Zn Za) #[nV,λl3 l s3 g e3=>?_];have C5:=s1.trans<|s2.trans s3;have R6:=o.mono C5;let I24:IC:=λy H'=>∃(L:mG)(U:mD (mD S4)),y=[some (.ref x),some<|.ref u.tr,some<|.str nm,some<|.int cell,some<|.ref dt,some<|.ref tq,some<|.str i,some<|.ref L,none]/\nH H H'/\rL (qH u.ps) H' L i U/\(U≠[]->∃e:Zh,((i,e):mF×mF×mF)∈u.sg/\∀r∈U,zZ u.js u.sg e r)
  refine qk I24 (qp (Zx (rV d (pv 6) Zg) Zq Zk)<|.inl #[rfl,Z7 (λz=>?_) λ_=>#[l3,[],rfl,C5,#[[],e3,.nil],λz=>absurd rfl z]]) ?_
  ·have z:i≠ "":=λu=>by
    rw[u]at z;show absurd z (by left)
   rcases hn with⟨l,_,_⟩|⟨l,_⟩
   ·obtain⟨g,M,c⟩:=oh.mp l;have M:((i,(Y.1,Y.2.2.1)):mF×mF×mF)∈u.sg:=(show g=(i,Y.1,Y.2.2.1)from c) ▸ M;show nU (oj 7 zy<|Zv (VY T) d<|Zb (pv 1)<|Zb (pv 6) Za) #[u.tr,(i,(Y.1,Y.2.2.1)),u.ps,u.js,u.sg,rfl,R6.tk,o.yv,M,λL U H4 C G J hz ok=>#[L,U,rfl,C5.trans C,J,λ_=>#[_,M,ok]]]
   ·show absurd l z
  rintro y H4 ⟨L,U,rfl,C,⟨B,e4,J⟩,hsg⟩;have D1:=oz J;refine nR (Zx (pY d (pv 7)<|Zn Za) Zq Zk) #[nV,λG H5 N n5 l=>.inr<|.inl #[3,.lst<|U.map<|Gk i,.lst [],by lk,.inr #[_,_,rfl,rfl],rM (nS<|N.at e4)<|Yfh<|oA J λ_ _ r=>r.mono N,rM (nS l) .nil,Z7 (λz=>nU (Zl<|Zi<|Zb Zg<|Zb Zg Za) #[nV,λt6 g c _ _=>q _ g ad ct (o.mono<|C.trans<|N.trans c) λ_ _ _ z=>z]) λz=>?_]];have M6:U≠[]:=λu=>z (by rw[u];show oO rfl)
  obtain⟨e,M,okr⟩:=hsg M6;have N6:=C.trans N;have T5:=o.mono N6;have I:0<B.length:=by rw[D1];show Nat.pos_of_ne_zero λu=>M6<|BJ.mp u
  obtain⟨j,hj,B5⟩:=yN (a:=cell) (n:=B.length) I;obtain⟨p,hu⟩:∃p,B[j]? =some p:=#[_,pJ B5]
  obtain⟨qs,hqs,ru⟩:=pG J hu;refine nR (oj 8 zy<|oi (pv 7)<|Zr Ym (pv 3)<|qt T.aY<|pv 7)<|.inl #[.inl<|nS<|N.at e4,(by rw[nQ];change(0:Int)<_;lia),.inl #[nS<|N.at e4,(show pz _ (cell%(((B.map V.ref).length:Nat):Int))=some (.ref p)from by rw[nQ,hj];show Zm<|by rw[oF,hu];rfl),?_]];have tb5:=o.tb.mono T5.same;refine nU (Zl<|Zi<|Zb (pv 8)<|Zb (Bh (Wt T) d.m (λ_=>rfl) rfl T.ak.m T.ak.F.kp T.ak.b<|Zb (AR (Pt:=T.bY) rfl hL) Za) Za) #[_,tb5._law_led,pK,λfl H7 l n7 cl=>BK T (T5.mono l) (λv H8 ad8 g k8 st8=>#[nV,λt10 T0 y7 _ _=>q _ T0 _ g (k8.mono y7) st8]) cl (fs:=["_law_keeper","_law_name","_law_way","_law_seen"]) (fvs:=[.ref x,.str nm,.ref p,.ref dt]) (.cons #[0,_,rfl,rfl,rfl,rfl,rfl,rfl]<|.cons #[2,_,rfl,rfl,rfl,rfl,rfl,rfl]<|.cons #[8,_,rfl,rfl,rfl,rfl,rfl,rfl]<|.cons #[4,_,rfl,rfl,rfl,rfl,rfl,rfl] .nil) λG c A nG s E Q' sG Q3 qd qn d=>tz (Z6 (pv 0) T.ae T.eI (Zip T) d.m T.bR.b .nil By<|Zb (pv 1)<|Zb (pv 2)<|Zb (pv 3) Za) #[Q3.obj,rfl,H0,x,u,p,dt,ad,ct,td,nm,(i,e),qs,rfl,Q3,hm,M,ru.mono<|N.trans<|l.trans sG,okr _<|qf hqs,(N6.trans<|l.trans sG).at E1,qd,qn]]
def qX.offL(h:qX H C x nm)(y:H c=some (.lst xs)):qX (nO H c o) C x nm:=by
 obtain⟨u,h⟩:=h;show#[u,(Zd λz=>by rw[z,y]at h;cases h).trans h]
def Ew(H:Hp)(t:mG)(ps:mD Zh)(s:mD (Zh×Zh))(r:mD (mF×mF×mF)):Prop:=∃y x u,H t=some (.tup [.ref y,.ref x,.ref u])/\Zy H y ps/\Yo H x s/\vh H u r
inductive Pb:Sp
 | mk (t ps js sg):vs=[.ref t]->Ew H t ps js sg->Xq ps js sg->(∀x H',nH H H'->H x=none->Yh T H' x ps js sg->Q (.ref x) H')->Pb vs H Q E
def Zmd:T.dM.O P w mg nI 7 (Pb T):=by
 refine T.dM.F.okA ?_;rfl'
 ·obtain⟨t,U,js,sg,rfl,⟨u,jl,sl,N,⟨ts,M,L⟩,B5,M8⟩,a,q⟩:=h;intro X D;have G9:=oz L;have J:=a.len;refine nU (Zl<|wJ (QX T) T.iG (Uu T) hr.m rfl T.iW T.bF.b .nil Z4 (XE T)<|Zb (qh ["_law_kind","_law_name"] (pF 2 [] rfl) (Yd<|oi (pv 0) Ze) (xB (K:=K) (n:=2) rfl rfl<|Zu (pc 0)<|Zu (pc 1) Y5) X8 (Zv (UL T) hr<|Zb (pv 0)<|Zb (pv 1) Za))<|Zb (oi (pv 0) Ze)<|Zb (oi (pv 0) Ze) Za)<|.inr<|.inl #[nX N,Zm (j:=0) rfl,nS M,λD I=>Yp (K:=K) (xs:=ts.map V.ref) (λi e Y=>(∃r:mD mG,e=r.map V.ref/\Paired (PO T Y) r (U.take i))/\Y D=some (.lst e)/\nH H Y) #[#[[],rfl,.nil],Zc,pP I] ?_ ?_ ?_]
  ·rintro i e Y _ ⟨_,_,u⟩;show nS<|u.at M
  ·rintro i v e H1 G ⟨⟨r,rfl,d⟩,c,y⟩;rw[oF]at G;obtain⟨u,hu,rfl⟩:=oN.mp G;obtain⟨p,B,l⟩:=pG L hu;have l:H u=some (.tup [.str p.1,.str p.2]):=l;have hm:p∈U:=qf B;have hxl:r.length<=100:=by
    have:=oz d;rw[oZ]at this;lia
   refine#[nX<|y.at l,rfl,rfl,(pE rfl).trans (pE rfl),p.1,p.2,rfl,a.net.kind p hm,(a.name p hm).2.1,λx C H2 g n2 hC hO=>#[g.at c,by rw[nQ];show Zo (by lia),#[r++[x],by rw[oy];rfl,?_],Zc,λb o z=>?_]]
   ·rw[oW,B];show qc (oA d λ_ _ ⟨C,o,z2⟩=>#[C,o,(z2.mono g).offL (g.at c)])<|.cons #[C,hC,hO.offL<|g.at c] .nil
   ·rw[Zd (Zf z I)];show g.at<|y.at z
  ·rintro e H1 ⟨⟨r,rfl,d⟩,c,y⟩;rw[nQ,G9,pQ]at d;show(.inr<|.inl #[nX<|y.at N,Zm (j:=1) rfl,.inr<|.inl #[nX<|y.at N,Zm (j:=2) rfl,D,jl,sl,r,U,js,sg,rfl,c,d,B5.mono y,M8.mono y,a,λx H2 g n2 u=>q x H2 (y.trans g) (y.free n2) u]])
def Wo(f:mF->Bool)(ps:mD Zh):mD mF:=(ps.filter λp=>f p.1).map snd
def MB(f:mF->Bool)(ps:mD Zh):(Wo f ps).length<=ps.length:=by
 unfold Wo;rw[nQ];show yI _ _
def Lj{f:mF->Bool} :n∈Wo f ps↔∃k,((k,n):Zh)∈ps/\f k=true:=by
 unfold Wo
 constructor
 ·intro h;obtain⟨p,u,rfl⟩:=oh.mp h;obtain⟨y,x⟩:=uN.mp u;show#[p.1,y,x]
 ·rintro⟨k,y,x⟩;show oh.mpr #[_,uN.mpr #[y,x],rfl]
def FS{f:mF->Bool}(U:r pl=some (.lst<|ts.map V.ref))(d:Paired (Zp r) ts ps)(C:ps.length<=100)(c:r D=none)(q:∀u,nH r u->u D=some (.lst<|(Wo f ps).map V.str)->Q (.ref D) u){fr:St->St}(N:fr y=[none,none])(h:∀y H Q s,y[0]? =some (some<|V.str s)->Q (f s) H->M y H Q)(L:J=sJ 1) :
  sj (vJ K pl) fr (GN K 2<|GH (rT 0)<|GH (rT 1) LZ) M J Q y r D:=by
 refine Yp (xs:=ts.map V.ref) (λi p u=>p=(Wo f<|ps.take i).map V.str/\u D=some (.lst p)/\nH r u) #[rfl,Zc,pP c] ?_ ?_ ?_
 ·rintro i p u _ ⟨_,_,n⟩;show nS<|n.at U
 ·rintro j v p u a ⟨rfl,Y,n⟩;rw[oF]at a;obtain⟨t,g,rfl⟩:=oN.mp a;obtain⟨⟨s,e⟩,I,G⟩:=pG d g;have E:=MB f<|ps.take j;rw[oZ]at E;have l:Wo f (ps.take<|j+1)=Wo f (ps.take j)++if f s=true then[e]else[]:=by
   unfold Wo;rw[oW,I,vw,oy,show(some ((s,e):Zh)).toList=[(s,e)]from rfl,tJ];split<;>rfl
  unfold ro;rw[N,L];refine#[nX<|n.at G,rfl,rfl,(pE rfl).trans (pE rfl),h _ _ _ s rfl<|Z7 (λz=>?_) λz=>?_]
  ·rw[l,og z];refine#[Y,by rw[nQ];show Zo (by lia),by rw[oy];rfl,Zc,λb o x=>?_];rw[Zd (Zf x c)];show n.at x
  ·rw[l,nY z,qM];show#[rfl,Y,n]
 ·rintro p x ⟨rfl,o,l⟩;refine q x l ?_;rw[o,nQ,oz d,pQ]
def Eb{H:Hp}{l:mG}{ss:mD mF}(h:H l=some (.lst<|ss.map V.str)):Im K H 1 (.lst<|ss.map Tr.str) (.ref l):=rM (n:=0) (nS h)<|Paired.strs _
def Dp(k:mF):Bool:=decide<|V.str k=V.str "gate"
def Zxx :n∈Wo Dp ps↔(("gate",n):Zh)∈ps:=by
 rw[Lj]
 constructor
 ·rintro⟨k,y,x⟩;rw[<-V.str.inj (pA x)];show y
 ·show λh=>#[_,h,oO rfl]
def zf(k:mF):Bool:=decide<|V.str k=V.str "points"
def Hm:n∈Wo zf ps↔(("points",n):Zh)∈ps:=by
 rw[Lj]
 constructor
 ·rintro⟨k,y,x⟩;rw[V.str.inj (pA x)]at y;show y
 ·show λh=>#[_,h,by left]
def zV{l:mD mF}(k:l≠[])(c:Int):∃g∈l,pz (l.map V.str) (c%(((l.map V.str).length:Nat):Int))=some (.str g):=by
 obtain⟨j,x,u⟩:=yN (a:=c)<|yE.mpr k;obtain⟨g,y⟩:∃g,l[j]? =some g:=#[_,pJ u]
 refine#[g,qf y,?_];rw[nQ,x];show Zm (by rw[oF,y];rfl)
inductive LD:Sp
 | mk (H0 x y yl dt ad ct td) (cell:Int):vs=[.ref x,.ref y.tr,.ref yl,.int cell,.ref dt]->oG T H0 H x y ad ct->Ew H yl y.ps y.js y.sg->H dt=some (.dK<|Z0 V.bl td)->¬ad.F dt->uk T H0 x y ct Q->LD vs H Q E
inductive DJ(T:Tx K mg)(H0 H:Hp)(x:Addr)(y:KY)(ad:tI)(ct:KC)(yl:Addr)(cell:Int)(dt lg:Addr)(wy:Nat)(nm:Str)(lp:Addr)(m:Nat):St->Hp->Prop
 | mk (o7 o8 N4 J9):oG T H0 H' x y N4 J9->Su ct J9->(wy<m\/(nH H H'/\N4=ad/\J9=ct))->DJ T H0 H x y ad ct yl cell dt lg wy nm lp m [some (.ref x),some<|.ref y.tr,some<|.ref yl,some<|.int cell,some<|.ref dt,some<|.ref lg,some<|.int (wy:Nat),o7,o8,some<|.str nm,some<|.ref lp] H'
def DJ.up(h:DJ U r H x u ad q p cell o n l nm j m y i)(s:nH i g)(k:m<=e):DJ U r H x u ad q p cell o n l nm j e y g:=by
 obtain⟨d,c,a,Y,Q,N,M⟩:=h;show .mk d c a Y (Q.mono s) N<|M.imp (λz=>qB z k) λz=>#[z.1.trans s,z.2]
def Ec:∀w<16,(ue (.int ((w:Nat):Int)) [.int 2,.int 3]=true->2<=w/\w<4)/\(ue (.int ((w:Nat):Int)) [.int 5,.int 6]=true->5<=w/\w<7)/\(ue (.int ((w:Nat):Int)) [.int 7,.int 8,.int 9]=true->7<=w/\w<10)/\(ue (.int ((w:Nat):Int)) [.int 10,.int 11,.int 12,.int 13]=true->10<=w/\w<14):=by left
def VG:T.dz.O P w mg nI 13 (LD T):=by
 refine T.dz.F.okL T.eG We λcdc A nG s H vs Q E hL p h=>?_
 ·obtain⟨I,x,u,yl,M,ad,ct,td,cell,rfl,hw,⟨pl,jl,sl,y1,⟨ts,y2,y3⟩,_⟩,E1,nF,q⟩:=h;intro X D;have ylen:=hw.yv.len;obtain⟨nm,hnt,hna⟩:=zV (l:=zN) (by lk)<|cell / 16;obtain⟨lie,hli,hla⟩:=zV (l:=["left","right"]) (by lk)<|cell / 64;obtain⟨ml,hml,hm4⟩:=yN (a:=cell / 64) (n:=4) (by lk);obtain⟨L,hwy,M9⟩:=yN (a:=cell) (n:=16) (by lk);refine nR (oj 9 We<|oi (Zn<|Zb Zg<|Zb Zg<|Zb Zg<|Zb Zg Za)<|Zr Ym (Zr Yn (pv 3) Ze) Ze) #[nV,λl1 H1 s1 n1 e1=>#[#[by lk,by lk],(by change(0:Int)<4;decide),.inl #[nS e1,hna,?_]]];let I25:IC:=λy H'=>∃lg,y=[some (.ref x),some<|.ref u.tr,some<|.ref yl,some<|.int cell,some<|.ref M,some<|.ref lg,none,none,none,some<|.str nm,none]/\nH H H'/\H' lg=some (.lst<|(Wo Dp u.ps).map V.str)
  refine qk I25 (qp (xP 5 ["_law_kind","_law_one"] We (pF 2 [] rfl) (Yd<|oi (pv 2) Ze) (xB (K:=K) (n:=2) rfl rfl<|Zu (pc 0)<|Zu (pc 1) Y5) (sO<|Yg (r:=BH K) (El p) (pv 0) Zg<|Yv _) (pv 1))<|.inr<|.inl #[nX<|s1.at y1,Zm (j:=0) rfl,nS<|s1.at y2,λD hD=>FS (f:=Dp) (s1.at y2) (oA y3 λ_ _ r=>r.mono s1) (by lia) hD (λHD sD eD=>#[D,rfl,s1.trans sD,eD]) ?aa (λ_ _ _ _ e h=>oV.of e<|.inl #[rfl,h]) ?cc]) ?_
  case aa=>rfl
  case cc=>rfl
  rintro y H2 ⟨lg,rfl,s2,eg⟩;let I26:IC:=λy H'=>∃lp,y=[some (.ref x),some<|.ref u.tr,some<|.ref yl,some<|.int cell,some<|.ref M,some<|.ref lg,none,none,none,some<|.str nm,some<|.ref lp]/\nH H2 H'/\H' lp=some (.lst<|(Wo zf u.ps).map V.str)
  refine qk I26 (qp (oj 10 We<|qh ["_law_kind","_law_one"] (pF 2 [] rfl) (Yd<|oi (pv 2) Ze) (xB (K:=K) (n:=2) rfl rfl<|Zu (pc 0)<|Zu (pc 1) Y5) (sO<|Yg (r:=BH K) (El p) (pv 0) Zg<|Yv _) (pv 1))<|.inr<|.inl #[nX<|s2.at y1,Zm (j:=0) rfl,nS<|s2.at y2,λD hD=>FS (f:=zf) (s2.at y2) (oA y3 λ_ _ r=>r.mono s2) (by lia) hD (λHD sD eD=>#[D,rfl,sD,eD]) ?ab (λ_ _ _ _ e h=>oV.of e<|.inl #[rfl,h]) ?cd]) ?_
  case ab=>rfl
  case cd=>rfl
  rintro y H3 ⟨lp,rfl,s3,d⟩;have eg:=s3.at eg;have C5:=s2.trans s3;have R6:=hw.mono C5;have E1:=C5.at E1;have hwy:cell%16=(L:Int):=hwy;let J:Nat->St->Hp->Prop:=DJ T I H3 x u ad ct yl cell M lg L nm lp;refine qk (J 0) (qp (oj 6 We<|Zr Ym (pv 3) Ze) #[(by change(0:Int)<16;decide),?_]) ?_
  ·change J 0 [some (.ref x),some<|.ref u.tr,some<|.ref yl,some<|.int cell,some<|.ref M,some<|.ref lg,some<|.int<|cell%16,none,none,some<|.str nm,some<|.ref lp] H3;rw[hwy];show .mk none none ad ct R6 (λ_ _ _ z=>z)<|.inr #[qu _,rfl,rfl]
  have dn:∀{m:Nat}{o7 o8:mJ V},L<m->uk T I x u ct (λ_ H'=>J m [some (.ref x),some<|.ref u.tr,some<|.ref yl,some<|.int cell,some<|.ref M,some<|.ref lg,some<|.int (L:Nat),o7,o8,some<|.str nm,some<|.ref lp] H'):=λh v H' N4 J9 k st=>.mk _ _ _ _ k st<|.inl h
  intro y H4 o;refine qk (J 1) ?_ ?_
  ·obtain⟨o7,o8,N4,J9,k,st,c⟩:=id o;refine qp (Zx (rc<|wk (pY p (pv 6) Ze)<|vQ<|rV p (pv 10)<|Zn Za) Zq Zk)<|.inl #[rfl,Z7 (λz=>#[nV,λl H5 i n5 C=>?_]) λz=>o.up (qu _)<|by lk];have z:L=0:=CO<|V.int.inj<|pA z;obtain⟨N,rfl,rfl⟩:=c.resolve_left (by lia);have d:=(N.trans i).at d;have k:=k.mono i;refine .inr<|.inl #[1,_,.lst [],by lk,.inr #[_,_,rfl,rfl],Eb d,rM (nS C) .nil,Z7 (λg=>?_) λ_=>o.up i<|by lk];have g:Wo zf u.ps≠[]:=λe=>by rw[e]at g;simp at g
   obtain⟨pt,F4,B4⟩:=zV g<|cell / 64;show nU (Zt<|Z6 (pv 0) T.ae T.eJ (Zh6 T) p.m T.bS.b .nil Z4<|Zb (oi (pv 10)<|Zr Ym (Zr Yn (pv 3) Ze)<|qt T.aY<|pv 10) Za) #[k.obj,rfl,#[by lk,by lk],.inl #[.inl<|nS d,(by rw[nQ];have:=yE.mpr g;change(0:Int)<_;lia),.inl #[nS d,B4,I,x,u,_,_,pt,rfl,k,Hm.mp F4,dn<|by lia]]]
  intro y H4 o;refine qk (J 2) ?_ ?_
  ·obtain⟨o7,o8,N4,J9,k,st,c⟩:=id o;refine qp (Zx (rc<|wk (pY p (pv 6) Ze)<|vQ<|rV p (pv 10)<|Zn Za) Zq Zk)<|.inl #[rfl,Z7 (λz=>#[nV,λl H5 i n5 C=>?_]) λz=>o.up (qu _)<|by lk];have z:L=1:=CO<|V.int.inj<|pA z;obtain⟨N,rfl,rfl⟩:=c.resolve_left (by lia);have d:=(N.trans i).at d;have k:=k.mono i;refine .inr<|.inl #[1,_,.lst [],by lk,.inr #[_,_,rfl,rfl],Eb d,rM (nS C) .nil,Z7 (λg=>?_) λ_=>o.up i<|by lk];have g:Wo zf u.ps≠[]:=λe=>by rw[e]at g;simp at g
   obtain⟨pt,F4,B4⟩:=zV g<|cell / 64;show nU (Zt<|Z6 (pv 0) T.ae T.eW (Zjb T) p.m T.bW.b .nil Z4<|Zb (oi (pv 10)<|Zr Ym (Zr Yn (pv 3) Ze)<|qt T.aY<|pv 10) Za) #[k.obj,rfl,#[by lk,by lk],.inl #[.inl<|nS d,(by rw[nQ];have:=yE.mpr g;change(0:Int)<_;lia),.inl #[nS d,B4,I,x,u,_,_,pt,rfl,k,Hm.mp F4,dn<|by lia]]]
  intro y H4 o;refine qk (J 4) ?_ ?_
  ·obtain⟨o7,o8,N4,J9,k,st,c⟩:=id o;refine qp (Zx (rc<|wk (sX p (pv 6)<|Zi<|Zb Ze<|Zb Ze Za)<|vQ<|rV p (pv 10)<|Zn Za) Zq Zk) #[nV,λt H5 i n5 C=>.inl #[.inr<|nX C,rfl,rfl,Z7 (λz=>#[nV,λl H6 s6 n6 e6=>?_]) λz=>o.up i<|by lk]];have z:=(Ec L M9).1 z;obtain⟨N,rfl,rfl⟩:=c.resolve_left (by lia);have Y:=N.trans<|i.trans s6;have d:=Y.at d;refine .inr<|.inl #[1,_,.lst [],by lk,.inr #[_,_,rfl,rfl],Eb d,rM (nS e6) .nil,Z7 (λg=>?_) λ_=>o.up (i.trans s6)<|by lk];have g:Wo zf u.ps≠[]:=λe=>by rw[e]at g;simp at g
   obtain⟨pt,F4,B4⟩:=zV g<|cell / 128;refine nR (oj 8 We<|oi (Zn<|Zb Zg<|Zb Zg Za)<|Zr Ym (Zr Yn (pv 3) Ze) Ze) #[nV,λl7 H7 U n7 e7=>#[#[by lk,by lk],(by change(0:Int)<2;decide),.inl #[nS e7,hla,?_]]];have k:=R6.mono<|Y.trans U;have d:=U.at d;have E1:=(Y.trans U).at E1;refine nU (Zt<|Bh (Wt T) p.m (λ_=>rfl) rfl T.ak.m T.ak.F.kp T.ak.b<|Zb (AR (Pt:=T.aV) rfl hL) Za) #[_,(hw.tb.mono k.same)._law_deed,(.head _),λfl H7 U n7 cl=>BK T (k.mono U) (dn<|by lia) cl (fs:=["_law_keeper","_law_points","_law_cell","_law_lie","_law_seen"]) (fvs:=[.ref x,.ref lp,.int cell,.str lie,.ref M]) (.cons #[0,_,rfl,rfl,rfl,rfl,rfl,rfl]<|.cons #[10,_,rfl,rfl,rfl,rfl,rfl,rfl]<|.cons #[3,_,rfl,rfl,rfl,rfl,rfl,rfl]<|.cons #[8,_,rfl,rfl,rfl,rfl,rfl,rfl]<|.cons #[4,_,rfl,rfl,rfl,rfl,rfl,rfl] .nil) λG c A nG s E Q' sG B qd qn p=>tz (Z6 (pv 0) T.ae T.ge (XU T) p.m T.cE.b .nil By<|Zb (oi (pv 1)<|Zr Ym (Zr Yn (pv 2) Ze)<|qt T.aY<|pv 1)<|Zb (pv 3)<|Zb (pv 4) Za) #[B.obj,rfl,#[by lk,by lk],.inl #[.inl<|nS<|(U.trans sG).at d,(by rw[nQ];have:=yE.mpr g;change(0:Int)<_;lia),.inl #[nS<|(U.trans sG).at d,B4,I,x,u,_,_,pt,lie,M,td,rfl,B,Hm.mp F4,hli,(U.trans sG).at E1,qd,qn]]]]
  intro y H4 o;refine qk (J 5) ?_ ?_
  ·obtain⟨o7,o8,N4,J9,k,st,c⟩:=id o;refine qp (Zx (pY p (pv 6) Ze) Zq Zk)<|.inl #[rfl,Z7 (λz=>?_) λz=>o.up (qu _)<|by lk];have z:L=4:=CO<|V.int.inj<|pA z;obtain⟨N,rfl,rfl⟩:=c.resolve_left (by lia);show nU (Zt<|Bh (Wt T) p.m (λ_=>rfl) rfl T.ak.m T.ak.F.kp T.ak.b<|Zb (AR (Pt:=T.aV) rfl hL) Za) #[_,(hw.tb.mono k.same)._law_deed,(.tail _<|.head _),λfl H7 U n7 cl=>BK T (k.mono U) (dn<|by lia) cl (fs:=["_law_keeper","_law_name"]) (fvs:=[.ref x,.str nm]) (.cons #[0,_,rfl,rfl,rfl,rfl,rfl,rfl]<|.cons #[9,_,rfl,rfl,rfl,rfl,rfl,rfl] .nil) λG c A nG s E Q' sG B qd qn p=>tz (Z6 (pv 0) T.ae T.fL (Zkg T) p.m T.cp.b .nil By<|Zb (pv 1) Za) #[B.obj,rfl,I,x,u,_,_,nm,rfl,B,qd,qn]]
  intro y H4 o;refine qk (J 7) ?_ ?_
  ·obtain⟨o7,o8,N4,J9,k,st,c⟩:=id o;refine qp (Zx (sX p (pv 6)<|Zi<|Zb Ze<|Zb Ze Za) Zq Zk) #[nV,λt H5 i n5 C=>.inl #[.inr<|nX C,rfl,rfl,Z7 (λz=>?_) λz=>o.up i<|by lk]];have z:=(Ec L M9).2.1 z;obtain⟨N,rfl,rfl⟩:=c.resolve_left (by lia);have k:=k.mono i;show nU (Zt<|Bh (Wt T) p.m (λ_=>rfl) rfl T.ak.m T.ak.F.kp T.ak.b<|Zb (AR (Pt:=T.aV) rfl hL) Za) #[_,(hw.tb.mono k.same)._law_deed,(.tail _<|.tail _<|.head _),λfl H7 U n7 cl=>BK T (k.mono U) (dn<|by lia) cl (fs:=["_law_keeper","_law_name"]) (fvs:=[.ref x,.str nm]) (.cons #[0,_,rfl,rfl,rfl,rfl,rfl,rfl]<|.cons #[9,_,rfl,rfl,rfl,rfl,rfl,rfl] .nil) λG c A nG s E Q' sG B qd qn p=>tz (Z6 (pv 0) T.ae T.fK (SM T) p.m T.cm.b .nil By<|Zb (pv 1) Za) #[B.obj,rfl,I,x,u,_,_,nm,rfl,B,qd,qn]]
  intro y H4 o;refine qk (J 10) ?_ ?_
  ·obtain⟨o7,o8,N4,J9,k,st,c⟩:=id o;refine qp (Zx (rc<|wk (sX p (pv 6)<|Zi<|Zb Ze<|Zb Ze<|Zb Ze Za)<|vQ<|rV p (pv 5)<|Zn Za) Zq Zk) #[nV,λt H5 i n5 C=>.inl #[.inr<|nX C,rfl,rfl,Z7 (λz=>#[nV,λl H6 s6 n6 e6=>?_]) λz=>o.up i<|by lk]];have z:=(Ec L M9).2.2.1 z;obtain⟨N,rfl,rfl⟩:=c.resolve_left (by lia);have Y:=N.trans<|i.trans s6;have d:=Y.at eg;have k:=R6.mono Y;refine .inr<|.inl #[1,_,.lst [],by lk,.inr #[_,_,rfl,rfl],Eb d,rM (nS e6) .nil,Z7 (λg=>?_) λ_=>o.up (i.trans s6)<|by lk];have g:Wo Dp u.ps≠[]:=λe=>by rw[e]at g;simp at g
   obtain⟨pt,F4,B4⟩:=zV g<|cell / 256;refine nR (oj 7 We<|oi (pv 5)<|Zr Ym (Zr Yn (pv 3) Ze)<|qt T.aY<|pv 5) #[#[by lk,by lk],.inl #[.inl<|nS d,(by rw[nQ];have:=yE.mpr g;change(0:Int)<_;lia),.inl #[nS d,B4,?_]]];have hml:cell / 64%4=(ml:Int):=hml;refine nU (Zt<|Bh (Wt T) p.m (λ_=>rfl) rfl T.ak.m T.ak.F.kp T.ak.b<|Zb (AR (Pt:=T.aV) rfl hL) Za) #[_,(hw.tb.mono k.same)._law_deed,(.tail _<|.tail _<|.tail _<|.head _),λfl H7 U n7 cl=>BK T (k.mono U) (dn<|by lia) cl (fs:=["_law_keeper","_law_name","_law_cell","_law_gate","_law_seen"]) (fvs:=[.ref x,.str nm,.int cell,.str pt,.ref M]) (.cons #[0,_,rfl,rfl,rfl,rfl,rfl,rfl]<|.cons #[9,_,rfl,rfl,rfl,rfl,rfl,rfl]<|.cons #[3,_,rfl,rfl,rfl,rfl,rfl,rfl]<|.cons #[7,_,rfl,rfl,rfl,rfl,rfl,rfl]<|.cons #[4,_,rfl,rfl,rfl,rfl,rfl,rfl] .nil) λG c A nG s E Q' sG B qd qn p=>tz (Z6 (pv 0) T.ae T.gc (WL T) p.m T.cD.b .nil By<|Zb (pv 1)<|Zb (Zr W0 Ze<|Zr Ym (Zr Yn (pv 2) Ze) Ze)<|Zb (pv 3)<|Zb (pv 4) Za) #[B.obj,rfl,#[by lk,by lk],(by change(0:Int)<4;decide),.inl #[I,x,u,M,_,_,td,nm,pt,ml+1,by change[V.ref x,.str nm,.int<|1+cell / 64%4,.str pt,.ref M]=_;rw[show(1:Int)+cell / 64%4=((ml+1:Nat):Int) by lia],B,hnt,Zxx.mp F4,by lia,by lia,(Y.trans<|U.trans sG).at E1,qd,qn]]]
  intro y H4 o;refine qk (J 14) ?_ ?_
  ·obtain⟨o7,o8,N4,J9,k,st,c⟩:=id o;refine qp (Zx (rc<|wk (sX p (pv 6)<|Zi<|Zb Ze<|Zb Ze<|Zb Ze<|Zb Ze Za)<|vQ<|sX p (pv 9)<|Yf (pv 0) T.ae T.aJ (Yz T) p.m T.aw.b .nil Z4) Zq Zk) #[nV,λt H5 i n5 C=>.inl #[.inr<|nX C,rfl,rfl,Z7 (λz=>?_) λz=>o.up i<|by lk]];have z:=(Ec L M9).2.2.2 z;obtain⟨N,rfl,rfl⟩:=c.resolve_left (by lia);have k:=k.mono i;refine#[k.obj,rfl,I,x,u,_,_,rfl,k,λss hp hs l H6 s6 n6 e6=>.inl #[.inl<|nS e6,rfl,Wa _,Z7 (λz2=>?_) λz=>o.up (i.trans s6)<|by lk]];rw[W3]at z2;show nU (Zt<|Zv (Ztl T) p<|Zb (pv 0)<|Zb (pv 1)<|Zb (pv 9)<|Zb (Zr Yn (pv 3) Ze)<|Zb (pv 4) Za) #[#[by lk,by lk],I,x,u,M,_,_,td,nm,cell / 64,rfl,k.mono s6,hp.mem_iff.mp<|pA z2,(N.trans<|i.trans s6).at E1,dn<|by lia]
  rintro y H4 ⟨o7,o8,N4,J9,k,st,c⟩;refine nU (Zx (Yg xo (pv 6) Ze<|Yv _) Zq Zk)<|Z7 (λz=>?_) λz=>q _ _ _ _ k st;have z:13<L:=by have:=pA z;lia
  obtain⟨N,rfl,rfl⟩:=c.resolve_left (by lia);show nU (Zt<|Z6 (pv 0) T.ae T.gf (Uz T) p.m T.cF.b .nil Z4<|Zb (pv 4) Za) #[k.obj,rfl,I,x,u,M,_,_,td,rfl,k,nF,N.at E1,λ_=>q _]
def KX.lie{y:KY}{x:KC}(h:KX y x)(s:(y.ps.map snd).Nodup)(r:t∈x.ln.map fst)(u:q∈x.val t):Y0 (Z0 V.str x.lw) (Sum.inr q.1)=none\/Y0 (Z0 V.str x.lw) (Sum.inr q.1)=some (.str q.2.2.2):=by
 rw[yA]
 by_cases c:q.2.2.2 =""
 ·cases z:x.lw.lookup q.1 with
  | none=>show .inl rfl
  | some l =>
   obtain⟨k,p,o⟩:=(h.pok t).st q u;have j:q.1∈x.lw.map fst:=Az λn=>by
    have:=Wl (f:=V.str) n;rw[yA,z]at this;cases this
   show absurd (pO fst<|JG s p ((h.lpt q.1).mp j) rfl)<|o.2.2.2.2.2.mp c
 ·rw[Xi h.lwd (h.pli t r q u c)];show .inr rfl
def Yg7{a b e:Zh}(u:Xq ps x r)(h:(e,a)∈qJ x)(k:(e,b)∈qJ x):a=b:=by
 have y:((qJ x).map fst).Nodup:=by rw[ur];show u.net.flat.nodup_iff.mpr<|xU u.net.nd
 generalize qJ x=l at h k y
 induction l with
 | nil=>cases h
 | cons p l s =>
  rw[oR,qU]at y;rcases oM.mp h with rfl|h<;>rcases oM.mp k with z|k
  ·cases z;rfl
  ·show absurd (oh.mpr #[_,k,rfl]) y.1
  ·show absurd (oh.mpr #[_,h,by rw[<-z]]) y.1
  ·show s h k y.2
inductive KU:Sp
 | mk (H0 x y ad ct l t):vs=[.ref x,.ref y.tr,.ref l]->oG T H0 H x y ad ct->t∈ct.ln.map fst->Yr H l (ct.val t)->(∀H',nH H H'->Q (.bl true) H')->KU vs H Q E
def YW:T.cM.O P w mg nI 5 (KU T):=by
 refine T.cM.F.okW Y4 ?_;rfl'
 ·obtain⟨H0,x,u,ad,ct,l,t,rfl,r,ht,hp,q⟩:=h;intro X D;have ok:=r.kx.pok t;obtain⟨p,_,_,_,_,_,_,_,_,P9,_⟩:=r.tk.ex;obtain⟨ts,tq,Y,I,i9,la,rq,hqq⟩:=hp.last<|r.kx.pne t ht;refine nR (oj 3 Y4<|Yf (pv 0) T.ae T.bV (Ws T) hr.m T.aT.b .nil Z4) #[r.obj,rfl,H0,x,u,ad,ct,rfl,r,λdl H1 G p e1=>?_];let I27:IF:=λi y B=>(∃o4 o5 o6,y=[some (.ref x),some<|.ref u.tr,some<|.ref l,some<|.ref dl,o4,o5,o6,none])/\nH H1 B
  refine nR (Y9 qo rfl (yQ rfl T.bM<|Zb (pv 2) Za) (tN rfl<|Zu (oY 4 Y4)<|Zu (oY 5 Y4) Y5) Zq) #[nS<|G.at I,Ai (xs:=ts.map V.ref) I27 #[#[none,none,none,rfl],qu _] ?_ ?_ ?_]
  ·rintro i y B _ ⟨_,p⟩;show nS<|p.at<|G.at I
  ·rintro i v y H2 hi ⟨⟨o4,o5,o6,rfl⟩,d⟩ tp H3 g n3 e3;rw[oF]at hi;obtain⟨ti,S8,rfl⟩:=oN.mp hi;obtain⟨p,U,ri⟩:=pG i9 S8;have N:p∈ct.val t:=qf U;obtain⟨k,hk,sk⟩:=ok.st p N;have C5:=G.trans<|d.trans g;have e:qK H3 ti p:=C5.at ri;refine#[nX e3,rfl,rfl,?_];have c:=r.kx.lie r.yv.net.nd ht N;let I28:IC:=λσ' B=>σ'=[some (.ref x),some<|.ref u.tr,some<|.ref l,some<|.ref dl,some<|.int (i:Nat),some<|.ref ti,o6,none]/\B=H3
   refine qk I28 (qp (Zx (rc<|wk (sX hr (oi (pv 5) Ze)<|pv 3)<|vQ<|rV hr (Xy (Xb hr) (pv 3) (oi (pv 5) Ze) λ_ _=>rfl)<|oi (pv 5) Ze) Zq Zk)<|.inr<|.inl #[nX e,Zm (j:=0) rfl,.inr<|.inl #[dl,_,rfl,rn (k:=Sum.inr p.1)<|(d.trans g).at e1,?_]]) ?_
   ·rcases c with z|z
    ·rw[z];show#[rfl,rfl]
    ·rw[z];show .inr<|.inl #[nX e,Zm (j:=0) rfl,yO.mk (v:=.str p.2.2.2) (by rw[<-z];show rn (k:=Sum.inr p.1)<|(d.trans g).at e1)<|.inr<|.inl #[nX e,Zm (j:=3) rfl,.inl #[rfl,Z7 (λz=>absurd z<|by simp) λ_=>#[rfl,rfl]]]]
   rintro _ _ ⟨rfl,rfl⟩;have tk:=(r.mono C5).tk;obtain⟨j,C,hC,hO,ip⟩:=tk.part r.yv hk;obtain⟨j,hy⟩:=id hO;refine nR (Zx (rV hr (Z6 (Z6 (pv 1) T.af T.bL (Wg T) hr.m T.aO.b .nil Z4<|Zb (oi (pv 5) Ze) Za) hC.cls.1 hC.cls.2.2 (Qw T) hr.m T.aG.b .nil Z4<|Zb (oi (pv 5) Ze)<|Zb (oi (pv 5) Ze) Za)<|oi (pv 5) Ze) Zq Zk) #[C5.at P9,rfl,.inr<|.inl #[nX e,Zm (j:=0) rfl,u.tr,p.1,k,u.ps,u.js,u.sg,rfl,tk,r.yv,hk,λyp' C' H4 o j L ip'=>?_]];obtain rfl:=ip'.one ip;refine#[o.at hy,rfl,.inr<|.inl #[nX<|o.at e,Zm (j:=1) rfl,.inr<|.inl #[nX<|o.at e,Zm (j:=3) rfl,k,yp',C,p.1,p.2.1,p.2.2.2,rfl,hC,hO.mono o,λj M=>.inr<|.inl #[nX<|M.at<|o.at e,Zm (j:=2) rfl,.inl #[rfl,Z7 (λz=>absurd z<|by rw[sk.1];simp) λ_=>?_]]]]];have N6:=C5.trans<|o.trans M;obtain⟨a,n,ha,ra,hpr⟩:∃a n,pz (ts.map V.ref) ((i:Int)-1)=some (.ref a)/\qK H a n/\(0<i->(ct.val t)[i-1]? =some n):=by
    cases i with
    | zero=>show#[tq,Y,la,rq,λz=>absurd z<|by lk]
    | succ j =>
     have hj:=(pT.mp S8).1;obtain⟨a,L⟩:∃a,ts[j]? =some a:=#[_,pJ<|by lia]
     obtain⟨n,hqa,ra⟩:=pG i9 L;show#[a,n,by rw[show((j+1:Nat):Int)-1=(j:Nat) by lia];show Zm (by rw[oF,L];rfl),ra,λ_=>hqa]
   refine nR (oj 6 Y4<|oi (pv 2)<|Zr wl (pv 4) Ze)<|.inl #[nS<|N6.at I,ha,?_];have J:=N6.at ra;refine nU (Zx (rc<|wk (Yg xo (pv 4) Ze<|Yv _)<|vQ<|rV hr (Z6 (pv 1) T.af T.bX (Wy T) hr.m T.aR.b .nil Z4<|Zb (Zi<|Zb (oi (pv 6) Ze)<|Zb (oi (pv 6) Ze) Za) Za)<|Zi<|Zb (oi (pv 5) Ze)<|Zb (oi (pv 5) Ze) Za) Zq Zk)<|Z7 (λz=>?_) λ_=>#[#[_,_,_,rfl],d.trans<|g.trans<|o.trans M];have z:0<i:=by have:=pA z;lia
   have hj:(tD n,((p.1,p.2.1):Zh))∈qJ u.js:=ok.ch (i-1) n p (hpr z) (by rw[Nat.sub_add_cancel z];show U);refine#[N6.at P9,rfl,.inr<|.inl #[nX J,Zm (j:=0) rfl,.inr<|.inl #[nX J,Zm (j:=2) rfl,nV,λj H6 s6 n6 L=>#[u.tr,j,tD n,u.ps,u.js,u.sg,rfl,(r.mono<|N6.trans s6).tk,r.yv,L,.inl #[?_,λt7 e7 h7 p7=>?_]]]]]
   ·have:tD n∈(qJ u.js).map fst:=oh.mpr #[_,hj,rfl];rw[ur]at this;show r.yv.net.flat.mem_iff.mp this
   ·rw[Yg7 r.yv h7 hj]at p7;have j:=s6.at<|M.at<|o.at e;show .inr<|.inl #[nX j,Zm (j:=0) rfl,.inr<|.inl #[nX j,Zm (j:=1) rfl,nV,λt8 H8 L n8 e8=>.inr<|.inl #[1,pW (p.1,p.2.1),pW (p.1,p.2.1),by lk,.inl #[_,_,rfl,rfl],xt<|L.at p7,xt e8,Z7 (λz=>absurd z<|by simp) λ_=>#[#[_,_,_,rfl],d.trans<|g.trans<|o.trans<|M.trans<|s6.trans L]]]]
  ·rintro y H2 ⟨⟨o4,o5,o6,rfl⟩,d⟩;have p:=G.trans d;have o:=p.at rq;refine nR (oj 7 Y4<|oi (pv 2)<|wo wq Ze)<|.inl #[nS<|p.at I,la,?_];have n:=ok.en Y (by rw[hqq];rfl);refine nU (Zl<|Py (xG hr (oi (pv 7) Ze) Zg)<|yZ<|Qa hr (Z6 (pv 1) T.af T.bu (X0 T) hr.m T.aF.b .nil Z4<|Zb (Zi<|Zb (oi (pv 7) Ze)<|Zb (oi (pv 7) Ze) Za) Za) Zg)<|.inr<|.inl #[nX o,Zm (j:=2) rfl,.inl #[rfl,Z7 (λz=>?_) λz=>?_]]
   ·show q H2 p
   ·refine#[p.at P9,rfl,.inr<|.inl #[nX o,Zm (j:=0) rfl,.inr<|.inl #[nX o,Zm (j:=2) rfl,nV,λj H3 g n3 e3=>#[u.tr,j,(Y.1,Y.2.2.1),u.ps,u.js,u.sg,rfl,(r.mono<|p.trans g).tk,r.yv,e3,λnm e=>.inl #[rfl,?_]]]]];have a:((Y.1,Y.2.2.1):Zh)∈u.sg.map snd:=by
     unfold uq at n;rcases Bool.or_eq_true_iff.mp n with c|c
     ·show absurd (oO<|by rw[pA c]) z
     ·show pA c
    rw[OP r.yv e,oO a];show q H3<|p.trans g
def VR{x:Type}{ts:mD mG}{as:mD x}{f:x->mF}(Y:p pl=some (.lst<|ts.map V.ref))(e:Paired (λt a=>∃xs,p t=some (.tup<|V.str (f a) ::xs)) ts as)(E:as.length<=500)(d:p D=none)(q:∀r,nH p r->r D=some (.lst<|(as.map f).map V.str)->Q (.ref D) r){fr:St->St}(U:fr y=[none])(h:∀y H Q,Q true H->N y H Q)(M:∀y H Q t xs s,y[0]? =some (some<|V.ref t)->H t=some (.tup<|V.str s ::xs)->Q (.str s) H->L y H Q) :
  sj (vJ K pl) fr (rT 0) N L Q y p D:=by
 refine Yp (xs:=ts.map V.ref) (λi n r=>n=((as.take i).map f).map V.str/\r D=some (.lst n)/\nH p r) #[rfl,Zc,pP d] ?_ ?_ ?_
 ·rintro i n r _ ⟨_,_,l⟩;show nS<|l.at Y
 ·rintro j v n r c ⟨rfl,J,l⟩;rw[oF]at c;obtain⟨t,g,rfl⟩:=oN.mp c;obtain⟨a,I,xs,G⟩:=pG e g;unfold ro;rw[U];refine#[pE rfl,h _ _ _<|M _ _ _ t xs (f a) rfl (l.at G) #[J,by rw[nQ,nQ,oZ];show Zo (by lia),?_,Zc,λb o u=>?_]]
  ·rw[oW,I,oy,oy];rfl
  ·rw[Zd (Zf u d)];show l.at u
 ·rintro n u ⟨rfl,o,j⟩;refine q u j ?_;rw[o,nQ,oz e,pQ]
inductive MR:Sp
 | mk (H0 x y ad ct):vs=[.ref x,.ref y.tr]->oG T H0 H x y ad ct->(∀H',nH H H'->Q (.bl true) H')->MR vs H Q E
inductive GD(ss:List Str)(ct:KC)(x tr D:Addr)(H:Hp)(i:Nat):St->Hp->Prop
 | mk (o3 le lh o6 us):H' le=some (.lst<|(((ss.take i).flatMap ct.val).map fst).map V.str)->H' lh=some (.lst<|us.map V.ref)->Paired (Zp H') us ((ss.take i).flatMap λt=>(ct.val t).dropLast.map tD)->nH H H'->GD ss ct x tr D H i [some (.ref x),some<|.ref tr,some<|.ref D,o3,some<|.ref le,some<|.ref lh,o6,none] H'
def Lv:T.dN.O P w mg nI 6 (MR T):=by
 refine T.dN.F.okW Yt ?_;rfl'
 ·obtain⟨H0,u,r,ad,a,rfl,Y,q⟩:=h;intro X D;obtain⟨dxt,_,_,_,_,_,_,_,_,P9,_⟩:=Y.tk.ex;refine nR (Zt<|Et ww Iw Pa QP<|Yf (pv 0) T.ae T.bV (Ws T) hr.m T.aT.b .nil Z4) #[Y.obj,rfl,H0,u,r,ad,a,rfl,Y,λd1 H1 s1 n1 e1=>#[.inr<|.inr<|.inl #[rfl,.inl #[_,e1]],d1,_,rfl,rfl,e1,?_]];have s1':nH H (nO H1 d1<|.dK []):=s1.upd0 n1;have w9:=Y.mono s1';generalize nO H1 d1 (.dK [])=H2 at s1' w9;refine nR (oj 2 Yt<|Yf (pv 0) T.ae T.cx (EN T) hr.m T.aW.b .nil Z4) #[w9.obj,rfl,H0,u,r,ad,a,rfl,w9,λss D es H3 p1 p2 s3 nD pD fD nE=>?_];have M3:(es.map fst).Nodup:=by rw[fD];show p1.nodup_iff.mpr Y.kx.lnd
  have O7:es.length<=4:=by
   have:=pO List.length fD;rw[nQ,p1.length_eq,nQ]at this;show this ▸ Y.kx.len
  let I29:IC:=λy U=>(∃o3,y=[some (.ref u),some<|.ref r.tr,some<|.ref D,o3,none,none,none,none])/\nH H2 U/\∃k,U D=some (.dK k)
  refine qk I29 ?_ ?_
  ·refine qp (Ao<|Y9 qo rfl (Ydu<|pv 2) (oY 3 Yt) Zq) #[pD.1,λo nf=>Yam (λi y U=>(∃o3,y=[some (.ref u),some<|.ref r.tr,some<|.ref D,o3,none,none,none,none])/\nH H2 U/\U D=some (.frz o<|.dK<|Z0 V.ref es)/\∀e∈es,∃xs,U e.2=some (.lst xs)/\xs≠[]/\xs.length<=40+i) #[#[none,rfl],?_,Zc,λe he=>?_] ?_ ?_ ?_]
   ·show λb p z=>by rw[Zd (Zf z nD)];show s3.at z
   ·obtain⟨ts,h1,h2⟩:=pD.2 e he;refine#[_,by rw[Zd λz=>by rw[z,pD.1]at h1;cases h1];show h1,?_,?_]
    ·have:=oz h2;intro z;rw[GY.mp z]at this;show Y.kx.pne e.1 (p1.mem_iff.mp<|fD ▸ oh.mpr #[e,he,rfl])<|BJ.mp this.symm
    ·rw[nQ,oz h2];show(Y.kx.pok e.1).len Y.yv
   ·rintro i y U _ ⟨_,_,hD,_⟩;show hD
   ·rintro i kv y H4 hi ⟨⟨o3,rfl⟩,s4,C6,hx⟩;obtain⟨e,K4,he,hfi,rfl⟩:=EV hi;have E6:i<es.length:=(pT.mp he).1;obtain⟨xs,S9,hx0,hxl⟩:=hx e K4;have dg:∀{G:Hp},G D=some (.frz o<|.dK<|Z0 V.ref es)->Xp G D (.str e.1) (some<|.ref e.2):=λh=>by
     rw[<-Wh M3 K4];show .inl #[_,Sum.inr e.1,.inr #[o,h],rfl,rfl]
    have nDe:D≠e.2:=λz=>by rw[<-z,C6]at S9;cases S9
    have O0:nO H4 e.2 (.lst xs.reverse) D=some (.frz o<|.dK<|Z0 V.ref es):=by rw[Zd nDe];show C6
    refine nR (Zt<|Et vX Mi PySem.F.type_list_reverse Zvb<|Xy (Xb hr) (pv 2) (pv 3) λ_ _=>rfl) #[dg C6,.inl #[rfl,_,nS S9],e.2,xs,rfl,rfl,S9,?_];obtain⟨v,hv⟩:∃v,xs.reverse[0]? =some v:=#[_,pJ (by rw[wS];show yE.mpr hx0)]
    refine nU (Zt<|rS (Xy (Xb hr) (pv 2) (pv 3) λ_ _=>rfl)<|oi (Xy (Xb hr) (pv 2) (pv 3) λ_ _=>rfl) Ze) #[dg O0,.inl #[rfl,_,nS Zc],dg O0,.inl #[nS Zc,Zm hv,#[Zc,sz (by rw[wS];lia),#[_,rfl],λb p z=>?_,?_,λe' T3=>?_]]]
    ·have nb:b≠e.2:=Zf z<|nE e K4;rw[Zd nb,Zd nb];show s4.at z
    ·rw[Zd nDe];show O0
    ·by_cases z:e'.2=e.2
     ·show#[_,by rw[z];show Zc,by simp,by rw[oP,wS,Bx];lia]
     ·obtain⟨N,h1,h2,h3⟩:=hx e' T3;show#[N,by rw[Zd z,Zd z];show h1,h2,by lia]
   ·rintro y H4 ⟨⟨o3,rfl⟩,s4,C6,_⟩;show#[D,o,_,C6,nf,#[_,rfl],λb p z=>by rw[Zd (Zf z nD)];show s4.at z,_,Zc]
  rintro y H4 ⟨⟨o3,rfl⟩,s4,k4,C6⟩;refine nR (Zt<|Et ww Iw Pa QP<|pv 2) #[.inr<|.inr<|.inl #[rfl,.inl #[_,C6]],D,_,rfl,rfl,C6,?_];have s5:nH H (nO H4 D<|.dK []):=λb p z=>by
   have z2:=s1'.at z;rw[Zd (Zf z2 nD)];show s4.at z2
  have T5:=Y.mono s5;generalize nO H4 D (.dK [])=H5 at s5 T5;refine nR (Zt<|rS (Yf (pv 0) T.ae T.cP (HX T) hr.m T.bq.b .nil Z4) Zg) #[T5.obj,rfl,H0,u,r,ad,a,rfl,T5,λO3 p6 _ l6 H6 s6 n6 e6=>#[.inl #[rfl,_,nS e6],e6,?_,?_]]
  ·rw[nQ,p6.length_eq,nQ];show Zo (by have:=Y.stl;lia)
  have s6':nH H5 (nO H6 l6<|.lst<|O3.map V.str++[.str "x"]):=s6.upd0 n6;have hw6:=T5.mono s6';generalize nO H6 l6 (.lst<|O3.map V.str++[.str "x"])=H7 at s6' hw6;refine nR (oj 4 Yt<|Zn Za) #[nV,λle0 H8 s8 n8 e8=>?_];refine nR (oj 5 Yt<|Zn Za) #[nV,λlh0 H9 s9 n9 e9=>?_];have hw9:=hw6.mono<|s8.trans s9;refine nR (Y9 qo rfl (Yd<|Yf (pv 0) T.ae T.aJ (Yz T) hr.m T.aw.b .nil Z4) (oY 3 Yt) Zq) #[hw9.obj,rfl,H0,u,r,ad,a,rfl,hw9,λss p1 p2 l10 T0 y7 n10 jk=>#[nS jk,W7 (K:=K) (xs:=ss.map V.str) (GD ss a u r.tr D T0) (.mk o3 le0 lh0 none [] ((s9.trans y7).at e8) (y7.at e9) .nil (qu _)) ?_ ?_ ?_]]
  ·rintro i y U _ ⟨_,_,_,_,_,_,_,_,sm⟩;show nS<|sm.at jk
  ·rintro i v y T1 hi ⟨o3,le,lh,o6,us,C0,M,L,A5⟩;rw[oF]at hi;obtain⟨t,ht,rfl⟩:=oN.mp hi;have htm:=p1.mem_iff.mp<|qf ht;obtain⟨n,hp,rfl⟩:=oh.mp htm;have N0:=hw9.mono<|y7.trans A5;have u6:=Y.kx.pne _ htm;have f40:((ss.take<|i+1).flatMap a.val).length<=40:=by
    have h1:=Fp Y.kx Y.yv;have h2:(ss.flatMap a.val).length=((a.ln.map fst).flatMap a.val).length:=(p1.flatMap_right _).length_eq;have h3:(ss.flatMap a.val).length=((ss.take<|i+1).flatMap a.val).length+((ss.drop<|i+1).flatMap a.val).length:=by rw[<-oP,<-wI,wj]
    lia
   have R8:∀{x:Type}(f:mF->mD x),(ss.take<|i+1).flatMap f=(ss.take i).flatMap f++f n.1:=λf=>by rw[oW,ht,wI];show pO _<|qM _
   rw[R8,oP]at f40;refine nR (oj 6 Yt<|Z6 (pv 0) T.ae T.bE (X5 T) hr.m T.aM.b .nil yY<|Zb (pv 3) Za) #[N0.obj,rfl,H0,u,r,ad,a,n.1,rfl,N0,λl12 U7 _ A8 n12 P12=>?_,λz=>absurd htm z];obtain⟨ts,tq,_,h12,i9,la,_⟩:=P12.last u6;have hw12:=N0.mono A8;refine nR (Zx (rc<|uA (pY hr (pv 6)<|Zn Za)<|uP<|Xs<|Rc EB EB Ze (Z6 (pv 0) T.ae T.dm (NL T) hr.m T.bx.b .nil yY<|Zb (pv 3) Za) Ze) Zq Zk) #[nV,λl13 H13 m9 n13 iT=>.inr<|.inl #[2,.lst<|(a.val n.1).map xT,.lst [],by lk,.inr #[_,_,rfl,rfl],rM (nS<|m9.at h12)<|Wn.im<|i9.mono m9,rM (nS iT) .nil,Z7 (λz=>?_) λ_=>#[(hw12.mono m9).obj,rfl,H0,u,r,ad,a,n,rfl,hw12.mono m9,hp,λT2 J=>?_]]]
   ·show absurd (GY.mp<|Tr.lst.inj<|pA z) u6
   have hp4:=(Y.kx.ok n hp).2;refine Z7 (λ_=>?_) λz=>absurd (oO (show(1:Int)<=n.2 by lia)) z;change if(!decide ((n.2:Int)<=4))=true then _ else _
   rw[oO (show(n.2:Int)<=4 by lia)];have N1:=m9.trans J;have hw14:=hw12.mono N1;refine nR (Zx (Xs<|Yw<|Zv (YW T) hr<|Zb (pv 0)<|Zb (pv 1)<|Zb (pv 6) Za) Zq Zk) #[H0,u,r,ad,a,l12,n.1,rfl,hw14,htm,P12.mono N1,λH15 B8=>?_];have h15:=(N1.trans B8).at h12;have d9:=oz i9;have h40:=(Y.kx.pok n.1).len Y.yv;refine nR (Zt<|yb vX Lf PySem.F.type_list_insert Zur (pv 6)<|Zb Ze<|Zb (oi (pv 6)<|wo wq Ze) Za) #[.inl #[rfl,_,nS h15],.inl #[nS h15,la,l12,_,_,rfl,rfl,h15,by rw[nQ,d9];show Zo (by lia),?_]];have A9:nH T1 (nO H15 l12<|.lst<|.ref tq ::ts.map V.ref):=(A8.trans<|N1.trans B8).upd0 n12;have M9:=N0.mono A9;have C0:=A9.at C0;have M:=A9.at M;have L:=oA L λ_ _ l=>Zp.mono A9 l
   have A9:=A5.trans A9;generalize nO H15 l12 (.lst<|.ref tq ::ts.map V.ref)=H16 at A9 M9 C0 M L;clear h15 B8 h12 i9 A8 m9 J N1 P12 hw12 hw14 N0 A5;refine nR (oj 6 Yt<|Z6 (pv 0) T.ae T.bE (X5 T) hr.m T.aM.b .nil yY<|Zb (pv 3) Za) #[M9.obj,rfl,H0,u,r,ad,a,n.1,rfl,M9,λl17 H17 _ C2 n17 ⟨ts,h17,i9⟩=>?_,λz=>absurd htm z];have G9:=oz i9;refine nR (oj 4 Yt<|Zr W0 (pv 4)<|qh ["_law_step"] (pF 1 [] rfl) (Yd<|pv 6) (pc 0) X8 (W2 (K:=K) rfl (pv 0) Ze)) #[nS h17,λC hC=>VR (f:=fst) h17 (oA i9 λ_ _ l=>#[_,l]) (by lia) hC (λH18 F8 ke=>?_) rfl (λ_ _ _ h=>h) λ_ _ _ _ _ _ e h q=>oV.of e<|.inr<|.inl #[nX h,Zm (j:=0) rfl,q]];refine .inr<|.inr #[(C2.trans F8).at C0,ke,?_,λle' H19 N3 n19 e19=>?_]
   ·rw[nQ,nQ,nQ,nQ];show sz (by lia)
   have s1719:=F8.trans N3;have h19:=s1719.at h17;refine nU (oj 5 Yt<|Zr W0 (pv 5)<|qh ["_law_step"] (pF 1 [] rfl) (Yd<|Xk (r:=su K) sE (pv 6) Wf<|X1<|wo wq Ze) (pc 0) X8 (Zi<|Zb (W2 (K:=K) rfl (pv 0) Ze)<|Zb (W2 (K:=K) rfl (pv 0) Ze) Za))<|.inr<|.inl<|Ct.mk (nS h19) λl20 H20 s20 n20 jG=>?_;have jG:H20 l20=some (.lst<|rf (ts.map V.ref) none<|some (-1)):=jG;rw[Lx,<-List.map_dropLast]at jG;have s1720:=s1719.trans s20;refine#[nS jG,λC hC=>Yp (K:=K) (xs:=ts.dropLast.map V.ref) (λi N U=>(∃us:mD mG,N=us.map V.ref/\Paired (Zp U) us (((a.val n.1).dropLast.map tD).take i))/\U C=some (.lst N)/\nH H20 U) #[#[[],rfl,.nil],Zc,pP hC] ?_ ?_ ?_]
   ·rintro j N U _ ⟨_,_,sm⟩;show nS<|sm.at jG
   ·rintro j v N H4 hj ⟨⟨us,rfl,L⟩,C6,s4⟩;rw[oF]at hj;obtain⟨t0,ht0,rfl⟩:=oN.mp hj;rw[Db]at ht0;split at ht0
    ·rename_i d8;obtain⟨q4,hq,hq4⟩:=pG i9 ht0;have r4:=nX (K:=K)<|(s1720.trans s4).at hq4;have D1:=oz L;rw[oZ,nQ,wc]at D1;refine#[pE rfl,.inr<|.inl #[r4,Zm (j:=0) rfl,.inr<|.inl #[r4,Zm (j:=2) rfl,nV,λt5 H5 s5 n5 e5=>#[s5.at C6,by rw[nQ];show Zo (by lia),#[us++[t5],by rw[oy];rfl,?_],Zc,λb o z=>?_]]]]
     ·rw[oW,oF,Db,og (by lia),hq];have off:∀{c:mG}{n:Zh}{p:HO},Zp H5 c n->Zp (nO H5 C p) c n:=λ{c n p} z=>(Zd λr=>by rw[Zp,r,s5.at C6]at z;cases z).trans z
      show qc (oA L λ_ _ l=>off<|l.mono s5)<|.cons (off e5) .nil
     ·rw[Zd (Zf z hC)];show s5.at<|s4.at z
    ·cases ht0
   ·rintro N H4 ⟨⟨vs,rfl,C4⟩,C6,s4⟩;rw[tX (by rw[nQ,nQ,wc,wc];lia)]at C4;have s164:=C2.trans<|s1720.trans s4;have D1:=oz L;have J5:=oz C4;have hdl:((ss.take i).flatMap λt=>(a.val t).dropLast.map tD).length<=((ss.take i).flatMap a.val).length:=by
     generalize ss.take i=zs
     induction zs with
     | nil=>show oq _
     | cons z zs ih =>
      rw[As,As,oP,oP,nQ,wc];lia
    rw[nQ,wc]at J5;refine .inr<|.inr #[s164.at M,C6,by rw[nQ,nQ];show sz (by lia),λlh' H6 s6 n6 e6=>GD.mk _ le' lh' _ (us++vs) ?_ (by rw[e6,oy]) ?_<|A9.trans<|s164.trans s6]
    ·rw[(s20.trans<|s4.trans s6).at e19,R8,oy,oy]
    ·rw[R8];show qc (oA L λ_ _ l=>Zp.mono (s164.trans s6) l)<|oA C4 λ_ _ l=>Zp.mono s6 l
  ·rintro y T1 ⟨o3,le,lh,o6,us,C0,M,L,A5⟩;rw[nQ,pQ]at C0 L;have N0:=hw9.mono<|y7.trans A5;have s0:nH H T1:=s5.trans<|s6'.trans<|s8.trans<|s9.trans<|y7.trans A5;have pf:(ss.flatMap a.val).Perm ((a.ln.map fst).flatMap a.val):=p1.flatMap_right _;have l40:(ss.flatMap a.val).length<=40:=by rw[pf.length_eq];show Fp Y.kx Y.yv
   have ndp:((ss.flatMap a.val).map fst).Nodup:=(pf.map _).nodup_iff.mpr (Sn Y.kx);refine nR (Zx (rV hr (Zy9 rfl (by rfl) T.aY (by rfl) T.jO<|Zb (pv 4) Za)<|qt T.aY<|pv 4) Zq Zk)<|qC rfl #[le,_,rfl,nS C0,by rw[nQ];lia,ndp,.inl #[.inl<|nS C0,.inl #[rfl,Z7 (λz=>absurd z<|by rw[nQ];simp) λ_=>?_]]];have htk:=N0.tk;refine nR (xP 7 ["_law_row","_law_keeper"] Yt (pF 1 [0] rfl) (Yd<|Yf (pv 1) T.af T.cU (RD T) hr.m T.bo.b .nil Z4) (pc 0) (sO<|Yw<|Z6 (pv 1) T.ae T.fM (Vz T) hr.m T.cq.b .nil Z4<|Zb (W2 (K:=K) rfl (pv 0) Ze) Za) (Zi<|Zb (W2 (K:=K) rfl (pv 0) Ze)<|Zb (W2 (K:=K) rfl (pv 0) Ze) Za)) #[s0.at P9,rfl,r.tr,r.ps,r.js,r.sg,rfl,htk,Y.yv,λg ts sg' U7 A8 n12 jp r12 pm=>#[nS jp,λC hC=>Yp (K:=K) (xs:=ts.map V.ref) (λi N U=>(∃us es,N=us.map V.ref/\Paired (Zp U) us es/\(∀e∈es,Pi (a.ln.map fst) a.val e)/\es.length<=i)/\U C=some (.lst N)/\nH U7 U) #[#[[],[],rfl,.nil,(λ_ z=>nomatch z),oq _],Zc,pP hC] ?_ ?_ ?_]]
   ·rintro i N U _ ⟨_,_,sm⟩;show nS<|sm.at jp
   ·rintro i v N H13 hi ⟨⟨us,es,rfl,L,B2,O7⟩,I,m9⟩;rw[oF]at hi;obtain⟨tg,htg,rfl⟩:=oN.mp hi;obtain⟨d,hg,rg⟩:=pG r12 htg;have hw13:=N0.mono<|A8.trans m9;have E6:=(pT.mp hg).1;have M8:=Y.yv.sigs.len;rw[pm.length_eq]at E6;have D1:=oz L;refine#[pE rfl,hw13.obj,rfl,.inr<|.inl #[nX<|m9.at rg,Zm (j:=0) rfl,H0,u,r,ad,a,d,rfl,hw13,pm.mem_iff.mp<|qf hg,λb T2 J hb=>Z7 (λz=>?_) λ_=>#[#[us,es,rfl,oA L λ_ _ l=>Zp.mono J l,B2,by lia],J.at I,m9.trans J]]];have r14:=nX (K:=K)<|J.at<|m9.at rg;refine .inr<|.inl #[r14,Zm (j:=1) rfl,.inr<|.inl #[r14,Zm (j:=2) rfl,nV,λt5 H5 s5 n5 e5=>?_]];have hC5:=s5.at<|J.at I;have off:∀{c:mG}{n:Zh}{p:HO},Zp H5 c n->Zp (nO H5 C p) c n:=λ{c n p} z=>(Zd λr=>by rw[Zp,r,hC5]at z;cases z).trans z
    refine#[hC5,by rw[nQ];show Zo (by lia),#[us++[t5],es++[d.2],by rw[oy];rfl,qc (oA L λ_ _ l=>off<|Zp.mono (J.trans s5) l)<|.cons (off e5) .nil,λe he=>?_,by rw[oP];show yw O7],Zc,λb o z=>by rw[Zd (Zf z hC)];show s5.at<|J.at<|m9.at z];rcases pC.mp he with z2|z2
    ·show B2 e z2
    ·rw[qG.mp z2];show hb z
   ·rintro N H13 ⟨⟨vs,es,rfl,C4,B2,_⟩,I,m9⟩;have s113:=A8.trans m9;have L:=oA L λ_ _ l=>Zp.mono s113 l
    have M:=s113.at M;refine nU (Zl<|xG hr (qh ["_law_end","_law_ends_here"] (pF 1 [5] rfl) (Yd<|pv 7) (pc 0) (sO<|Yg (r:=CM K) (Iv hr) (pv 0) (pv 1)<|by with_unfolding_all rfl) (pv 0))<|Zn Za) #[nS I,λB hB=>Yp (K:=K) (xs:=vs.map V.ref) (λi N U=>N=[]/\U B=some (.lst [])/\nH H13 U) #[rfl,Zc,pP hB] ?_ ?_ ?_]
    ·rintro i N U _ ⟨_,_,sm⟩;show nS<|sm.at I
    ·rintro i v N T2 hi ⟨rfl,hB14,J⟩;rw[oF]at hi;obtain⟨te,N8,rfl⟩:=oN.mp hi;obtain⟨e,he,re⟩:=pG C4 N8;obtain⟨t,ht,hm⟩:=B2 e<|qf he;refine#[pE rfl,.inr<|.inr #[lh,1,pW e,_,us,rfl,nS<|J.at M,by lk,xt<|Zp.mono J re,EW<|oA L λ_ _ l=>Zp.mono J l,?_]];rw[og rfl,oO<|oh.mpr #[e,uD.mpr #[t,p1.mem_iff.mpr ht,hm],rfl]];show#[rfl,hB14,J]
    ·rintro N T2 ⟨rfl,hB14,J⟩;refine#[nV,λg H15 B8 n15 jY=>.inr<|.inl #[1,.lst [],.lst [],by lk,.inr #[_,_,rfl,rfl],rM (nS<|B8.at hB14) .nil,rM (nS jY) .nil,?_]];rw[nY pi,oO rfl];show q H15<|s0.trans<|s113.trans<|J.trans B8
def oG.own(h:oG U r H x y ad p)(o:pM ad b):r b=none/\∃u,H b=some u/\∀xs,u≠.tup xs:=by
 rcases o with f|rfl|rfl|m
 ·obtain⟨u,e,n⟩:=h.live b f;show#[h.free b f,u,e,n.1]
 ·show#[h.l0,_,h.lies,λ_ z=>nomatch z]
 ·show#[h.s0,_,h.sti,λ_ z=>nomatch z]
 ·obtain⟨e,s,rfl⟩:=oh.mp m;obtain⟨n,q,_⟩:=h.pth.2 e s;show#[h.p0 e s,_,q,λ_ z=>nomatch z]
def oG.onto(h:oG U p H x y ad u)(trk:Yh U G y.tr y.ps y.js y.sg)(r:sv U G)(s:nH G H)(n:∀b,pM ad b->G b=none):oG U G H x y ad u :=
 #[h.obj,h.lies,h.sti,h.lens,h.pth,h.nm,h.fx,h.fn,h.fp,h.ne,h.nl,h.ns,h.sl,n _<|.inr<|.inr<|.inl rfl,n _<|.inr<|.inl rfl,λe q=>n _<|.inr<|.inr<|.inr<|oh.mpr #[e,q,rfl],λb f=>n b<|.inl f,s,h.live,trk,h.yv,r,h.kx]
def ZZ(x:Bool->tI)(u b:mG):Prop:=(∃y,pM (x y) b)\/b=u
structure L6(T:Tx K mg)(S H:Hp)(y:KY)(xs:Bool->Addr)(u7:Bool->tI)(D4:Bool->KC)(hl:Addr)(n:Nat):Prop where
 k:∀β,oG T S H (xs β) y (u7 β) (D4 β)
 dj:∀b,pM (u7 true) b->¬pM (u7 false) b
 nh:∀β,¬pM (u7 β) hl
 st:nH S (hard (ZZ u7 hl) H)
 held:∃us:List Addr,H hl=some (.lst<|us.map V.ref)/\us.length<=n/\∀u∈us,∃(l:Addr)(d:PyData),hard (ZZ u7 hl) H u=some (.tup [.ref l,.str d.shown])/\Rp (hard (ZZ u7 hl) H) d (.ref l)/\Yb 24000 3 d
def L6.on(h:L6 U S H x xs j J q n)(k:∀y,oG U S o (xs y) x (r y)<|p y)(i:∀b,pM (r true) b->¬pM (r false) b)(g:∀y,¬pM (r y) q)(s:nH (hard (ZZ j q) H) (hard (ZZ r q) o))(e:o q=H q):L6 U S o x xs r p q n :=
 #[k,i,g,h.st.trans s,let⟨Y,Q,N,M⟩:=h.held;#[Y,e.trans Q,N,λu L=>let⟨l,d,a,b,c⟩:=M u L;#[l,d,s.at a,KG s b,c]]]
def L6.mono(h:L6 U S H x xs u r q n)(s:nH H p):L6 U S p x xs u r q n :=
 h.on (λy=>(h.k y).mono s) h.dj h.nh (λb o e=>let⟨e,n⟩:=An e;Wq (s.at e) n) (let⟨o,y,_⟩:=h.held;(s.at y).trans y.symm)
def L6.dj'(h:L6 U S H x xs u s r n)(o:pM (u y) b):¬pM (u !y) b:=by
 cases y with
 | true=>show h.dj b o
 | false=>show λz=>h.dj b z o
def L6.deed(h:L6 U S H u xs r Y l n)(k:oG U (hard (pM<|r y) H) j (xs y) u ad Q):L6 U S j u xs (λx=>if x=y then ad else r x) (λx=>if x=y then Q else Y x) l n:=by
 have q:∀b o,H b=some o->¬pM (r y) b->hard (pM<|r y) H b=some o/\j b=some o:=λb o e n=>#[Wq e n,k.same.at<|Wq e n]
 have p:∀b o,S b=some o->¬pM (r y) b:=λb o e z=>by rw[((h.k y).own z).1]at e;cases e
 have d:nH S j:=λb o e=>(q b o ((h.k y).same.at e)<|p b o e).2
 have new:∀b o,H b=some o->¬pM (r y) b->¬pM ad b:=λb o e n z=>by
  have:=(k.own z).1;rw[(q b o e n).1]at this;cases this
 have i:∀b,pM (r !y) b->¬pM (r y) b:=λb o z=>h.dj' z o
 have hd:∀b,pM ad b->¬pM (r !y) b:=λb o z=>by
  obtain⟨_,s,e,_⟩:=(h.k _).own z;show new b s e (i b z) o
 have N:∀x,x≠y->x=!y:=λx n=>by cases x<;>cases y<;>first|rfl|show absurd rfl n
 obtain⟨c,g,_⟩:=id h.held;refine h.on (λx=>?_) ?_ (λx=>?_) (λb o e=>?_)<|(q l _ g<|h.nh y).2.trans g.symm
 ·by_cases z:x=y
  ·subst z;rw[og rfl,og rfl];refine k.onto (h.k x).trk (h.k x).tb d λb o=>?_
   cases e:S b with
   | none=>rfl
   | some s=>show absurd o<|new b s ((h.k x).same.at e)<|p b s e
  ·rw[nY z,nY z];refine(h.k x).keep (λb o e w=>(q b o e λu=>?_).2) d;rcases w with w|⟨xs,rfl⟩
   ·rw[N x z]at w;show h.dj' u w
   ·obtain⟨_,s,c,n⟩:=(h.k y).own u;show n xs<|pI<|c.symm.trans e
 ·cases y with
  | true=>show hd
  | false=>show λb o z=>hd b z o
 ·by_cases z:x=y
  ·rw[og z];show new l _ g<|h.nh y
  ·rw[nY z];show h.nh x
 ·obtain⟨e,n⟩:=An e;have a:¬pM (r y) b:=λz=>n<|.inl #[y,z]
  refine Wq (q b o e a).2 ?_;rintro(⟨x,z⟩|z)
  ·have z:pM (if x=y then ad else r x) b:=z
   by_cases c:x=y
   ·rw[og c]at z;show new b o e a z
   ·rw[nY c]at z;show n<|.inl #[x,z]
  ·show n<|.inr z
def L6.z(h:L6 U S H x xs s q r n)(z:ZZ s r b):∃u,H b=some u/\∀xs,u≠.tup xs:=by
 rcases z with⟨y,o⟩|rfl
 ·show((h.k y).own o).2
 ·obtain⟨p,e,_⟩:=h.held;show#[_,e,λ_ z=>nomatch z]
def L6.nz(h:L6 U S H y xs s q r n)(e:H b=none):¬ZZ s r b:=λz=>by
 obtain⟨u,x,_⟩:=h.z z;rw[e]at x;cases x
def L6.app(h:L6 U S H x xs p a r n)(s:nH H q)(e:H r=some (.lst vs))(Y:H t=none)(Q:q t=some (.tup [.ref l,.str d.shown]))(N:Rp (hard (ZZ p r) q) d (.ref l))(hd:Yb 24000 3 d):L6 U S (nO q r<|.lst<|vs++[.ref t]) x xs p a r (n+1):=by
 have i:∀{o:HO},hard (ZZ p r) (nO q r o)=hard (ZZ p r) q:=λ{o}=>by
  funext b
  unfold hard
  by_cases z:ZZ p r b
  ·rw[og z,og z]
  ·rw[nY z,nY z,Zd λx=>z<|.inr x]
 have j:=h.mono s;obtain⟨g,c,M,L⟩:=j.held;rw[s.at e]at c;cases c;have off:∀b o,b≠r->q b=some o->nO q r (.lst<|g.map V.ref++[.ref t]) b=some o:=λb o n z=>(Zd n).trans z
 refine#[λy=>(j.k y).keep (λb o z w=>off b o (λx=>?_) z) λb o z=>off b o (λx=>?_)<|(j.k y).same.at z,h.dj,h.nh,by rw[i];show j.st,g++[t],by rw[Zc,oy];rfl,by rw[oP];show yw M,λu J=>?_]
 ·rcases w with w|⟨xs,rfl⟩
  ·show h.nh y<|x ▸ w
  ·rw[x,s.at e]at z;cases z
 ·have:=h.st.at z;show(An this).2 (.inr x)
 ·rw[i];rcases pC.mp J with z|z
  ·show L u z
  ·rw[qG.mp z];show#[l,d,Wq Q<|h.nz Y,N,hd]
def Ye.hard(h:Ye H D es val)(x:¬Z D)(u:∀e∈es,¬Z e.2)(s:∀b xs,H b=some (.tup xs)->¬Z b):Ye (hard Z H) D es val :=
 #[Wq h.1 x,λe y=>let⟨q,p,o⟩:=h.2 e y;#[q,Wq p<|u e y,oA o λ_ _ r=>Wq r<|s _ _ r]]
inductive HR(T:Tx K mg)(S:Hp)(y:KY)(xs:Bool->Addr)(hl a t kl:Addr)(n:Nat):St->Hp->Prop
 | mk (o5 o6 o7 o8 o9 S5 N9 o12 o13 o14 u7 D4):L6 T S H y xs u7 D4 hl n->HR T S y xs hl a t kl n [some (.ref a),some<|.ref t,some<|.ref y.tr,some<|.ref kl,some<|.ref hl,o5,o6,o7,o8,o9,S5,N9,o12,o13,o14] H
def SJ(F:rW K "law" "law" wf f fd)(T:Tx K mg)(hb:∃mm,nI.Ns sysModules mm):Wz P w K mg nI pL 14 f fd ["_law_script"] (zB K T.tabs):=by
 refine F.okW sQ ?_;rfl'
 ·obtain⟨a,ns,rfl,hS,hns,htb,q⟩:=h;intro X D;have tb:=sv.of htb;refine nR (oj 1 sQ<|Zv (WC T) hr<|Zb (Zv (Tf T) hr<|Zb (pv 0)<|Zb Ze<|Zb Ze Za)<|Zb (Wd (Ro T) hr rfl T.aH.m T.aH.F.kp T.aH.b .nil Z4<|Zb (pv 0)<|Zb Ze Za) Za) #[a,ns,22,36,rfl,hS,hns,by lk,by lk,λx H1 u s1 n1 e1 hc z8=>#[a,ns,0,rfl,s1.seq hS,x,_,u,rfl,nS e1,λc h=>(hc c h).1,z8,λt pl0 jl gl H2 N L J s2 ht hP hJ hG yo=>?_]];have A8:=s1.trans s2;have yv:=yo.v;have ya:Ew H2 t N L J:=#[pl0,jl,gl,ht,hP,hJ,hG]
  clear hc z8 e1 n1;refine nR (oj 2 sQ<|Zv (Zmd T) hr<|Zb (pv 1) Za) #[t,N,L,J,rfl,ya,yv,λI H3 s3 n3 tr3=>?_];have m9:=A8.trans s3;have tb3:=tb.mono m9;refine nR (oj 3 sQ<|Zn<|Zb (wJ (II T) T.gZ (PU T) hr.m rfl T.iu T.bd.b .nil Z4 (Ku T)<|Zb (pv 2) Za)<|Zb (wJ (II T) T.gZ (PU T) hr.m rfl T.iu T.bd.b .nil Z4 (Ku T)<|Zb (pv 2) Za) Za) #[#[I,N,L,J],rfl,tr3,yv,tb3,λx0 H4 a0 c0 nx0 k0=>#[#[I,N,L,J],rfl,tr3.mono k0.same,yv,tb3.mono k0.same,λx1 H5 a1 c1 nx1 k1=>#[nV,λkl H6 s6 n6 e6=>?_]]];refine nR (oj 4 sQ<|Zn Za) #[nV,λM H7 s7 n7 e7=>?_];let U:Bool->mG:=λy=>if y then x1 else x0
  let Y:Bool->tI:=λy=>if y then a1 else a0
  let D4:Bool->KC:=λy=>if y then c1 else c0
  have s57:=s6.trans s7;have o0:∀b,pM a0 b->H3 b=none/\∃p,H4 b=some p:=λb o=>let⟨h1,p,h2,_⟩:=k0.own o;#[h1,p,h2]
  have o1:∀b,pM a1 b->H4 b=none/\∃p,H5 b=some p:=λb o=>let⟨h1,p,h2,_⟩:=k1.own o;#[h1,p,h2]
  have n5:H5 M=none:=s6.free n7;have nh:∀y,¬pM (Y y) M:=λy z=>by
   cases y with
   | true=>obtain⟨_,p,e⟩:=o1 M z;rw[n5]at e;cases e
   | false=>obtain⟨_,p,e⟩:=o0 M z;rw[k1.same.free n5]at e;cases e
  have zk:∀b p,H3 b=some p->¬ZZ Y M b:=λb p e z=>by
   rcases z with⟨y,o⟩|rfl
   ·cases y with
    | true=>rw[k0.same.free (o1 b o).1]at e;cases e
    | false=>rw[(o0 b o).1]at e;cases e
   ·rw[k0.same.free (k1.same.free n5)]at e;cases e
  have sS:nH H3 (hard (ZZ Y M) H7):=λb p e=>Wq (s57.at<|k1.same.at<|k0.same.at e)<|zk b p e
  have eS:nH (hard (ZZ Y M) H7) H7:=λb p e=>(An e).1
  have L7:L6 T (hard (ZZ Y M) H7) H7 #[I,N,L,J] U Y D4 M (2 * 0):=by
   refine#[λy=>?_,λb o o'=>?_,nh,qu _,[],e7,oq _,(λ_ z=>nomatch z)]
   ·have x:∀b,pM (Y y) b->hard (ZZ Y M) H7 b=none:=λb o=>og<|.inl #[y,o]
    cases y with
    | true=>show(k1.mono s57).onto (tr3.mono sS) (tb3.mono sS) eS x
    | false=>show((k0.mono k1.same).mono s57).onto (tr3.mono sS) (tb3.mono sS) eS x
   ·obtain⟨_,p,e⟩:=o0 b o';rw[(o1 b o).1]at e;cases e
  have ekl:hard (ZZ Y M) H7 kl=some (.lst [.ref x0,.ref x1]):=by
   refine Wq (s7.at e6) ?_;rintro(⟨y,o⟩|z)
   ·cases y with
    | true=>obtain⟨_,p,e⟩:=o1 kl o;rw[n6]at e;cases e
    | false=>obtain⟨_,p,e⟩:=o0 kl o;rw[k1.same.free n6]at e;cases e
   ·rw[<-z,e6]at n7;cases n7
  have hSS:=(m9.trans sS).seq hS;have yaS:Ew (hard (ZZ Y M) H7) t N L J:=#[pl0,jl,gl,(s3.trans sS).at ht,hP.mono<|s3.trans sS,hJ.mono<|s3.trans sS,hG.mono<|s3.trans sS]
  have hk:∀y:Bool,pz [V.ref x0,.ref x1] (if y then 1 else 0)=some (.ref<|U y)/\pz [V.ref x0,.ref x1] (1-if y then 1 else 0)=some (.ref<|U !y):=λy=>by cases y<;>show#[Zm (by rfl),Zm<|by rfl]
  generalize hard (ZZ Y M) H7=S at L7 ekl hSS yaS;generalize U=U at L7 hk;generalize Y=Y at L7;generalize D4=D4 at L7;clear n5 nh zk sS eS o0 o1 s57 n6 n7 e6 e7 k0 k1 nx0 nx1;have ylen:=yv.len;refine qk (HR T S #[I,N,L,J] U M a t kl<|2 * 20) ?_ ?_
  ·refine qp (Y9 qo rfl (Fy rfl T.eZ<|Zb Ze<|Zb Ze Za) (oY 5 sQ) Zq) #[1,21,rfl,by lk,HG (lo:=1) (n:=20) (λi=>HR T S #[I,N,L,J] U M a t kl<|2 * i) (.mk _ _ _ _ _ _ _ _ _ _ _ _ L7) ?_ λ_ _ z=>z];rintro i r H1 hi ⟨o5,o6,o7,o8,o9,S5,N9,o12,o13,o14,Y,D4,L1⟩;have sS1:nH S H1:=(L1.k true).same;refine nR (oj 6 sQ<|Wd (Ro T) hr rfl T.aH.m T.aH.F.kp T.aH.b .nil Z4<|Zb (pv 0)<|Zb (pv 5) Za) #[a,ns,1+i,rfl,sS1.seq hSS,?_];generalize Er ns (1+i)=c;let I30:IC:=λσ' H'=>∃y:Bool,σ'=[some (.ref a),some<|.ref t,some<|.ref I,some<|.ref kl,some<|.ref M,some<|.int<|1+(i:Nat),some<|.int c,some<|.int<|if y then 1 else 0,o8,o9,S5,N9,o12,o13,o14]/\H1=H'
   refine qk I30 (qp (oj 7 sQ<|Xa So (by rfl) T.iM HZ<|Zb (xG hr (Zr Ym (Zr Yn (pv 6) Ze) Ze) Ze) Za) #[#[by lk,by lk],(by change(0:Int)<4;decide),.inl #[rfl,.inr<|qC rfl<|qC rfl rfl]]) ?_;rintro _ _ ⟨y,rfl,rfl⟩;refine nR (oj 8 sQ<|oi (pv 3)<|pv 7)<|.inl #[nS<|sS1.at ekl,(hk y).1,?_];refine nR (oj 9 sQ<|Zv (Qe T hb) hr<|Zb (oi (pv 3)<|Zr wl Ze<|pv 7) Za)<|.inl #[nS<|sS1.at ekl,(hk y).2,S,U !y,#[I,N,L,J],Y !y,D4 !y,rfl,L1.k _,λz2 H2 s2 t2=>?_];refine nR (oj 10 sQ ye) λdt H3 s3 n3 e3=>?_
   have m9:=s2.trans s3;have sS3:=sS1.trans m9;obtain⟨pl,jl',gl',y1,⟨ts,y2,y3⟩,y4,y5⟩:=id yaS;let I31:IC:=λσ' H'=>(∃N9 o12,σ'=[some (.ref a),some<|.ref t,some<|.ref I,some<|.ref kl,some<|.ref M,some<|.int<|1+(i:Nat),some<|.int c,some<|.int<|if y then 1 else 0,some<|.ref<|U y,some<|.str z2,some<|.ref dt,N9,o12,o13,o14])/\nH H1 H'/\∃td,H' dt=some (.dK<|Z0 V.bl td)
   refine qk I31 (qp (Y9 qo rfl (yQ rfl T.bM<|Zb (qh ["_law_kind","_law_name"] (pF 2 [] rfl) (Yd<|oi (pv 1) Ze) (xB (K:=K) (n:=2) rfl rfl<|Zu (pc 0)<|Zu (pc 1) Y5) X8 (pv 1)) Za) (tN rfl<|Zu (oY 11 sQ)<|Zu (oY 12 sQ) Y5) Zq)<|.inr<|.inl #[nX<|sS3.at y1,Zm (j:=0) rfl,nS<|sS3.at y2,λD hD=>FS (f:=λ_=>true) (sS3.at y2) (oA y3 λ_ _ n=>n.mono sS3) (by lia) hD (λH4 s4 e4=>#[nS e4,Ai (xs:=(Wo (λ_=>true) N).map V.str) (λj σ' H'=>(∃N9 o12,σ'=[some (.ref a),some<|.ref t,some<|.ref I,some<|.ref kl,some<|.ref M,some<|.int<|1+(i:Nat),some<|.int c,some<|.int<|if y then 1 else 0,some<|.ref<|U y,some<|.str z2,some<|.ref dt,N9,o12,o13,o14])/\(∀b o,b≠dt->H4 b=some o->H' b=some o)/\∃td,H' dt=some (.dK<|Z0 V.bl td)/\td.length<=j) #[#[_,_,rfl],λ_ _ _ z=>z,[],s4.at e3,oq _] ?k1 ?k2 ?k3]) ?aa (λ_ _ _ _ _ h=>h) ?cc]) ?nx
   case aa=>rfl
   case cc=>rfl
   case k1 =>
    rintro j σ' H' _ ⟨_,km,_⟩;show nS<|km _ _ (λz=>by rw[z]at hD;rw[e3]at hD;cases hD) e4
   case k2 =>
    rintro j v σ' H5 hj ⟨⟨N9,o12,rfl⟩,km,td,hd5,g⟩ tp H6 s6 n6 e6;rw[oF]at hj;obtain⟨l,hn,rfl⟩:=oN.mp hj;have B5:=(pT.mp hn).1;have hnl:=MB (λ_=>true) N;refine#[nX e6,rfl,rfl,?_];refine nU (uj (Xb hr) (pv 10) (pv 12) (xG hr (Zr Ym (Wd (BW T) hr rfl T.am.m T.am.F.kp T.am.b .nil Z4<|Zb (pv 6)<|Zb (pv 11) Za) Ze) Ze) rfl) #[c,j,rfl,(by change(0:Int)<9;decide),.inl #[rfl,rH.k (k:=Xd l) (s6.at hd5) ?_,#[_,_,rfl],λb o nb z=>by rw[Zd nb];show s6.at<|km b o nb z,pX td l _,by rw[Zc];show pO (λz=>some<|HO.dK z)<|zm _ _ _,?_]]
    ·rw[show(Z0 V.bl td).length=td.length from nQ ..];show Zo (by lia)
    ·show oU (Yac ..)<|yw g
   case k3 =>
    rintro σ' H5 ⟨⟨N9,o12,rfl⟩,km,td,hd5,_⟩;show#[#[_,_,rfl],λb o e=>km b o (Zf e<|s2.free n3)<|(m9.trans s4).at e,td,hd5]
   rintro σ' H4 ⟨⟨N9,o12,rfl⟩,s4,td,E1⟩;have L4:=L1.mono s4;have k4:=L4.k y;refine nR (oj 13 sQ<|Yf (pv 8) T.ae T.cP (HX T) hr.m T.bq.b .nil Z4) #[k4.obj,rfl,S,U y,#[I,N,L,J],Y y,D4 y,rfl,k4,λO3 p5 _ l5 H5 s5 n5 e5=>?_];have k5:=k4.mono s5;refine nR (oj 14 sQ<|Yf (pv 8) T.ae T.bV (Ws T) hr.m T.aT.b .nil Z4) #[k5.obj,rfl,S,U y,#[I,N,L,J],Y y,D4 y,rfl,k5,λl6 H6 s6 n6 e6=>?_];have L6':=L4.mono<|s5.trans s6;have k6:=L6'.k y;have nw:∀b o,S b=some o->¬pM (Y y) b:=λb o e z=>by rw[(k6.own z).1]at e;cases e
   have sH:nH S (hard (pM<|Y y) H6):=λb o e=>Wq (k6.same.at e)<|nw b o e
   have nF:∀b,H1 b=none->¬pM (Y y) b:=λb e z=>by
    obtain⟨_,p,e',_⟩:=(L1.k y).own z;rw[e]at e';cases e'
   have KA:=k6.onto (k6.trk.mono sH) (k6.tb.mono sH) (λb o e=>(An e).1) λb o=>og o;have A9:=s4.trans<|s5.trans s6;refine nR (Zt<|Zv (VG T) hr<|Zb (pv 8)<|Zb (pv 2)<|Zb (pv 1)<|Zb (pv 6)<|Zb (pv 10) Za) #[hard (pM<|Y y) H6,U y,#[I,N,L,J],t,dt,Y y,D4 y,td,c,rfl,KA,#[pl,jl',gl',k6.same.at y1,#[ts,k6.same.at y2,oA y3 λ_ _ n=>n.mono k6.same],y4.mono k6.same,y5.mono k6.same],(s5.trans s6).at E1,λz=>nF dt (s2.free n3)<|.inl z,λv H7 ad ct k7 stf=>?_];have L7:=L6'.deed k7;have e5:=k7.same.at<|Wq (s6.at e5)<|nF l5<|s4.free n5;have e6:=k7.same.at<|Wq e6<|nF l6<|(s4.trans s5).free n6;have kb:∀{u:Type}{f:Bool->u}{p:u},(if(!y)=y then p else f !y)=f !y:=nY (by cases y<;>decide);refine nR (Zx (rc<|uA (rV hr (qh ["_law_one","_law_lies","_law_keeper"] (pF 1 [14,8] rfl) (Yd<|pv 13) (pc 0) (sO<|Yg (r:=uY K) (wm hr) (Xy (Xb hr) (Yf (pv 2) T.ae T.bV (Ws T) hr.m T.aT.b .nil Z4) (pv 0) λ_ _=>rfl) (Xy (Xb hr) (pv 1) (pv 0) λ_ _=>rfl)<|Yv _) (pv 0))<|Zn Za)<|uP<|Xs<|Yw<|Zv (Lv T) hr<|Zb (pv 8)<|Zb (pv 2) Za) Zq Zk) #[nS e5,λC hC=>Yp (K:=K) (xs:=O3.map V.str) (λi ys H'=>ys=[]/\H' C=some (.lst [])/\nH H7 H') #[rfl,Zc,pP hC] ?_ ?_ ?_]
   ·rintro j ys H' _ ⟨_,_,sm⟩;show nS<|sm.at e5
   ·rintro j v ys H8 hj ⟨rfl,hC8,s8⟩;rw[oF]at hj;obtain⟨g,hp,rfl⟩:=oN.mp hj;have hp:=p5.mem_iff.mp<|qf hp;obtain⟨pb,hpb,rfl⟩:=oh.mp hp;obtain⟨⟨p',d⟩,S2,e'⟩:=oh.mp<|(k6.kx.lpt pb.1).mpr (k6.kx.sok pb hpb).1;have e':p'=pb.1:=e';subst e';have T7:=stf _ hp d S2;have k8:=k7.mono s8;refine#[pE rfl,k8.obj,rfl,_,U y,#[I,N,L,J],ad,ct,rfl,k8,λl9 H9 s9 n9 e9=>yO.mk (v:=.str d) (by rw[<-Wh (f:=V.str) k7.kx.lwd T7];show rn (k:=Xd pb.1) e9)<|yO.mk (v:=.str d) (by rw[<-Wh (f:=V.str) k6.kx.lwd S2];show rn (k:=Xd pb.1)<|(s8.trans s9).at e6)<|.inl #[rfl,Z7 (λz=>absurd z<|by simp) λ_=>#[rfl,s9.at hC8,s8.trans s9]]]
   rintro ys H8 ⟨rfl,hC8,s8⟩;refine#[nV,λl9 H9 s9 n9 e9=>.inr<|.inl #[1,.lst [],.lst [],by lk,.inr #[_,_,rfl,rfl],rM (nS<|s9.at hC8) .nil,rM (nS e9) .nil,Z7 (λz=>absurd z<|by simp) λ_=>#[_,U y,#[I,N,L,J],ad,ct,rfl,k7.mono<|s8.trans s9,λg y7=>?_]]];have L10:=L7.mono<|s8.trans<|s9.trans y7;have kB:=L10.k !y;rw[kb,kb]at kB;have ekl':=(L10.k y).same.at ekl;refine nR (Zx (rc<|uA (rV hr (Zv (Qe T hb) hr<|Zb (oi (pv 3)<|Zr wl Ze<|pv 7) Za)<|pv 9)<|uP<|Xs<|Yw<|Zv (Lv T) hr<|Zb (oi (pv 3)<|Zr wl Ze<|pv 7)<|Zb (pv 2) Za) Zq Zk)<|.inl #[nS ekl',(hk y).2,S,U !y,#[I,N,L,J],Y !y,D4 !y,rfl,kB,λg T1 A5 t3=>.inl #[rfl,Z7 (λz=>?_) λ_=>.inl #[nS<|A5.at ekl',(hk y).2,S,U !y,#[I,N,L,J],Y !y,D4 !y,rfl,kB.mono A5,λU7 A8=>?_]]]
   ·rw[t3.one t2]at z;show absurd z (by simp)
   have L12:=L10.mono<|A5.trans A8;clear kB L10 L7 k7 KA k6 k5 k4 L4 L6' L1;generalize(λx=>if x=y then ad else Y x)=G at L12;generalize(λx=>if x=y then ct else D4 x)=B at L12;have kA:=L12.k y;obtain⟨us,eh,D1,_⟩:=id L12.held;refine nR (Zt<|rS (pv 4)<|Zi<|Zb (Yf (pv 8) T.ae T.cx (EN T) hr.m T.aW.b .nil Z4)<|Zb (Z5 (r:=zA) (Bu hb hr.gd hr.units) (by rfl) T.fN BU<|Zb (Yf (pv 8) T.ae T.cx (EN T) hr.m T.aW.b .nil Z4) Za) Za) #[.inl #[rfl,_,nS eh],kA.obj,rfl,S,U y,#[I,N,L,J],G y,B y,rfl,kA,λss D es g q1 q2 m9 nD pD fD nE=>#[(kA.mono m9).obj,rfl,S,U y,#[I,N,L,J],G y,B y,rfl,kA.mono m9,λss2 D2 es2 T2 q3 q4 u8 nD2 pD2 fD2 nE2=>?_]];obtain rfl:=Ac q2 q4<|q1.trans q3.symm;have ds:=Rq q1 kA.kx kA.yv;have rD2:=pD2.rp;rw[fD2]at rD2;refine#[D2,_,rfl,rD2,ds.1,oU ds.2.2.1 (by lk),ds.shown (by lk),nV,λt15 H15 B8 n15 jY=>#[(m9.trans<|u8.trans B8).at eh,by rw[nQ];show Zo (by lia),?_]];have sA:=m9.trans<|u8.trans B8;have L15:=L12.app (d:=Ci ss (B y).val) sA eh ((m9.trans u8).free n15) jY (by
    have:=(Ye.hard (pD.mono<|u8.trans B8) (Z:=ZZ G M) (L12.nz nD) (λe g=>L12.nz<|nE e g) λb U e z=>(by
     obtain⟨p,e2,l⟩:=(L12.mono sA).z z;show l U<|pI<|e2.symm.trans e)).rp
    rwa[fD]at this) ds
   have kB:=L15.k y;obtain⟨vs,eh2,g,_⟩:=id L15.held;generalize nO H15 M (.lst<|us.map V.ref++[.ref t15])=H16 at L15 kB eh2;refine nU (Zt<|rS (pv 4)<|Zi<|Zb (Yf (pv 8) T.ae T.aJ (Yz T) hr.m T.aw.b .nil Z4)<|Zb (Z5 (r:=zA) (Bu hb hr.gd hr.units) (by rfl) T.fN BU<|Zb (Yf (pv 8) T.ae T.aJ (Yz T) hr.m T.aw.b .nil Z4) Za) Za) #[.inl #[rfl,_,nS eh2],kB.obj,rfl,S,U y,#[I,N,L,J],G y,B y,rfl,kB,λg r1 r2 l17 H17 C2 n17 jZ=>#[(kB.mono C2).obj,rfl,S,U y,#[I,N,L,J],G y,B y,rfl,kB.mono C2,λss4 r3 r4 l18 H18 F8 n18 ke=>?_]];obtain rfl:=Ac r2 r4<|r1.trans r3.symm;have ds2:=(MZ r1 kB.kx).up (m:=24000) (j:=3) (by lk) (by lk);refine#[l18,_,rfl,De ke,ds2.1,oU ds2.2.2.1 (by lk),ds2.shown (by lk),nV,λg H19 N3 n19 e19=>#[(C2.trans<|F8.trans N3).at eh2,by rw[nQ];show Zo (by lia),?_]];show .mk _ _ _ _ _ _ _ _ _ _ G B<|L15.app (C2.trans<|F8.trans N3) eh2 ((C2.trans F8).free n19) e19 (De<|Wq ((F8.trans N3).at jZ)<|L15.nz n17) ds2
  ·rintro r H8 ⟨o5,o6,o7,o8,o9,S5,N9,o12,o13,o14,Y,D4,l⟩;obtain⟨us,eh,D1,j⟩:=l.held;refine nU (Zl<|xG hr (qh ["_law_pair"] (pF 1 [] rfl) (Yd<|pv 4) (pc 0) (sO<|Yg (r:=uY K) (wm hr) (Z5 (r:=zA) (Bu hb hr.gd hr.units) (by rfl) T.fN BU<|Zb (W2 (K:=K) rfl (pv 0) Ze) Za) (W2 (K:=K) rfl (pv 0) Ze)<|Yv _) (pv 0))<|Zn Za) #[nS eh,λC hC=>Yp (K:=K) (xs:=us.map V.ref) (λi ys H'=>ys=[]/\H' C=some (.lst ys)/\nH H8 H') #[rfl,Zc,pP hC] ?_ ?_ ?_]
   ·rintro i ys H' _ ⟨_,_,sm⟩;show nS<|sm.at eh
   ·rintro i v ys H' hi ⟨rfl,u,sm⟩;rw[oF]at hi;obtain⟨p,g,rfl⟩:=oN.mp hi;obtain⟨d,x,x1,G,n⟩:=j p<|qf g;have s9:nH (hard (ZZ Y M) H8) H':=λb o e=>sm.at (An e).1
    have x1:=s9.at x1;refine#[pE rfl,.inr<|.inl #[nX x1,Zm (j:=0) rfl,d,x,rfl,KG s9 G,n.1,oU n.2.2.1 (by lk),n.shown (by lk),.inr<|.inl #[nX x1,Zm (j:=1) rfl,.inl #[rfl,?_]]]];rw[oO rfl];show#[rfl,u,sm]
   ·rintro ys H' ⟨rfl,u,sm⟩;refine#[nV,λle H2 s2 x e2=>.inr<|.inl #[1,.lst [],.lst [],by lk,.inr #[_,_,rfl,rfl],rM (nS<|s2.at u) .nil,rM (nS e2) .nil,?_]];rw[oO rfl];show q H2
end
end K65
end
namespace K65
open PySem L2 NM YM
def Yhr{y:Type}{us:mD y}(h:us.length=2):∃a b,us=[a,b]:=by
 rcases us with _|⟨a,_|⟨b,_|_⟩⟩<;>first|show#[_,_,rfl]|cases h
def Os{y:Type}{us:mD y}(h:us.length=3):∃a b c,us=[a,b,c]:=by
 rcases us with _|⟨a,_|⟨b,_|⟨c,_|_⟩⟩⟩<;>first|show#[_,_,_,rfl]|cases h
def ZX{y:Type}{us:mD y}(h:us.length=4):∃a b c d,us=[a,b,c,d]:=by
 rcases us with _|⟨a,_|⟨b,_|⟨c,_|⟨d,_|_⟩⟩⟩⟩<;>first|show#[_,_,_,_,rfl]|cases h
def Yf4{us:mD mH}{n:Nat}(h:us.length=n):us=(List.range n).map (λi=>us.getD i .none):=by
 subst h;apply List.ext_getElem?;intro i
 by_cases h:i<us.length<;>simp[h]
def mR{K:mK}{f:mG}{x q:mF}{st:mM}{r kV p y s w:mH}{od u:mJ mG}{o:Array (mJ mH)}{ps:mD mF}(l:K.lookup f=some #[r,od,.func<|fnOf x q (W1 st) (Y6 st) (Zj st) .none kV p y u s w,o])(e:codeIn K s q=true)(k:keepIn K (.ref f)=true)(b:∀kV n y u j w (v:Nat->mH),bindArgs (fnOf x q (W1 st) (Y6 st) (Zj st) .none kV n y u j w) #[(List.range ps.length).map v,[]]=pure (ps.zip<|(List.range ps.length).map v)):Dn K x q st ps:=#[f,_,Jb l e k,(Jb l e k).binds λ_ _ _ _ _ _ i h=>by rw[Yf4 h];show b ..]
def DI{K:mK}{f u:mG}{p kV o n r j i:mH}{od h x:mJ mG}{g w:Array (mJ mH)}{d:Nat}{tk:Tok}(l:K.lookup f=some #[p,od,.func<|fnOf "leads" "Part.leads" (W1 Wc) (Y6 Wc) (Zj Wc) (.ref u) kV o n h r j,g])(ld:K.lookup u=some #[i,x,.seq (List.toArray [.str "" tk]) d,w])(e:codeIn K r "Part.leads"=true)(k:keepIn K (.ref f)=true):zK K "leads" "Part.leads" Wc ["self","end","lie"] (.str "") :=
 #[f,_,_,Oe (st:=Wc) l e k,λs q KX y=>by
   rw[qM]at y ⊢;obtain⟨_,_,_,rfl⟩:=Os y;show Cv rfl (KX _ _ ld) rfl rfl rfl,.str "" tk,#[tk,rfl],λs q KX y=>by
   have c:q.length=2:=by simpa using y
   obtain⟨_,_,rfl⟩:=Yhr c;show Cv rfl (KX _ _ ld) rfl rfl rfl]
def Du{K:mK}{f u:mG}{p kV o n r j i:mH}{od h x:mJ mG}{g w:Array (mJ mH)}{d:Nat}(l:K.lookup f=some #[p,od,.func<|fnOf "__init__" "Tracks.__init__" (W1 Y3) (Y6 Y3) (Zj Y3) (.ref u) kV o n h r j,g])(ld:K.lookup u=some #[i,x,.seq (List.toArray [.none]) d,w])(e:codeIn K r "Tracks.__init__"=true)(k:keepIn K (.ref f)=true):zK K "__init__" "Tracks.__init__" Y3 ["self","parts","joins","signals"] .non :=
 #[f,_,_,Oe (st:=Y3) l e k,λs q KX y=>by
   rw[qM]at y ⊢;obtain⟨_,_,_,_,rfl⟩:=ZX y;show Cv rfl (KX _ _ ld) rfl rfl rfl,.none,rfl,λs q KX y=>by
   have c:q.length=3:=by simpa using y
   obtain⟨_,_,_,rfl⟩:=Os c;show Cv rfl (KX _ _ ld) rfl rfl rfl]
def mXI{K:mK}{C Y f y:mG}{x nm qn:mF}{bs sub:mD mH}{sn:mD mF}{ab:Bool}{col:mJ Bool}{dd:mJ mG}{k0 k1 k2 k3 k5:mJ mH}(lk:K.lookup C=some (excClassObj nm qn C y bs (.ref Y ::wN) true sn sub ab col dd k0 k1 k2 k3 k5 "ValueError.__new__"))(w:keepIn K (.ref C)=true)(u:findIn K (.ref C) "__init__"=some (some<|.ref f))(fn:PySem.W.typeIn K (.ref f)=some (.type "function"))(s:findIn K (.ref C) "__setattr__"=some (some<|.builtin "object.__setattr__"))(r:findIn K (.ref C) x=some none)(g:XG K C):XI K C Y f x:=#[#[_,_,_,_,_,_,_,_,_,_,_,_,_,_,lk],w,u,fn,s,g.xa,r]
def JO(vs:Array mH)(p:mG):Prop:=vs[11]? =some (.ref p)
def mL{K:mK}{fd:mU}{c p:mG}{od:mJ mG}{vs:Array mH}{y:Array (mJ mH)}(e:fd.code=.ref c)(_:K.lookup c=some #[.type "code",od,.fields vs,y])(_:JO vs p)(h:PySem.W.codeHdIn K c p=true):wC K fd p:=#[c,e,h]
abbrev Tx.pts{K:mK}{mg:mF->mJ mH}(T:Tx K mg):mD mG:=[T.bN,T.bv,T.bg,T.bO,T.bY,T.aV]
def tS{K:mK}{a:mG}{od:mJ mG}{y:Array (mJ mH)}{n:Nat}{x w:Tok}(h:K.lookup a=some #[.type "tuple",od,.seq (List.toArray [.str "" x,.str "" w]) n,y])(H:Hp):SqT K H a ([.str "",.str ""]:mD V):=.inr #[_,_,_,h,rfl,rfl,by simp[uh],.cons #[_,rfl]<|.cons #[_,rfl] .nil]
def mE{y:Type}{p:y->Prop}{a:y}(h:p a):∃x,p x:=#[a,h]
def fin{l:PySem.W.OpenLaw}{w:mP}{K:mK}{h:mO}{x:mF->mJ mH}{q f:mG}{g kV o n u j:mH}{od i:mJ mG}{d:Array (mJ mH)}(X:K.In h)(G:h.Ns mainGlobals x)(r:x "law"=some (.ref q))(T:Tx K x)(a:nsIn K mainGlobals "law"=some (some<|.ref f))(lk:K.lookup f=some #[g,od,.func<|fnOf "law" "law" (W1 wf) (Y6 wf) (Zj wf) .none kV o n i u j,d])(e:codeIn K u "law"=true)(k:keepIn K (.ref f)=true)(y:∀p∈T.pts,h.get? p=some (PySem.W.tabObj #[]))(c:T.pts.Nodup)(Y:PySem.W.noTabs K=true)
  :∃(fd:mU)(tabs:mD (mG×Array mH)),Dl K h tabs/\(∀(s:mI)(v:mH),BindsTo s fd #[[v],[]] [("_law_script",v)])/\∀nI:mO,K.In nI->nI.Ns mainGlobals x->(∃U,nI.Ns sysModules U)->Wz l.prog w K x nI pL 14 q fd ["_law_script"] (zB K tabs):=by
 have e:=r.symm.trans<|mg_of X G a;cases e;show#[fnOf "law" "law" (W1 wf) (Y6 wf) (Zj wf) .none kV o n i u j,T.tabs,#[rF.mpr #[T.eE.imp λ_ z=>z.2,rF.mpr #[T.dP.imp λ_ z=>z.2,rF.mpr #[T.dQ.imp λ_ z=>z.2,rF.mpr #[T.eF.imp λ_ z=>z.2,rF.mpr #[T.eV.imp λ_ z=>z.2,rF.mpr #[T.eG.imp λ_ z=>z.2,λ_ z=>nomatch z]]]]]],rF.mpr #[y T.bN (by simp[Tx.pts]),rF.mpr #[y T.bv (by simp[Tx.pts]),rF.mpr #[y T.bg (by simp[Tx.pts]),rF.mpr #[y T.bO (by simp[Tx.pts]),rF.mpr #[y T.bY (by simp[Tx.pts]),rF.mpr #[y T.aV (by simp[Tx.pts]),λ_ z=>nomatch z]]]]]],rF.mpr #[#[_,rfl,by lk],rF.mpr #[#[_,rfl,by lk],rF.mpr #[#[_,rfl,by lk],rF.mpr #[#[_,rfl,by lk],rF.mpr #[#[_,rfl,by lk],rF.mpr #[#[_,rfl,by lk],λ_ z=>nomatch z]]]]]],c,Y],λs v=>.of_eq rfl,λnI _ _=>SJ (Jb (st:=wf) lk ‹_› k) T]
def uW{K:Params->mK}{as:mD mG}{e:∀P,as=(K P).map (·.1)}{ts ps:mD mG}{w:mP}{h:mO}(Y:(PySem.W.kmHook K as e ts).says w h)(i:(ps.all λp=>ts.contains p)=true:=by lk):∀p∈ps,h.get? p=some (PySem.W.tabObj #[]):=λp y =>
 PySem.W.km_tabs_of Y p (Of.mp<|xx.mp i p y)
def walk{l:PySem.W.OpenLaw}{q:mS}{n:mD mF}{j:(mF->mJ mH)->mO->Prop}{r:mP->mO->Prop}{d:DefRec}{K:Params->mK}(i:l.most=some 63)(p:d.params.defaults=[])
  (g:∀(w:mP)(h:mO),r w h->(K w.params).In h)
  (F:∀(w:mP)(y:mF->mJ mH)(o:mG)(h:mO),r w h->(K w.params).In h->h.Ns mainGlobals y->y d.name=some (.ref o)->
   ∃(fd:mU)(tabs:mD (mG×Array mH)),Dl (K w.params) h tabs/\(∀(s:mI)(u:mH),BindsTo s fd #[[u],[]] [("_law_script",u)])/\∀nI:mO,(K w.params).In nI->nI.Ns mainGlobals y->(∃e,nI.Ns sysModules e)->Wz l.prog w (K w.params) y nI pL 14 o fd ["_law_script"] (zB (K w.params) tabs)) (c:PyProof.Rows.importsNone q=true) :
  PySem.W.WalkO q n j r l.row.toRowW d [] (λf vs=>PySem.call f vs):=L2.walk_ofS (k:=14) (x :="_law_script") i p #[rfl,by lk,by lk,rfl] g F c
end K65
end
namespace PySem.W.Fast
def tw11594647090384706461:=True
lay_quick env_41 heap_1137 heap_39 heap_46 sts_1006 sts_1089 sts_109 sts_124 sts_146 sts_168 sts_190 sts_205 sts_225 sts_284 sts_299 sts_328 sts_343 sts_386 sts_436 sts_487 sts_49 sts_549 sts_594 sts_64 sts_649 sts_723 sts_781 sts_79 sts_94 tree_1002 tree_108 tree_1088 tree_1136 tree_123 tree_145 tree_167 tree_189 tree_204 tree_224 tree_283 tree_298 tree_327 tree_342 tree_385 tree_435 tree_47 tree_486 tree_548 tree_593 tree_63 tree_648 tree_722 tree_78 tree_780 tree_918 tree_93 view_39
end PySem.W.Fast
open PySem PySem.W PyProof.Rows L2 K65
set_option maxRecDepth 100000 in
set_option maxHeartbeats 0 in
theorem PySem.Challenge.cw_yardkeep_k66_whole_keeper_holds : PySem.Challenge.rw_yardkeep_k66_whole_keeper.Holds := by
  w_on; o_law; k_head; (case hw=>w_witness2)
  k_fill
  refine K65.walk (l:=PySem.Challenge.rw_yardkeep_k66_whole_keeper) rfl rfl (fun w h Y=>km_in_of Y) ?F ?Qz
  case Qz=>kernel_rfl
  case F=>
   intro w mg fa h Y X G hm
   have g:=fun{n v}=>@mg_of _ _ mg n v X G
   have n:=fun{n}=>@mg_none_of _ _ mg n X G
   refine' K65.fin X G hm ?T ?_ ?_ ?_ ?_ ?tm ?tn ?tq
   case' T=>apply Tx.mk
   all_goals try first|refine' mR ?_ ?_ ?_ ?_|refine' ⟨mR ?_ ?_ ?_ ?_,g ?_⟩|refine' DI ?_ ?_ ?_ ?_|refine' Du ?_ ?_ ?_ ?_
   all_goals try (intro _ _ _ _ _ _ u;rfl)
   all_goals try (refine g ?_;k_is)
   all_goals try (refine n ?_;k_is)
   all_goals try refine' mE (g ?_)
   all_goals try refine' uX (g ?_) ?_
   all_goals try refine' mXI ?_ ?_ ?_ ?_ ?_ ?_ ?_
   all_goals try refine' mL ?_ ?_ ?_ ?_
   all_goals try refine' tS ?_
   all_goals try k_is
   all_goals try (refine ⟨?_,?_,?_,?_⟩<;>(try dsimp only [mR,DI,Du])<;>k_is)
   all_goals try (refine ⟨?_,?_,?_⟩<;>(try dsimp only [mR,DI,Du])<;>k_is)
   all_goals try dsimp only [mR,DI,Du,nZ,kB,cB]
   all_goals try k_is
   all_goals try kit_is
   all_goals try k_exc
   all_goals try (refine ⟨⟨?_,?_,?_⟩,?_,?_,?_,?_,?_⟩<;>first|k_is|(show isClsIn _ _=true;k_is))
   all_goals try k_is
   all_goals try (delta JO;rfl)
   all_goals try first|kernel_rfl|rfl
   case tm=>dsimp only [Tx.pts];exact uW Y
   case tn=>dsimp only [Tx.pts];decide
